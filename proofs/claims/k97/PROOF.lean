import PyProof.Rows.All
import Wide.All
import Wide.FinOn
import Lean
import KE.KDictList
import KE.KEqDat
import KE.KIntText
import KE.KIsAll
import KE.KRevSl
import KE.KSortAsk
import KE.KDictSum
import PySem.Challenge.RW_vesselhall_k97_whole_no_lack_whatever_th
set_option compiler.extract_closed false
set_option genSizeOf false
set_option Elab.async false
set_option linter.all false
set_option maxRecDepth 100000
set_option maxHeartbeats 0
local macro_rules | `(∅)=>`(by lia)
local macro_rules | `(abbrev $i $s:optDeclSig $v:declVal)=>`(noncomputable def $i $s $v:declVal)
local macro_rules | `(nonrec def $i $s:optDeclSig $v:declVal)=>`(noncomputable abbrev $i $s $v:declVal)
local macro_rules | `(def $i $b*:$t $v:declVal)=>`(theorem $i $b*:$t $v:declVal)
local macro_rules | `(⇑$x)=>`(some (.ref $x))
local macro_rules | `(↥$x)=>`(some (.int $x))
local macro_rules | `(tactic| get_elem_tactic_extensible)=>`(tactic| omega)
local macro_rules | `(tactic| walk_at "o") => `(tactic| first|exact Or.inl rfl|exact Or.inr rfl)
local macro_rules | `(tactic| walk_at "s") => `(tactic| exact ⟨rfl,rfl,rfl,by decide +kernel,rfl,by decide +kernel,by decide +kernel⟩)
open PySem.Challenge renaming pw_vesselhall_k97_whole_no_lack_whatever_th->PW97
open List renaming length_map->Si,getD_eq_getElem?_getD->Sj,getElem?_eq_getElem->Sk,getElem?_eq_some_iff->Sn,getElem?_map->So,mem_of_getElem?->Sq,map_append->Sr,mem_cons_self->Sv,mem_cons_of_mem->Sw,length_append->SC,take_of_length_le->SD,mem_map->SE,range->SJ,take_add_one->SK,length_take->SL,exists_cons_of_length_eq_add_one->SM,mem_singleton->SO,mem_append->SQ,replicate->SR,length_range->SV,mem_append_right->SW,size_toArray->SZ,mem_cons->S_,getElem?_of_mem->Tb,mem_append_left->Te,getElem?_eq_none->Tj,mem_filter->Tt,length_cons->Tu,mem_range->Tv,getElem?_append_left->Tx,eq_nil_of_length_eq_zero->TB,getElem?_range->TC,getElem?_append_right->TH,map_cons->TM,take_length->TX,map_map->TY,length_eq_zero_iff->T0,getElem?_zipWith->T_,length_filter_le->Ua,filter_cons_of_neg->Uf,length_replicate->Uh,nodup_cons->Uj,mem_iff_getElem->Uk,getElem_mem->Ul,filter_cons_of_pos->Um,zipWith->Up,append_assoc->Ur,length_drop->Ux,exists_cons_of_length_pos->UC,length->UD,foldl_append->UJ,mem_of_mem_take->UM,filter_append->UP,length_eq_one_iff->US,map_congr_left->UV,length_zipWith->UW,range_succ->U5,getElem?_cons_succ->Va,drop_of_length_le->Vd,find?_cons->Vi,length_singleton->Vj,getElem?_take_of_lt->Vn,append_nil->Vy,getElem_inj->VE,lookup_cons->VF,not_mem_nil->VG,nodup_nil->VJ,findIdx?_eq_some_iff_getElem->VO,findIdx?_eq_none_iff->VP,replicate_succ->V4,length_pos_iff->V5,getElem?_replicate_of_lt->Wa,getElem?_set_self->We,nil_append->Wl,dropLast_concat_getLast->Wn,getElem?_toArray->Ws,getElem?_set_ne->Wx,nodup_range->WL,filterMap_cons->WN,flatMap_append->WP,mem_map_of_mem->WQ,any_cons->WV,foldl_cons->WX,length_nil->WY,getElem?_drop->W3,map_singleton->W5,mem_replicate->W6,take->W9,range'->W_,take_sublist->Xh,flatten_cons->Xj,nodup_append->Xo,length_pos_of_mem->Xp,flatten_replicate_singleton->Xr,eraseIdxIfInBounds_toArray->Xu,singleton_append->Xw,take_append_drop->Xx,contains_iff_mem->Xy,forall_mem_cons->XT,mem_of_mem_drop->XV,take_append_of_le_length->XX,getLast?_eq_some_getLast->XZ,map_nil->X_,pairwise_cons->Yt,map_replicate->Yy,find?_eq_none->Yz,drop_eq_getElem_cons->YA,pairwise_iff_getElem->YB,getLastD_eq_getLast?->YC,ext_getElem?->YK,length_erase_of_mem->YV,cons_append->YX,getElem?_replicate->Y1,all_eq_true->Za,drop_eq_nil_of_le->Zn,pairwise_lt_range->Zq,of_mem_zip->Zt,length_set->Zu,drop_zero->ZJ,range_eq_range'->ZQ,length_eraseIdx->ZR,mem_erase_of_ne->ZT,drop->Z3,map_drop->Zaf,mem_filterMap->Zap,getElem?_take->Zas,map_inj_right->Zat,mem_range'_1->ZaI,filter_congr->ZaR,all_map->ZaU,pairwise_map->ZaW,filter_cons->Za_,mem_flatMap->Zbg,foldl->ZbL,Nodup->ZbS,all_cons->ZbW,map_take->Zb0,Perm->Zb4,map->Zb7
open PySem renaming wpAny_bind->Ss,Value->Su,Shared->SB,wpAny_pure->SN,Program->TK,World->Ub,Around->Uc,importedModules->Us,sizeLine_eq->UG,wpAny_newObj_type->UI,wpAny_mono->UK,wpAny_Call_Name_kw->UL,wpAny_call_entry->UT,wpAny_truthy_bool->UX,SetTable->U2,wpAny_callSpecial?_slot->U_,wpAny_typeNameOfWhole_keyiter->Vp,Builtin->Vr,wpAny_holding->VB,FuncData->VI,treeTable->VQ,wpAny_passesOwn->VR,World->VT,mem_of_lookup->V3,wpAny_getItem_str_slice->V7,wpAny_setField->V8,wpAny_askSetting->WJ,OsState->WS,tupleKind_room_in1->W0,wpAny_setField_rec->W2,wpAny_pyIter_list->Xf,isSubtype_type->Xm,wpAny_setState_of->Xn,call_meets->XA,wpAny_isInstance->XE,wpAny_attempt->XJ,wpAny_field->XS,wpAny_execs_nil->X0,codeAny_builtin->X5,wpAny_setEntries_of->X8,codeAny_mono->X9,DictEntry->Yg,wpAny_pyIter_tuple->Yk,wpAny_fieldsOf->Yn,wpAny_seqItems->Yp,wpAny_pyIter_slot->YH,wpAny_dictEntries->YI,wpAny_of_eq->YJ,wpAny_standAt->YO,wpAny_comprehension_free->YS,NameKind->Y0,wpAny_rule->Zf,wpAny_dictEpoch->Zv,wpAny_isTrue_Compare1->Zy,wpAny_isOneOf_keyiter->ZB,builtinLookup_eq_fast->ZC,isSubtype_stop->ZK,wpAny_newTuple->ZM,OsState->ZY,wpAny_handled->Zab,strLen_append->Zae,call->Zal,Shared->Zay,BindsTo->ZaC,seqIndex_neg->ZaD,Result->Za7,putSet_of->Zbd,Walks->Zbj,seqIndex_of->Zbm,wpAny_throw->Zbp,Keyword->ZbD,GenState->ZbH
open Nat renaming le_refl->Sx,le_trans->Ta,pow_le_pow_right->Tc,lt_of_lt_of_le->Tf,lt_of_le_of_lt->Tk,gcd->Tz,ne_of_lt->TN,zero_le->TV,not_lt_zero->TZ,mul_le_mul_right->T8,mul_le_mul_left->Ue,lt_trans->Ut,mul_assoc->Uv,pow_succ->Uy,mul_le_mul->Uz,pow_lt_pow_right->UA,mul_comm->UE,le_mul_of_pos_left->UU,mul_pos->UZ,lt_or_ge->Vf,pow_le_pow_left->Vg,add_sub_cancel_left->Vu,pos_of_mul_pos_left->Vv,pow_pos->VD,lt_of_le_of_ne->VM,strongRecOn->VS,le_of_lt->VU,lt_irrefl->VZ,mul_lt_mul''->V9,zero_add->Wc,ne_of_gt->Wg,lt_trichotomy->Wu,succ_le_succ->WH,succ_mul->WI,gcd_dvd_left->WK,eq_zero_or_pos->W4,pos_of_ne_zero->W7,pow_add->Xc,Coprime->Xd,mul_left_comm->Xs,min_le_right->XB,min_eq_right->XC,log2_self_le->XH,le_of_dvd->XN,le_succ->XQ,min_eq_left->X4,pow_zero->Ye,div_eq_of_eq_mul_right->Yw,gcd_dvd_right->YN,lt_succ_iff_lt_or_eq->YU,lt_succ_self->Y7,mul_div_cancel_left->Zb,le_mul_of_pos_right->Zc,min_self->Zo,two_pow_pos->Zw,div_lt_iff_lt_mul->ZD,add_mul_div_right->ZE,two_mul->ZU,one_mul->ZV,add_lt_add->ZW,le_log2->ZX,add_le_add_left->Z5,add_comm->ZaE,le_of_eq->ZaG,succ_pos->ZaJ,sub_self->ZaM,lt_succ_of_lt->ZaP,le_succ_of_le->ZaT,dvd_mul_right->Za0,div_eq_of_lt->Zbf,lt_log2_self->Zbh,log2_lt->Zbn,div_add_mod->Zbx,le_self_pow->ZbB,mod_lt->ZbR
open PySem.Heap renaming get?_push_of_some->Sy,lt_size->Td,get?_push_size->Th,get?_update_self->UH,SameBut->Vz,size_push->VL,get?_update_other->Zj,get?_push_cases->ZN,get?_update_ne->Z7,ExtBut->Zbo
open Option renaming map_eq_some_iff->SA,isSome_iff_exists->WU,getD_some->XG,map_some->X1,toList_some->Yv,isSome_map->ZaH,getD_none->Za8
open Option.some renaming inj->SU
open Bool renaming false_ne_true->SX,eq_iff_iff->Vx,false_eq_true->Wi,and_eq_true_iff->Ww,and_eq_true->WG,noConfusion->Y6,false_and->ZbI,or_false->ZbV,false_or->ZbX,and_true->Zb2
open Int renaming mul_assoc->SY,mul_left_comm->To,mul_eq_zero->TJ,mul_zero->TL,toNat_natCast->TW,mul_comm->T9,natAbs_mul->Ud,eq_of_mul_eq_mul_left->Ug,zero_mul->Uq,zero_add->UB,add_zero->UF,emod_lt_of_pos->UO,neg_one_mul->UR,neg_mul->UY,pos_of_mul_pos_right->U1,emod_nonneg->U6,mul_add->Vb,mul_neg->Vq,mul_fdiv_cancel'->VX,mul_pos->VY,mul_fdiv_cancel_left->V2,mul_le_mul_of_nonneg_right->V_,mul_le_mul_of_nonneg_left->Wb,add_mul->WB,mul_nonneg->WC,dvd_trans->WW,mul_sub->Xb,natAbs_add_le->Xq,nonneg_of_mul_nonneg_right->XF,one_mul->XW,le_refl->XY,gcd_eq_natAbs_gcd_natAbs->X7,lt_or_le->Yd,fdiv_eq_ediv_of_nonneg->Yl,fmod_eq_emod_of_nonneg->Ym,natCast_nonneg->Yr,natAbs_neg->Yx,mul_neg_of_pos_of_neg->YD,gcd_dvd_right->YL,neg_dvd->YM,gcd_dvd_left->Y8,gcd_mul_left->Y9,fmod_nonneg_of_pos->Zl,le_of_lt->Zp,natCast_mul->Zx,fdiv->ZO,toNat_of_nonneg->Z8,fmod_lt_of_pos->Zar,sub_eq_add_neg->Zau,ofNat_dvd_left->Zav,natAbs_natCast->Zaw,fmod->ZaK,fmod_def->ZaL,emod_eq_of_lt->ZaS,neg_zero->ZaV,natAbs_sub_le->ZaX,mul_one->Zbk,sub_mul->Zbq,natCast_add->Zby,mul_ne_zero->Zbz,gcd->ZbE
open Array renaming length_toList->Tq,getElem?_toList->Ts,getElem?_eq_none->VA,toArray_toList->Wz,getElem?_eq_some_iff->WA,append_empty->Zah,ext_getElem?->Zaq,mk->ZbF
open PySem.W.Dat renaming int->TF,bool->WD,str->Z2,bool->Zbc
open PyProof.Rows renaming callWith_type1->TQ,IntsAre->Wh,callWith_builtin1->Xz,assignInOrder_cons->Yj,AllBare->YF,intBits_le->Y4,subscriptTail_builtinR->Zi,boot_range->Zao
open PySem.Value renaming ref->TU,none->U8,isInt->Vh,int->WF,type->Yh,bool->Ze,str->ZZ,isStrOf->Zaa,scannable->Zbw
open PySem.Builtin.Str renaming strSliceIndices->Ui
open Nat.succ renaming inj->Uo
open PySem.Heap.SameBut renaming update->Uu
open Classical renaming byContradiction->Uw,choose_spec->Vk,choose->VH
open PySem.W renaming kia_one->UQ,boot_heap->U0,view->U3,fnOf->Vc,keepIn->V6,kqdP->Wk,kqd_lay->Wm,codeIn->Wy,recOk->WR,xlAt->Xe,kitOne->Xg,kHook->XI,nsIn->Yb,methodObj->YE,mg_of->YR,openSeen->YY,kqd_layL->Y5,cellsFrom_some->Zg,instObj->Zs,lookIn->ZH,recFacts_of->Z4,LeftO->Z9,WalkO->Z_,boot_drawn->Zai,holds_open->Zaj,Frag->Zax,kitx_list->ZaA,kitx_dict->ZaB,boot_toks->Za1,openGood->Za2,plainGet->Za6,kdl_call->Zbb,OpenLaw->Zbt,kqd_any->Zbv,SharedT->ZbC,XL->ZbG,findIn->ZbJ,kitCls->ZbM,KdlSrc->ZbN,xl_of->ZbU,kqdPs->Zb1
open PySem.F renaming slot_dict_keyiterator_next->U4,plainAttrs_list->Vw,called_set->Wj,slot_dict_get->Xv,args_dict_keyiterator_next_1->XD,entry_dict_keyiterator_next->XR,slot_tuple_iterator_next->Yo,args_tuple_add_2->YQ,entry_tuple_add->Y2,args_dict_get_2->Y3,slot_tuple_add->Zh,entry_dict_get->Zk,slot_list_pop->ZF,type_list_pop->ZG,entry_list_pop->Za9,slot_dict_iter->Zba
open PySem.SeqAt renaming EqAt->U7,readOf->Zm,shaped->Zr
open PySem.Obj renaming data_mapFields->U9,mapFields->VC,isFreed_of_fields->Wr,mapSeq->WZ,cls_mapFields->Xl,putSet->Ys
open PySem.SetTable renaming grown->Ve,below->VN,insertAt->VW,fill->XM,turns->ZP,bits->Zac,fits->Zad,layClean->ZaO,tooFull->Zbe,probe->ZbO
open PySem.Calls renaming spliced_cons->Vl,spliced_nil->Vt,callWith_builtin->Xi,Name_function_global->Yi,evalArgs_plain->ZI
open Rat renaming divInt->Vm,intCast_mul->Wo,mul_assoc->Zag,add_zero->ZaY,divInt_eq_div->ZaZ,one_mul->Zbr,intCast_inj->ZbA,num_nonneg->ZbT
open List.cons renaming inj->Vo
open True renaming intro->V0
open PySem.Builtin.List renaming listTooLong->V1,listLengthHint->Yc
open False renaming elim->Wf
open Int.ofNat renaming inj->Wp
open Prod.mk renaming inj->Wv,injEq->ZbZ
open Sum renaming inl->WE,inr->Zd
open PySem.Builtin.SmallTypes renaming nextOf->WM,ownedTupleHandOut->WO,iterAll->Yq
open PySem.Paired renaming length->WT
open PySem.PyData renaming eqv->W1,depthAll->X2,canLayAll0->ZaN
open Sum.inl renaming inj->W8
open PyProof.Rows.F renaming plain_set_update_loop->Xa,entry_set_update_loop->Y_
open PySem.Str renaming ofString->Xk,empty->YZ,length->ZbK
open Prod renaming ext->XO,snd->Yu,fst->ZS
open PySem.Around renaming under_plainId->XU
open ForInStep renaming yield->X3
open PySem.Builtin.Frozenset renaming updateFrom->X6
open Ne renaming symm->YG
open PySem.NameKind renaming cell->YT,free->ZbY
open List.Pairwise renaming imp_of_mem->YW,nil->ZaF
open PySem.Builtin.Int renaming intTooBig->Zz,intBits->Z6
open PySem.Builtin.Dict renaming showsAll->ZA
open PySem.Data renaming cell->Z1,fields->Zbi,seq->Zb8
open PySem.W.Hook renaming keeps->Zak,says->Zaz,obs->Za3,val->Za4,of->Zbs
open PySem.SeqAt.EqAt renaming int_str->Zam,str_int->Zan
open String renaming splitOnAux->ZaQ,splitOn->ZbP
open PySem.W.XL renaming keeps->Za5
open PySem.IsRange renaming new->Zbl
open PySem.PassesOwn renaming never->Zbu
open List.Perm renaming refl->ZbQ
open PySem.Txt renaming slice->Zb3
open PySem.Expr renaming Call->Zb5
open Iff renaming rfl->Zb6
nonrec abbrev Fg := Zax
local macro_rules | `(tactic| walk_at "t")=>`(tactic| simp only[Zb7,UD,SR,YX,Wl,Wc,Nat.reduceAdd,Nat.reduceSub])
def ex2{α:Type}{us:List α}(h:us.length=2):∃a b,us=[a,b]:=by
 match us,h with
 |[a,b],_=>exact⟨a,b,rfl⟩
namespace HdT
open PySem PySem.W
abbrev G7:BT->Nat->List Obj->BT
 |T,_,[]=>T
 |T,n,o :: os=>G7 (T.ins n o) (n+1) os
abbrev mR:BT->Nat->List Obj->Bool
 |_,_,[]=>true
 |T,n,o :: os=>match ((T.ins n o).get n).isSome with
  |true=>mR (T.ins n o) (n+1) os
  |false=>false
def xp:∀(os:List Obj) (T:BT) (n:Nat) (life:Life),mR T n os=true->absHeap (G7 T n os) (n+UD os) life=⟨(absHeap T n life).objs++os.toArray,life⟩
 |[],T,n,life,_=>by
  show absHeap T n life=_;rw[show([]:List Obj).toArray = #[] from rfl,Zah];rfl
 |o :: os,T,n,life,h=>by
  unfold mR at h;split at h
  .rename_i e;have ih:=xp os (T.ins n o) (n+1) life h;rw[absHeap_ins e] at ih;show absHeap (G7 (T.ins n o) (n+1) os) (n+(UD os+1)) life=_;rw[show n+(UD os+1)=n+1+(UD os) by lia,ih];show Heap.mk ((absHeap T n life).objs.push o++os.toArray) life=Heap.mk ((absHeap T n life).objs++(o :: os).toArray) life;congr 1;simp
  .cases h
abbrev FG(tb:String->Option Vr)(p:TK)(w:Ub)(n₀:Nat)(ann:Option Su):Nat->ZbC->Thread->Option ZbC
 |0,_,_=>none
 |n+1,s,t=>match through t with
  |true=>some s
  |false=>match PySem.W.Fast.tw6613529449190102663 n₀ ann t with
   |false=>none
   |true=>match PySem.W.Fast.tw10156331382660048174 (PySem.W.Fast.tw11892475500146522536 tb) p w s t with
    |some (s',t')=>FG tb p w n₀ ann n s' t'
    |none=>none
def Bs{tb:String->Option Vr}{p:TK}{w:Ub}{n₀:Nat}{ann:Option Su}:∀{n:Nat} {s r:ZbC} {t:Thread},FG tb p w n₀ ann n s t=some r->topRun tb p w n₀ ann n s.abs t=some r.abs
 |0,_,_,_,h=>by cases h
 |n+1,s,r,t,h=>by
  unfold FG at h;rw[<-PySem.W.Fast.te6613529449190102663,<-PySem.W.Fast.te10156331382660048174,<-PySem.W.Fast.te11892475500146522536] at h;unfold topRun;cases he:through t with
  |true=>rw[he] at h;cases h;rfl
  |false =>
   rw[he] at h;cases hk:stepOk n₀ ann t with
   |false=>rw[hk] at h;cases h
   |true =>
    rw[hk] at h;cases hs:stepT (denote tb) p w s t with
    |none=>rw[hs] at h;cases h
    |some x=>obtain⟨s₂,t₂⟩:=x;rw[hs] at h;rw[stepT_spec hs];exact Bs h
abbrev AK (P:Params) (os:ZY):ZbC:=⟨G7 .nil 0 (U0 P).objs.toList,(U0 P).objs.toList.length,(U0 P).life,ZbF [],Zai,Za1,os⟩
def yj{os:ZY}(h:mR .nil 0 (U0 P).objs.toList=true):(AK P os).abs=⟨U0 P,ZbF [],Zai,Za1,os⟩:=by
 have e:=xp (U0 P).objs.toList .nil 0 (U0 P).life h;rw[Wc] at e;unfold ZbC.abs AK;simp only;rw[e];congr 1
abbrev ends (tb:String->Option Vr) (mods:List Str) (p:TK) (w:Ub) (N:Nat) (os:ZY):Option SB :=
 match (U0 w.params).isNs mainGlobals with
 |true=>(FG tb p w (U0 w.params).objs.size ((U0 w.params).nsMap mainGlobals "__annotations__") N (AK w.params os) (topStub p)).bind λr =>
   match staticsOk mods (U0 w.params) r.abs.heap && namesBound p r.abs.heap && gensDone r.abs && laidKept (U0 w.params) r.abs.heap with
   |true=>some r.abs
   |false=>none
 |false=>none
def LV{p:TK}{w:Ub}{os:ZY}{r:SB}(g:mR .nil 0 (U0 w.params).objs.toList=true)(h:ends treeTable (importedModules p.main.body) p w N os=some r):topFrom treeTable p w N ⟨U0 w.params,ZbF [],Zai,Za1,os⟩=some r:=by
 unfold ends at h;unfold topFrom;cases hi:(U0 w.params).isNs mainGlobals with
 |false=>rw[hi] at h;cases h
 |true =>
  rw[hi] at h;simp only at h ⊢;obtain⟨x,hx,hr⟩:=Option.bind_eq_some_iff.mp h
  have:=Bs hx
  rw[yj g] at this;show(topRun treeTable p w (U0 w.params).objs.size ((U0 w.params).nsMap mainGlobals "__annotations__") N ⟨U0 w.params,ZbF [],Zai,Za1,os⟩ (topStub p)).bind _=_;rw[this];exact hr
def left{α:Type}{Yf:SB->α}{Ya:Ub->α}
  (e:opening p=plainProg p.main.scope.names) (hN:Nat.ble 600 N=true) (f:∀s,fenceModules? p s=some s) (g:∀w:Ub,mR .nil 0 (U0 w.params).objs.toList=true)
  (h:∀w os,(ends treeTable (importedModules p.main.body) p w N os).map (λs=>(openSeen q loose (importedModules p.main.body) Xt true s,Yf s))=some (openGood q loose,Ya w)):LeftO p q loose Xt Yf Ya N:=λw=>by
 obtain⟨s,hs,hv⟩:=SA.mp (boot_open e hN f w);unfold openEnds;rw[hs];obtain⟨heap,gens,drawn,toks,os⟩:=s;obtain⟨h1,h2⟩:=Wv hv;obtain⟨h2,h3⟩:=Wv h2;obtain⟨h3,h4⟩:=Wv h3;subst h1 h2 h3 h4;obtain⟨r,hr,hv⟩:=SA.mp (h w os);show(topFrom treeTable p w N _).map _=_;rw[LV (g w) hr];exact congrArg some hv
def cut4{α β γ δ ε ζ η θ ι:Type}{o:Option SB}{F:SB->α×β×γ×δ×ε×ζ×η×θ×ι}{a:α}{b:β}{c:γ}{d:δ}{e:ε}{f:ζ}{g:η}{h:θ}{i:ι}(h1:o.map (λs=>((F s).1,(F s).2.1))=some (a,b))(h2:o.map (λs=>(F s).2.2.1)=some c)(h3:o.map (λs=>((F s).2.2.2.1,(F s).2.2.2.2.1))=some (d,e))
  (h4:o.map (λs=>((F s).2.2.2.2.2.1,(F s).2.2.2.2.2.2.1,(F s).2.2.2.2.2.2.2.1,(F s).2.2.2.2.2.2.2.2))=some (f,g,h,i)):o.map F=some (a,b,c,d,e,f,g,h,i):=by
 cases o with
 |none=>cases h1
 |some s =>
  have k1:=Wv (SU h1);have k3:=Wv (SU h3);have k4:=Wv (SU h4);have k5:=Wv k4.2;have k6:=Wv k5.2;exact congrArg some (XO k1.1 (XO k1.2 (XO (SU h2) (XO k3.1 (XO k3.2 (XO k4.1 (XO k5.1 (XO k6.1 k6.2))))))))
end HdT
namespace K97H
open PySem
abbrev qv:PySem.Program:=U3 PW97 [1,2,3,4,6,7,8,9,10,11,13,14,15,16,17,18,19,20,21,22,23,24,25,27,28,29,30,31,32,34,36,37,38,39,40,41,43,44,45,47,48,49,50,51,52,53,54,56,57,58,59,60,61,62,63,65,66,67,68,70,71,72,73,74,75,76,78,79,81,82,83,85,86,87,88,89,90,91,92,93,94,95,96,97,98,99,100,101,102,103,104]
abbrev _root_.PySem.W.Fast.tw13161049745585051926:PySem.Program:=PW97
def _root_.PySem.W.Fast.te13161049745585051926:PW97=PySem.W.Fast.tw13161049745585051926:=rfl
def said(h:PySem.Challenge.rw_vesselhall_k97_whole_no_lack_whatever_th.row.Holds):PySem.Challenge.rw_vesselhall_k97_whole_no_lack_whatever_th.Holds:=by
 w_on;o_law;exact h
def booted{α:Type}{Yf:Zay->α}{Ya:VT->α}(h:∀w os,(HdT.ends VQ (Us PW97.main.body) PW97 w 7054 os).map (λs=>(YY q loose (Us PW97.main.body) Xt true s,Yf s))=some (Za2 q loose,Ya w)):Z9 PW97 q loose Xt Yf Ya 7054 :=
 HdT.left (by kernel_rfl) (by decide) (λs=>by kernel_rfl) (λw=>by kernel_rfl) h
local macro_rules | `(tactic| o_head $H)=>`(tactic| refine Zaj (q:=K97H.qv) (loose:=[]) (Xt:=λs=>Xe K97H.qv [] s && WR [] s) (XP:=ZbG K97H.qv []) (Yf:=Za3 $H) (Ya:=Za4 $H) (YP:=Zaz $H) (N:=7054) ?_ (Zbs $H) (Zak $H) (λs e=>ZbU s (Ww.mp e).1) Za5 (by rfl) (by rfl) (by rfl) (λs e=>Z4 (Ww.mp e).2) (by rfl) (by first|assumption|decide +kernel) (by decide +kernel) ⟨rfl,rfl,rfl,rfl,rfl,by decide +kernel⟩ ?_ ?_)
open PySem.W PyProof.Rows in
def pre(hL:∀(α:Type) (Yf:Zay->α) (Ya:VT->α),Z9 PW97 qv [] (λs=>Xe qv [] s && WR [] s) Yf Ya 7054)(hP:PySem.Challenge.rw_vesselhall_k97_whole_no_lack_whatever_th.row.toRowW.promised)(hC:∀(YP:VT->PySem.Heap->Prop) (d:DefRec),Z_ qv [] (ZbG qv []) YP PySem.Challenge.rw_vesselhall_k97_whole_no_lack_whatever_th.row.toRowW d [] (λf vs=>Zal f vs)):PySem.Challenge.rw_vesselhall_k97_whole_no_lack_whatever_th.row.Holds:=by
 w_on;k_head
 .exact hL _ _ _
 .exact hP
 .exact hC _ _
abbrev asl:List Nat:=[2,3,15,22,23,24,25,28,35,36,37,40,47,48,49,52,59,60,61,64,66,67,69,70,71,73,74,76,77,78,80,81,83,84,85,87,88,90,91,92,94,95,97,98,99,101,102,104,105,106,109,110,111,114,115,116,118,119,121,122,123,126,127,128,131,132,133,136,137,138,141,142,143,145,146,148,149,150,153,154,155,158,159,160,162,163,165,166,167,169,170,172,173,174,176,177,179,180,181,182,184,185,187,188,189,191,192,194,195,196,198,199,201,202,203,206,207,208,211,212,213,215,216,218,219,220,223,224,225,228,229,230,233,234,235,237,238,240,241,242,244,245,247,248,249,251,252,254,255,256,258,259,261,262,263,266,267,268,271,272,273,276,277,278,281,282,283,285,286,288,289,290,293,294,295,298,299,300,302,303,305,306,307,309,310,312,313,314,317,318,319,322,323,324,327,328,329,332,333,334,337,338,339,342,343,344,347,348,349,352,353,354,357,358,359,361,362,364,365,366,368,369,371,372,373,375,376,378,379,380,382,383,385,386,387,388,391,392,393,396,397,398,400,401,403,404,405,407,408,410,411,412,415,416,417,420,421,422,424,425,427,428,429,431,432,434,435,436,438,439,441,442,443,445,446,448,449,450,452,453,455,456,457,459,460,462,463,464,466,467,469,470,471,473,474,476,477,478,480,481,483,484,485,487,488,490,491,492,494,495,497,498,499,502,503,504,506,507,509,510,511,513,514,516,517,518,520,521,523,524,525,527,528,530,531,532,535,536,556,559,560,568,570,571,573,574,575,577,578,580,581,582,585,586]
def asl_ok(P:PySem.Params):asl=(pre.heap_1 P).map (·.1):=by kernel_rfl
nonrec def wI(w:VT)(s:Zay):=YY (U3 PW97 [1,2,3,4,6,7,8,9,10,11,13,14,15,16,17,18,19,20,21,22,23,24,25,27,28,29,30,31,32,34,36,37,38,39,40,41,43,44,45,47,48,49,50,51,52,53,54,56,57,58,59,60,61,62,63,65,66,67,68,70,71,72,73,74,75,76,78,79,81,82,83,85,86,87,88,89,90,91,92,93,94,95,96,97,98,99,100,101,102,103,104]) [] (Us PW97.main.body) (λs=>Xe (U3 PW97 [1,2,3,4,6,7,8,9,10,11,13,14,15,16,17,18,19,20,21,22,23,24,25,27,28,29,30,31,32,34,36,37,38,39,40,41,43,44,45,47,48,49,50,51,52,53,54,56,57,58,59,60,61,62,63,65,66,67,68,70,71,72,73,74,75,76,78,79,81,82,83,85,86,87,88,89,90,91,92,93,94,95,96,97,98,99,100,101,102,103,104]) [] s && WR [] s) true s
open PySem.W PyProof.Rows in
def see1(w:VT)(os:WS):(HdT.ends VQ (Us PW97.main.body) PW97 w 7054 os).map (λs=>((wI w s).1,(wI w s).2.1))=some (expectedOf (U3 PW97 [1,2,3,4,6,7,8,9,10,11,13,14,15,16,17,18,19,20,21,22,23,24,25,27,28,29,30,31,32,34,36,37,38,39,40,41,43,44,45,47,48,49,50,51,52,53,54,56,57,58,59,60,61,62,63,65,66,67,68,70,71,72,73,74,75,76,78,79,81,82,83,85,86,87,88,89,90,91,92,93,94,95,96,97,98,99,100,101,102,103,104]),bltViewBooted):=by
 unfold wI;rw[PySem.W.Fast.te4187177175401517315,PySem.W.Fast.te5923862056798008813,PySem.W.Fast.te14364793385576792824,PySem.W.Fast.te13161049745585051926];kernel_rfl
open PySem.W PyProof.Rows in
def see2(w:VT)(os:WS):(HdT.ends VQ (Us PW97.main.body) PW97 w 7054 os).map (λs=>(wI w s).2.2.1)=some true:=by
 unfold wI;rw[PySem.W.Fast.te4187177175401517315,PySem.W.Fast.te5923862056798008813,PySem.W.Fast.te14364793385576792824,PySem.W.Fast.te13161049745585051926];kernel_rfl
open PySem.W PyProof.Rows in
def see3(w:VT)(os:WS):(HdT.ends VQ (Us PW97.main.body) PW97 w 7054 os).map (λs=>((wI w s).2.2.2.1,(wI w s).2.2.2.2.1))=some (true,pinGoodD (drecsOf (U3 PW97 [1,2,3,4,6,7,8,9,10,11,13,14,15,16,17,18,19,20,21,22,23,24,25,27,28,29,30,31,32,34,36,37,38,39,40,41,43,44,45,47,48,49,50,51,52,53,54,56,57,58,59,60,61,62,63,65,66,67,68,70,71,72,73,74,75,76,78,79,81,82,83,85,86,87,88,89,90,91,92,93,94,95,96,97,98,99,100,101,102,103,104]))):=by
 unfold wI;rw[PySem.W.Fast.te4187177175401517315,PySem.W.Fast.te5923862056798008813,PySem.W.Fast.te14364793385576792824,PySem.W.Fast.te13161049745585051926];kernel_rfl
open PySem.W PyProof.Rows in
def see4(w:VT)(os:WS):(HdT.ends VQ (Us PW97.main.body) PW97 w 7054 os).map (λs=>((wI w s).2.2.2.2.2.1,(wI w s).2.2.2.2.2.2.1,(wI w s).2.2.2.2.2.2.2.1,(wI w s).2.2.2.2.2.2.2.2))=some (plainGoodE (U3 PW97 [1,2,3,4,6,7,8,9,10,11,13,14,15,16,17,18,19,20,21,22,23,24,25,27,28,29,30,31,32,34,36,37,38,39,40,41,43,44,45,47,48,49,50,51,52,53,54,56,57,58,59,60,61,62,63,65,66,67,68,70,71,72,73,74,75,76,78,79,81,82,83,85,86,87,88,89,90,91,92,93,94,95,96,97,98,99,100,101,102,103,104]) (looseW (U3 PW97 [1,2,3,4,6,7,8,9,10,11,13,14,15,16,17,18,19,20,21,22,23,24,25,27,28,29,30,31,32,34,36,37,38,39,40,41,43,44,45,47,48,49,50,51,52,53,54,56,57,58,59,60,61,62,63,65,66,67,68,70,71,72,73,74,75,76,78,79,81,82,83,85,86,87,88,89,90,91,92,93,94,95,96,97,98,99,100,101,102,103,104]) []),plainGoodD (U3 PW97 [1,2,3,4,6,7,8,9,10,11,13,14,15,16,17,18,19,20,21,22,23,24,25,27,28,29,30,31,32,34,36,37,38,39,40,41,43,44,45,47,48,49,50,51,52,53,54,56,57,58,59,60,61,62,63,65,66,67,68,70,71,72,73,74,75,76,78,79,81,82,83,85,86,87,88,89,90,91,92,93,94,95,96,97,98,99,100,101,102,103,104]) [],wideGood (U3 PW97 [1,2,3,4,6,7,8,9,10,11,13,14,15,16,17,18,19,20,21,22,23,24,25,27,28,29,30,31,32,34,36,37,38,39,40,41,43,44,45,47,48,49,50,51,52,53,54,56,57,58,59,60,61,62,63,65,66,67,68,70,71,72,73,74,75,76,78,79,81,82,83,85,86,87,88,89,90,91,92,93,94,95,96,97,98,99,100,101,102,103,104]),clsGoodW (U3 PW97 [1,2,3,4,6,7,8,9,10,11,13,14,15,16,17,18,19,20,21,22,23,24,25,27,28,29,30,31,32,34,36,37,38,39,40,41,43,44,45,47,48,49,50,51,52,53,54,56,57,58,59,60,61,62,63,65,66,67,68,70,71,72,73,74,75,76,78,79,81,82,83,85,86,87,88,89,90,91,92,93,94,95,96,97,98,99,100,101,102,103,104]) []):=by
 unfold wI;rw[PySem.W.Fast.te4187177175401517315,PySem.W.Fast.te5923862056798008813,PySem.W.Fast.te14364793385576792824,PySem.W.Fast.te13161049745585051926];kernel_rfl
def seen(w:VT)(os:WS):(HdT.ends VQ (Us PW97.main.body) PW97 w 7054 os).map (λs=>YY (U3 PW97 [1,2,3,4,6,7,8,9,10,11,13,14,15,16,17,18,19,20,21,22,23,24,25,27,28,29,30,31,32,34,36,37,38,39,40,41,43,44,45,47,48,49,50,51,52,53,54,56,57,58,59,60,61,62,63,65,66,67,68,70,71,72,73,74,75,76,78,79,81,82,83,85,86,87,88,89,90,91,92,93,94,95,96,97,98,99,100,101,102,103,104]) [] (Us PW97.main.body) (λs=>Xe (U3 PW97 [1,2,3,4,6,7,8,9,10,11,13,14,15,16,17,18,19,20,21,22,23,24,25,27,28,29,30,31,32,34,36,37,38,39,40,41,43,44,45,47,48,49,50,51,52,53,54,56,57,58,59,60,61,62,63,65,66,67,68,70,71,72,73,74,75,76,78,79,81,82,83,85,86,87,88,89,90,91,92,93,94,95,96,97,98,99,100,101,102,103,104]) [] s && WR [] s) true s)=some (Za2 (U3 PW97 [1,2,3,4,6,7,8,9,10,11,13,14,15,16,17,18,19,20,21,22,23,24,25,27,28,29,30,31,32,34,36,37,38,39,40,41,43,44,45,47,48,49,50,51,52,53,54,56,57,58,59,60,61,62,63,65,66,67,68,70,71,72,73,74,75,76,78,79,81,82,83,85,86,87,88,89,90,91,92,93,94,95,96,97,98,99,100,101,102,103,104]) []):=HdT.cut4 (F:=λs=>wI w s) (see1 w os) (see2 w os) (see3 w os) (see4 w os)
def hook(w:VT)(os:WS):(HdT.ends VQ (Us PW97.main.body) PW97 w 7054 os).map (λs=>asl.map s.heap.get?)=some ((pre.heap_1 w.params).map λp=>some p.2):=by
 unfold asl;rw[PySem.W.Fast.te5923862056798008813,PySem.W.Fast.te14364793385576792824,PySem.W.Fast.te13161049745585051926];kernel_rfl
def hooks:Z9 PW97 qv [] (λs=>Xe qv [] s && WR [] s) (λs=>asl.map s.heap.get?) (λw=>(pre.heap_1 w.params).map λp=>some p.2) 7054 :=
 booted (λw=>λos=>by
  obtain⟨s,e,a⟩:=SA.mp (seen w os)
  have b:=hook w os
  rw[e] at b ⊢
  exact congrArg some (XO a (SU b)))
end K97H
namespace L2
open PySem PySem.Spec PyProof.Rows
nonrec def a9:=Sum Int Str
abbrev pK:a9->Su->Bool
 |.inl k,v=>Vh k v
 |.inr x,v=>Zaa x v
abbrev QL(w:Ub):a9->Int
 |.inl k=>hashInt k
 |.inr x=>hashStr w x
def bE:∀{k:a9} {v:Su},pK k v=true->(∃i t,k=WE i/\v=WF i t)\/(∃x t,k=Zd x/\v=ZZ x t)
 |.inl i,v,h=>by
  obtain⟨t,e⟩:=Su.isInt_shape (k:=i) (v:=v) h;exact .inl ⟨i,t,rfl,e⟩
 |.inr x,v,h=>by
  obtain⟨t,e⟩:=Su.isStrOf_shape (x:=x) (v:=v) h;exact .inr ⟨x,t,rfl,e⟩
def C7(i:Int)(t:Tok):pK (.inl i) (.int i t)=true:=by simp[pK,Vh]
def C4(x:Str)(t:Tok):pK (.inr x) (.str x t)=true:=by simp[pK,Zaa]
def Os(a b:Int):decide ((WE a:a9)=WE b)=(a == b):=by
 by_cases e:a=b
 .subst e;simp
 .have h : ¬ (WE a:a9)=WE b:=λq=>e (W8 q)
  rw[decide_eq_false h];exact(beq_eq_false_iff_ne.mpr e).symm
def Oo(a b:Str):decide ((Zd a:a9)=Zd b)=decide (a=b):=by
 by_cases e:a=b
 .subst e;simp
 .have h : ¬ (Zd a:a9)=Zd b:=λq=>e (Zd.inj q)
  rw[decide_eq_false h,decide_eq_false e]
def Oq(a:Int)(b:Str):decide ((WE a:a9)=Zd b)=false:=decide_eq_false (λq=>nomatch q)
def Op(a:Str)(b:Int):decide ((Zd a:a9)=WE b)=false:=decide_eq_false (λq=>nomatch q)
abbrev bD(prog:TK)(w:Ub):PySem.KeyKind prog w a9 where
 is:=pK
 hash:=QL w
 inj:=λv a b ha hb=>by
  rcases bE ha with⟨i,t,rfl,rfl⟩|⟨x,t,rfl,rfl⟩
  .rcases bE hb with⟨j,u,rfl,e⟩|⟨y,u,rfl,e⟩
   .injection e with e1 _;rw[e1]
   .exact nomatch e
  .rcases bE hb with⟨j,u,rfl,e⟩|⟨y,u,rfl,e⟩
   .exact nomatch e
   .injection e with e1 _;rw[e1]
 byValue:=λk v h=>by
  rcases bE h with⟨i,t,rfl,rfl⟩|⟨x,t,rfl,rfl⟩ <;> rfl
 pyHash:=λhv h=>by
  rcases bE hv with⟨i,t,rfl,rfl⟩|⟨x,t,rfl,rfl⟩
  .exact wpAny_pyHash_int h
  .exact wpAny_pyHash_str h
 eqBool:=λhu hv h=>by
  rcases bE hu with⟨i,t,rfl,rfl⟩|⟨x,t,rfl,rfl⟩
  .rcases bE hv with⟨j,u,rfl,rfl⟩|⟨y,u,rfl,rfl⟩
   .rw[Os] at h;exact wpAny_eqBool_int h
   .rw[Oq] at h;exact Zam i t y u _ _ _ _ h
  .rcases bE hv with⟨j,u,rfl,rfl⟩|⟨y,u,rfl,rfl⟩
   .rw[Op] at h;exact Zan x t j u _ _ _ _ h
   .rw[Oo] at h;exact wpAny_eqBool_str h
 «strs»:=λk x t v h=>by
  rcases bE h with⟨i,u,rfl,e⟩|⟨y,u,rfl,e⟩
  .exact nomatch e
  .injection e with e1 _
   subst e1;cases v <;> rfl
def vk(prog:TK)(w:Ub)(i:Int)(t:Tok):(bD prog w).is (.inl i) (.int i t)=true:=C7 i t
def vj(prog:TK)(w:Ub)(x:Str)(t:Tok):(bD prog w).is (.inr x) (.str x t)=true:=C4 x t
inductive V where
 |non|bl (b:Bool)|int (i:Int)|str (x:Str)|byt (b:Array UInt8)|flt (b:UInt64)|ref (a:Addr)|ty (n:String)
 deriving DecidableEq
abbrev RelV:V->Su->Prop
 |.non,u=>u=U8
 |.bl b,u=>u=Ze b
 |.int i,u=>∃t,u=WF i t
 |.str x,u=>∃t,u=ZZ x t
 |.byt b,u=>∃t,u=Su.bytes b t
 |.flt b,u=>∃t,u=Su.float b t
 |.ref a,u=>u=TU a
 |.ty n,u=>u=Yh n
nonrec def Vals:List V->List Su->Prop:=Paired RelV
def Vals.length(r:Vals xs us):UD xs=UD us:=WT r
def Vals.get:∀{xs:List V} {us:List Su} {i:Nat} {x:V},Vals xs us->xs[i]?=some x->∃u,us[i]?=some u/\RelV x u
 |_,_,_,_,.nil,e=>by simp at e
 |_,_,0,_,.cons r _,e=>by simp at e;subst e;exact⟨_,rfl,r⟩
 |_,_,i+1,x,.cons _ t,e=>by
  obtain⟨u,h1,h2⟩:=Vals.get (i:=i) (x:=x) t (by simpa using e);exact⟨u,by simpa using h1,h2⟩
def Vals.set{x:V}{u:Su}(r:RelV x u):∀{xs:List V} {us:List Su} (i:Nat),Vals xs us->Vals (xs.set i x) (us.set i u)
 |_,_,_,.nil=>.nil
 |_,_,0,.cons _ t=>.cons r t
 |_,_,i+1,.cons q t=>.cons q (Vals.set r i t)
def Vals.append:∀{xs ys:List V} {us ws:List Su},Vals xs us->Vals ys ws->Vals (xs++ys) (us++ws)
 |_,_,_,_,.nil,s=>s
 |_,_,_,_,.cons r t,s=>.cons r (Vals.append t s)
def Vals.take:∀{xs:List V} {us:List Su} (n:Nat),Vals xs us->Vals (xs.take n) (us.take n)
 |_,_,0,_=>.nil
 |_,_,_+1,.nil=>.nil
 |_,_,n+1,.cons r t=>.cons r (Vals.take n t)
def Vals.drop:∀{xs:List V} {us:List Su} (n:Nat),Vals xs us->Vals (xs.drop n) (us.drop n)
 |_,_,0,r=>r
 |_,_,_+1,.nil=>.nil
 |_,_,n+1,.cons _ t=>Vals.drop n t
abbrev RelO:Option V->Option Su->Prop
 |some v,some u=>RelV v u
 |none,none=>True
 |_,_=>False
abbrev KV{κ:Type}:List (κ×V)->List (κ×Su)->Prop:=Paired λ(p:κ×V) (q:κ×Su)=>p.1=q.1/\RelV p.2 q.2
abbrev kV:a9->V
 |.inl i=>.int i
 |.inr x=>.str x
inductive HO where
 |lst (xs:List V)
 |tup (xs:List V)
 |dK (ab:List (a9×V))|dT (ab:List (List a9×V))
 |set (S:Int->Bool) (n:Nat)
 |ins (C dx:Addr) (fs:List (Str×V))
 |own (x:Addr)
 |xd (fs:List (Str×V))
 |met (f x:Addr)
 |rng (lo hi:Int)
 |frz (o:Obj) (u:HO)
 |tbl (ps:Array Su)
 |ext (φ:Heap->Prop)
nonrec def Hp:=Addr->Option HO
abbrev upd(H:Hp)(a:Addr)(o:HO):Hp:=λb=>if b=a then some o else H b
def ag:upd H a o a=some o:=by unfold upd;rw[if_pos rfl]
def aB{a b:Addr}(h:b≠a):upd H a o b=H b:=by unfold upd;rw[if_neg h]
def Jh:upd (upd H a o) a u=upd H a u:=by
 funext b;unfold upd;split <;> rfl
def mf{H:Hp}{o u:HO}(h:H a=some o)(h':H b=some u)(d:o≠u):a≠b:=by
 intro e;subst e;rw[h] at h';exact d (SU h')
def aq{H:Hp}{o:HO}(h:H a=some o)(h':H b=none):a≠b:=by
 intro e;subst e;rw[h] at h';cases h'
abbrev TupD (h:Heap) (a:Addr) (items:Array Su):Prop:=∃o,h.get? a=some o/\(o.cls=.type "tuple"/\∃n,o.data=.seq items n)/\o.dict=none
def TupD.tup{h:Heap}{a:Addr}{items:Array Su}(t:TupD h a items):IsTup h a items:=let ⟨o,e,c,_⟩:=t;⟨o,e,c⟩
def TupD.lt(t:TupD h a items):a<h.objs.size:=t.tup.lt
def TupD.new(h:Heap) (items:Array Su):TupD (h.push {cls:=.type "tuple",data:=.seq items}) h.objs.size items:=⟨_,Th _ rfl,⟨rfl,_,rfl⟩,rfl⟩
section
variable(P:TK)(w:Ub)
abbrev ca(H:Hp)(h:Heap)(a:Addr):HO->Prop
 |.lst xs=>UD xs<=sizeLine/\∃(de:List Su) (n:Nat),Vals xs de/\h.get? a=some {cls:=.type "list",data:=.seq de.toArray n}
 |.tup xs=>UD xs<=sizeLine/\∃de:List Su,Vals xs de/\TupD h a de.toArray
 |.dK ab=>ab.length<=sizeLine/\(a == sysModules)=false/\∃vs,KV ab vs/\h.DictOf (bD P w) a vs
 |.dT ab=>ab.length<=sizeLine/\(a == sysModules)=false/\∃xs:List (List a9×Addr×Su),
   Paired (λ(p:List a9×V) (q:List a9×Addr×Su)=>p.1=q.1/\H q.2.1=some (.tup (p.1.map kV))/\RelV p.2 q.2.2) ab xs /\
   ∃o es ep,h.get? a=some o/\o.ExactDict/\o.data=.dict es ep/\es.toList=xs.map (entryOfKey (tupleKind (bD P w)))/\(xs.map (·.1)).Nodup
 |.set S n=>h.SetOf (intKind P w) a S n
 |.ins C dx fs=>H dx=some (.own a)/\fs.length<=1000/\dx≠a/\h.get? a=some (Zs C dx) /\
   ∃mA,h.Ns1 dx mA/\(∀f,RelO (fs.lookup f) (mA f))/\PySem.Within mA (fs.map (·.1))
 |.own _=>∃o,h.get? a=some o
 |.xd fs=>∃mA,h.Ns1 a mA/\∀f,RelO (fs.lookup f) (mA f)
 |.rng lo hi=>∃t u v,h.get? a=some {cls:=.type "range",data:=.fields #[.int lo t,.int hi u,.int 1 v]}
 |.frz o u=>h.get? a=some o/\ca H h a u
 |.tbl ps=>h.get? a=some {cls:=.none,data:=.fields ps}
 |.met f x=>h.get? a=some (YE (.ref f) (.ref x))
 |.ext φ=>φ h/\(∃o,h.get? a=some o)/\∀h1 h2:Heap,φ h1->(∀o,h1.get? a=some o->h2.get? a=some o)->φ h2
abbrev HOk(H:Hp)(h:Heap):Prop:=∀a o,H a=some o->ca P w H h a o
end
section
variable{P:TK}{w:Ub}{H H':Hp}{h h':Heap}{a:Addr}{o:HO}
def ca.lt(x:ca P w H h a o):a<h.objs.size:=by
 cases o with
 |lst xs=>obtain⟨_,_,_,_,e⟩:=x;exact Td e
 |tup xs=>obtain⟨_,_,_,p⟩:=x;exact p.lt
 |dK ab=>obtain⟨_,_,_,_,o,_,_,e,_⟩:=x;exact Td e
 |dT ab=>obtain⟨_,_,_,_,o,_,_,e,_⟩:=x;exact Td e
 |set S n=>obtain⟨o,_,_,_,e,_⟩:=x;exact Td e
 |ins C dx fs=>obtain⟨_,_,_,e,_⟩:=x;exact Td e
 |own y=>obtain⟨_,e⟩:=x;exact Td e
 |xd fs=>obtain⟨_,⟨_,_,_,e,_⟩,_⟩:=x;exact Td e
 |rng lo hi=>obtain⟨_,_,_,e⟩:=x;exact Td e
 |frz ob u=>obtain⟨e,_⟩:=x;exact Td e
 |tbl ps=>exact Td (show h.get? a=some _ from x)
 |met f y=>exact Td (show h.get? a=some _ from x)
 |ext φ=>obtain⟨_,⟨_,e⟩,_⟩:=x;exact Td e
def Paired.mapP{α β:Type}{F G:α->β->Prop}:∀{l₁:List α} {l₂:List β},Paired F l₁ l₂->(∀a b,F a b->G a b)->Paired G l₁ l₂
 |_,_,.nil,_=>.nil
 |_,_,.cons r t,f=>.cons (f _ _ r) (Paired.mapP t f)
def ca.stay(x:ca P w H h a o)(k:∀b u,(b=a\/H b=some (.own a))->h.get? b=some u->h'.get? b=some u)
  (ho:∀b,H b=some (.own a)->H' b=some (.own a)) (ht:∀b xs,H b=some (.tup xs)->H' b=some (.tup xs)):ca P w H' h' a o:=by
 induction o with
 |lst xs=>obtain⟨z,de,n,r,e⟩:=x;exact⟨z,de,n,r,k _ _ (.inl rfl) e⟩
 |tup xs=>obtain⟨z,de,r,ob,e,c⟩:=x;exact⟨z,de,r,ob,k _ _ (.inl rfl) e,c⟩
 |dK ab=>obtain⟨z,y,vs,r,ob,es,ep,e,c⟩:=x;exact⟨z,y,vs,r,ob,es,ep,k _ _ (.inl rfl) e,c⟩
 |dT ab =>
  obtain⟨z,y,xs,r,ob,es,ep,e,c⟩:=x;exact⟨z,y,xs,Paired.mapP r λp q z=>⟨z.1,ht _ _ z.2.1,z.2.2⟩,ob,es,ep,k _ _ (.inl rfl) e,c⟩
 |set S n=>obtain⟨ob,es,ep,t,e,c⟩:=x;exact⟨ob,es,ep,t,k _ _ (.inl rfl) e,c⟩
 |ins C dx fs =>
  obtain⟨d,z,ne,e,mA,⟨od,es,ep,e2,c⟩,r⟩:=x;exact⟨ho _ d,z,ne,k _ _ (.inl rfl) e,mA,⟨od,es,ep,k _ _ (.inr d) e2,c⟩,r⟩
 |own y=>obtain⟨ob,e⟩:=x;exact⟨ob,k _ _ (.inl rfl) e⟩
 |xd fs=>obtain⟨mA,⟨od,es,ep,e,c⟩,r⟩:=x;exact⟨mA,⟨od,es,ep,k _ _ (.inl rfl) e,c⟩,r⟩
 |rng lo hi=>obtain⟨t,u,v,e⟩:=x;exact⟨t,u,v,k _ _ (.inl rfl) e⟩
 |frz ob u ih=>obtain⟨e,q⟩:=x;exact⟨k _ _ (.inl rfl) e,ih q⟩
 |tbl ps =>
  have e:h.get? a=some {cls:=.none,data:=.fields ps}:=x;show h'.get? a=some {cls:=.none,data:=.fields ps};exact k a _ (.inl rfl) e
 |met f y =>
  have e:h.get? a=some (YE (.ref f) (.ref y)):=x;show h'.get? a=some (YE (.ref f) (.ref y));exact k a _ (.inl rfl) e
 |ext φ=>obtain⟨p,⟨o,e⟩,st⟩:=x;exact⟨st _ _ p λo q=>k _ _ (.inl rfl) q,⟨o,k _ _ (.inl rfl) e⟩,st⟩
def HOk.lt(x:HOk P w H h)(e:H a=some o):a<h.objs.size:=(x a o e).lt
def HOk.fresh(x:HOk P w H h)(e:h.objs.size<=a):H a=none:=by
 cases q:H a with
 |none=>rfl
 |some u=>exact absurd (Tf (x.lt q) e) (VZ _)
def HOk.kept(x:HOk P w H h)(k:∀b u,h.get? b=some u->h'.get? b=some u):HOk P w H h':=λa o e =>
 (x a o e).stay (λb u _ q=>k b u q) (λ_ q=>q) λ_ _ q=>q
def HOk.laid(x:HOk P w H h)(k:∀b u,h.get? b=some u->h'.get? b=some u)(hp:h.objs.size<=a)(new:ca P w (upd H a o) h' a o):HOk P w (upd H a o) h':=λb u e=>by
 have hn:=x.fresh hp;by_cases hb:b=a
 .subst hb;rw[ag] at e;cases e;exact new
 .rw[aB hb] at e;exact(x b u e).stay (λc v _ q=>k c v q) (λc q=>by rw[aB (aq q hn)];exact q) λc xs q=>by rw[aB (aq q hn)];exact q
end
abbrev Rd(H:Hp)(a:Addr)(u:HO):Prop:=H a=some u\/∃o,H a=some (.frz o u)
def Rd.ok(r:Rd H a u)(x:HOk P w H h):ca P w H h a u:=by
 rcases r with r|⟨o,r⟩
 .exact x a u r
 .obtain⟨_,q⟩:=x a _ r;exact q
abbrev PU:Option HO->Prop
 |some (.lst _)=>True
 |some (.dK _)=>True
 |some (.dT _)=>True
 |some (.set _ _)=>True
 |some (.ins _ _ _)=>True
 |some (.ext _)=>True
 |_=>False
section
variable{P:TK}{w:Ub}{H:Hp}{h h':Heap}{x e:Addr}{o':HO}
def HOk.write(ok:HOk P w H h)(mu:PU (H x))(he:e=x\/H e=some (.own x))(k:∀b u,b≠e->h.get? b=some u->h'.get? b=some u)(heo:∃u,h'.get? e=some u)
  (new:ca P w (upd H x o') h' x o'):HOk P w (upd H x o') h':=λb u q=>by
 have nown:∀c y,H c=some (.own y)->c≠x:=λc y r z=>by subst z;rw[r] at mu;exact mu
 have ntup:∀c xs,H c=some (.tup xs)->c≠x:=λc xs r z=>by subst z;rw[r] at mu;exact mu
 by_cases hb:b=x
 .subst hb;rw[ag] at q;cases q;exact new
 .rw[aB hb] at q;by_cases hbe:b=e
  .have q':H b=some (.own x):=by
    rcases he with z|z
    .exact absurd (hbe.trans z) hb
    .rw[hbe];exact z
   rw[q] at q';cases q';obtain⟨v,hv⟩:=heo;exact⟨v,by rw[hbe];exact hv⟩
  .refine(ok b u q).stay (λc v hc r=>k c v ?_ r) (λc r=>by rw[aB (nown c b r)];exact r) λc xs r=>by rw[aB (ntup c xs r)];exact r
   rcases hc with rfl|hc
   .exact hbe
   .rintro rfl;rcases he with z|z
    .exact nown c b hc z
    .rw[hc] at z;cases z;exact hb rfl
end
structure Un (fs ex:List Addr) (H H':Hp) (h h':Heap):Prop where
 keep:∀b o,h.get? b=some o->H b=none->b∉fs->b∉ex->h'.get? b=some o
 slot:∀b o,h.get? b=some o->H b=none->b∈fs->b∉ex->∃sl,h'.get? b=some {o with slots:=sl}
 free:∀b o,h.get? b=some o->H b=none->b∉ex->H' b=none
 there:∀b o,h.get? b=some o->b∉ex->∃o',h'.get? b=some o'
 tups:∀b xs,H b=some (.tup xs)->H' b=some (.tup xs)
 frzs:∀b o u,H b=some (.frz o u)->H' b=some (.frz o u)
 tbls:∀b ps,H b=some (.tbl ps)->∃more,H' b=some (.tbl (ps++more))
section
variable{fs fs' ex ex':List Addr}{H H1 H2:Hp}{h h1 h2 h':Heap}{a x e:Addr}{o:HO}
def Un.any(u:Un fs ex H H1 h h1){b:Addr}{ob:Obj}(q:h.get? b=some ob)(n:H b=none)(hx:b∉ex):∃sl,h1.get? b=some {ob with slots:=sl}:=by
 by_cases hb:b∈fs
 .exact u.slot b ob q n hb hx
 .exact⟨ob.slots,u.keep b ob q n hb hx⟩
def Un.kept(k:∀b u,h.get? b=some u->h'.get? b=some u):Un fs ex H H h h' :=
 ⟨λb ob q _ _ _=>k b ob q,λb ob q _ _ _=>⟨ob.slots,k b ob q⟩,λ_ _ _ n _=>n,λb ob q _=>⟨ob,k b ob q⟩,λ_ _ q=>q,λ_ _ _ q=>q,λ_ ps q=>⟨#[],by rw[q];simp⟩⟩
def Un.refl:Un fs ex H H h h:=Un.kept λ_ _ q=>q
def Un.laid(k:∀b u,h.get? b=some u->h'.get? b=some u)(hp:h.objs.size<=a)(hn:H a=none):Un fs ex H (upd H a o) h h' where
 keep:=λb u q _ _ _=>k b u q
 slot:=λb u q _ _ _=>⟨u.slots,k b u q⟩
 free:=λb u q n _=>by rw[aB (TN (Tf (Td q) hp))];exact n
 there:=λb u q _=>⟨u,k b u q⟩
 tups:=λb xs q=>by rw[aB (aq q hn)];exact q
 frzs:=λb u xs q=>by rw[aB (aq q hn)];exact q
 tbls:=λb ps q=>⟨#[],by rw[aB (aq q hn),q];simp⟩
def Un.write(mu:PU (H x))(he:e=x\/H e=some (.own x))(k:∀b u,b≠e->h.get? b=some u->h'.get? b=some u)(heo:∃u,h'.get? e=some u):Un fs ex H (upd H x o) h h':=by
 have hx:∀b,H b=none->b≠x:=λb n z=>by subst z;rw[n] at mu;exact mu
 have hb:∀b,H b=none->b≠e:=λb n z=>by
  subst z;rcases he with r|r
  .exact hx b n r
  .rw[n] at r;cases r
 have hm:∀b u,H b=some u->¬ PU (some u)->b≠x:=λb u q nm z=>by subst z;rw[q] at mu;exact nm mu
 refine⟨λb u q n _ _=>k b u (hb b n) q,λb u q n _ _=>⟨u.slots,k b u (hb b n) q⟩,λb u q n _=>by rw[aB (hx b n)];exact n,λb u q _=>?_,
  λb xs q=>by rw[aB (hm b _ q λz=>z)];exact q,λb u xs q=>by rw[aB (hm b _ q λz=>z)];exact q,λb ps q=>⟨#[],by rw[aB (hm b _ q λz=>z),q];simp⟩⟩
 by_cases hbe:b=e
 .subst hbe;exact heo
 .exact⟨u,k b u hbe q⟩
end
abbrev P5(h:Heap)(H:Hp):List Addr:=(SJ h.objs.size).filter λa=>(H a).isSome
abbrev pO(h:Heap)(H:Hp):Heap:=PySem.W.hideAll h (P5 h H)
def Dy(h:Heap)(H:Hp):(pO h H).objs.size=h.objs.size:=PySem.W.hideAll_size _ _
def G5{h:Heap}{H:Hp}{b:Addr}{o:Obj}(e:h.get? b=some o)(n:H b=none):(pO h H).get? b=some o :=
 PySem.W.hideAll_get _ e λhm=>by
  have q:(H b).isSome=true:=(Tt.mp hm).2;rw[n] at q;simp at q
def K9{b:Addr}{o:Obj}(e:(pO h H).get? b=some o):h.get? b=some o/\H b=none:=by
 have e':h.get? b=some o:=PySem.W.of_hideAll (P5 h H) e;refine⟨e',?_⟩;cases q:H b with
 |none=>rfl
 |some x =>
  have hm:b∈P5 h H:=Tt.mpr ⟨Tv.mpr (Td e'),by simp[q]⟩;have z:(pO h H).get? b=none:=PySem.W.hideAll_none (P5 h H) hm;rw[z] at e;cases e
structure Mod (K:Fg) (mg:Str->Option Su) (base:Heap):Prop where
 kin:K.In base
 glob:base.Ns mainGlobals mg
 blt:∃mb,base.Ns builtinsNs mb/\∀x:Str,x≠"__name__"->mb x=bootBuiltins x
 nolimit:base.NoLimit
structure Cx where
 prog:TK
 w:Ub
 K:Fg
 mg:Str->Option Su
 base:Heap
 A:Uc
 N:List Str
 s₀:SB
 H₀:Hp
 env:Env
 outer:List Env
 stack:List Env
 ex:List Addr
 fn:Str->Bool
 calm:Bool
 pn:List (Addr×Obj)
 xe:Su->SB->Prop
abbrev zt(l:List Env):List Addr:=l.filterMap (·.frame)
nonrec def Cx.fs(X:Cx):List Addr:=zt X.outer
abbrev P7(sc:Scope)(x:Str):Prop:=sc.names.lookup x=some .local\/sc.names.lookup x=some .cell\/sc.names.lookup x=some .free
abbrev Loc(sc:Scope)(x:Str):Prop:=sc.names.lookup x=some .local\/sc.names.lookup x=some .cell
abbrev Look(env:Env)(h:Heap)(m:Str->Option Su)(x:Str)(u:Su):Prop :=
 (env.kindOf x=some .local/\m x=some u)\/((env.kindOf x=some .cell\/env.kindOf x=some .free)/\∃c,env.cells.lookup x=some c/\h.IsCell c (some u))
structure Cx.Ok (X:Cx):Prop where
 mod:Mod X.K X.mg X.base
 kind:X.env.scope.kind=.function
 glob:X.env.globals=mainGlobals
 blt:X.env.builtins=builtinsNs
 above:X.s₀.heap.objs.size<=X.env.locals
 inj:∀x y c,X.env.cells.lookup x=some c->X.env.cells.lookup y=some c->x=y
 has:∀x,(X.env.kindOf x=some .cell\/X.env.kindOf x=some .free)->∃c,X.env.cells.lookup x=some c
 cab:∀x c,X.fn x=true->X.env.cells.lookup x=some c->X.s₀.heap.objs.size<=c
 hd:X.calm=true->X.A.handled=none
 frames:X.A.frames=some X.stack
 stk:X.stack=X.outer\/(X.stack=X.env :: X.outer/\X.env.frame=some X.env.locals)
 exf:∀b∈X.ex,b≠X.env.locals/\∀x c,X.env.cells.lookup x=some c->c≠b
 bs:∀b o,X.base.get? b=some o->X.s₀.heap.get? b=some o/\X.H₀ b=none
 bsz:X.base.objs.size<=X.s₀.heap.objs.size
 noex:∀b o,X.base.get? b=some o->b∉X.ex
 exfs:∀b∈X.ex,b∉X.fs
 funs:X.s₀.heap.FunFrames X.base X.outer
 frf:∀b∈X.fs,X.H₀ b=none
structure Inv (X:Cx) (G:List (Addr×Obj)) (σ:List (Option V)) (H:Hp) (s:SB):Prop where
 ok:X.Ok
 os:s.os=X.s₀.os
 bare:YF s.gens
 base:Un X.fs X.ex X.H₀ H X.s₀.heap s.heap
 loc:∃m,s.heap.Ns X.env.locals m/\∀(i:Nat) (x:Str) (v:V),X.N[i]?=some x->σ[i]?=some (some v)->P7 X.env.scope x->∃u,RelV v u/\Look X.env s.heap m x u
 cell:∀x c,X.env.cells.lookup x=some c->∃v,s.heap.IsCell c v
 free:H X.env.locals=none
 freeC:∀x c,X.env.cells.lookup x=some c->H c=none
 pin:∀p∈X.pn++G,s.heap.get? p.1=some p.2/\H p.1=none/\p.1≠X.env.locals/\p.1∉X.fs/\∀v,p.2.data≠.cell v
 hok:HOk X.prog X.w H s.heap
 len:UD σ=X.N.length
section
variable{X:Cx}{G:List (Addr×Obj)}{σ:List (Option V)}{H H':Hp}{s:SB}{h':Heap}
def Cx.Ok.nofr(ok:X.Ok){b:Addr}{o:Obj}(e:X.base.get? b=some o):b∉X.fs:=λhb=>by
 have:=(ok.funs.mem hb).1
 rw[e] at this;cases this
def Inv.bs(I:Inv X G σ H s):∀b o,X.base.get? b=some o->s.heap.get? b=some o/\H b=none:=λb o e =>
 ⟨I.base.keep b o (I.ok.bs b o e).1 (I.ok.bs b o e).2 (I.ok.nofr e) (I.ok.noex b o e),I.base.free b o (I.ok.bs b o e).1 (I.ok.bs b o e).2 (I.ok.noex b o e)⟩
def Inv.bk(I:Inv X G σ H s):∀b o,X.base.get? b=some o->s.heap.get? b=some o:=λb o e=>(I.bs b o e).1
def Inv.mod(I:Inv X G σ H s):Mod X.K X.mg X.base:=I.ok.mod
def Inv.kIn(I:Inv X G σ H s):X.K.In s.heap:=I.ok.mod.kin.keeps I.bk
def Inv.lt(I:Inv X G σ H s):X.env.locals<s.heap.objs.size:=let ⟨_,hn,_⟩:=I.loc;hn.lt
def Inv.sz(I:Inv X G σ H s):X.s₀.heap.objs.size<=s.heap.objs.size:=Ta I.ok.above (VU I.lt)
def Inv.nofs(I:Inv X G σ H s){a:Addr}(h:s.heap.objs.size<=a):a∉X.fs:=λhb=>by
 obtain⟨_,o,ho,_⟩:=I.ok.funs.mem hb;exact absurd (Tf (Td ho) (Ta I.sz h)) (VZ _)
def Inv.cne(I:Inv X G σ H s):∀x c,X.env.cells.lookup x=some c->c≠X.env.locals:=λx c e z=>by
 obtain⟨v,o,ho,hd⟩:=I.cell x c e;obtain⟨m,⟨o',es,ep,ho',hd',_⟩,_⟩:=I.loc;rw[z,ho'] at ho;cases ho;rw[hd'] at hd;cases hd
def Inv.funs(I:Inv X G σ H s):s.heap.FunFrames X.base X.outer:=by
 have all:∀(l:List Env),(∀b∈zt l,b∈X.fs)->X.s₀.heap.FunFrames X.base l->s.heap.FunFrames X.base l:=by
  intro l
  induction l with
  |nil=>intro _ _;trivial
  |cons env r ih =>
   intro hs hl;obtain⟨hk,⟨L,o,hf,hn,ho,hd⟩,hr⟩:=hl;have hL:L∈X.fs:=hs L (by unfold zt;rw[WN,hf];exact Sv);obtain⟨sl,e⟩:=I.base.slot L o ho (I.ok.frf L hL) hL λz=>I.ok.exfs L z hL
   exact⟨hk,⟨L,_,hf,hn,e,hd⟩,ih (λb hb=>hs b (by unfold zt;rw[WN,hf];exact Sw _ hb)) hr⟩
 exact all X.outer (λ_ hb=>hb) I.ok.funs
def Inv.stack(I:Inv X G σ H s):s.heap.FunFrames X.base X.stack:=by
 rcases I.ok.stk with e|⟨e,hf⟩
 .rw[e];exact I.funs
 .rw[e];obtain⟨m,hn,_⟩:=I.loc;refine .cons (by rw[I.ok.kind];decide) hf hn ?_ I.funs;exact Heap.get?_none_of_le (Ta I.ok.bsz I.ok.above)
def Inv.AI(I:Inv X G σ H s):∀b∈zt X.stack,b∈X.env.locals :: X.fs:=λb hb=>by
 rcases I.ok.stk with e|⟨e,hf⟩
 .rw[e] at hb;exact Sw _ hb
 .rw[e] at hb;unfold zt at hb;rw[WN,hf] at hb;exact hb
def Inv.AJ(I:Inv X G σ H s):∀b∈zt X.stack,H b=none:=λb hb=>by
 rcases S_.mp (I.AI b hb) with e|hb
 .rw[e];exact I.free
 .obtain⟨_,o,ho,_⟩:=I.ok.funs.mem hb;exact I.base.free b o ho (I.ok.frf b hb) λz=>I.ok.exfs b z hb
def Inv.step{g':Array ZbH}{t':Nat}{d':Drawn}{ch:List Addr}(I:Inv X G σ H s)
  (hch:∀b∈ch,(b∈X.ex\/X.s₀.heap.objs.size<=b)/\b≠X.env.locals/\(∀x c,X.env.cells.lookup x=some c->c≠b)/\∀p∈X.pn++G,p.1≠b)
  (keep:∀b o,b≠X.env.locals->b∉X.fs->b∉ch->s.heap.get? b=some o->H b=none->h'.get? b=some o)
  (slot:∀b o,b≠X.env.locals->b∈X.fs->b∉ch->s.heap.get? b=some o->H b=none->∃sl,h'.get? b=some {o with slots:=sl}) (free:∀b o,b∉ch->s.heap.get? b=some o->H b=none->H' b=none)
  (there:∀b o,b∉ch->s.heap.get? b=some o->∃o',h'.get? b=some o')
  (tups:∀b xs,H b=some (.tup xs)->H' b=some (.tup xs)) (frzs:∀b o u,H b=some (.frz o u)->H' b=some (.frz o u)) (tbls:∀b ps,H b=some (.tbl ps)->∃more,H' b=some (.tbl (ps++more)))
  (ns:∀m,s.heap.Ns X.env.locals m->h'.Ns X.env.locals m) (hok:HOk X.prog X.w H' h') (hg:YF g') :
  Inv X G σ H' {s with heap:=h',gens:=g',drawn:=d',toks:=t'}:=by
 have neL:∀b o,X.s₀.heap.get? b=some o->b≠X.env.locals:=λb o e=>TN (Tf (Td e) I.ok.above)
 have neC:∀b o,X.s₀.heap.get? b=some o->b∉X.ex->b∉ch:=λb o e hx hb=>by
  rcases (hch b hb).1 with z|z
  .exact hx z
  .exact absurd (Tf (Td e) z) (VZ _)
 have cellK:∀x c,X.env.cells.lookup x=some c->∀v,s.heap.IsCell c v->h'.IsCell c v:=λx c e v ⟨o,ho,hd⟩=>by
  have nch:c∉ch:=λz=>(hch c z).2.2.1 x c e rfl
  by_cases hc:c∈X.fs
  .obtain⟨sl,q⟩:=slot c o (I.cne x c e) hc nch ho (I.freeC x c e);exact⟨_,q,hd⟩
  .exact⟨o,keep c o (I.cne x c e) hc nch ho (I.freeC x c e),hd⟩
 refine⟨I.ok,I.os,hg,⟨λb o e n hb hx=>?_,λb o e n hb hx=>?_,λb o e n hx=>?_,λb o e hx=>?_,λb xs e=>tups b xs (I.base.tups b xs e),λb o xs e=>frzs b o xs (I.base.frzs b o xs e),λb ps e=>?_⟩,?_,λx c e=>?_,?_,λx c e=>?_,λp hp=>?_,hok,I.len⟩
 .exact keep b o (neL b o e) hb (neC b o e hx) (I.base.keep b o e n hb hx) (I.base.free b o e n hx)
 .obtain⟨sl,e1⟩:=I.base.slot b o e n hb hx;obtain⟨sl',e2⟩:=slot b _ (neL b o e) hb (neC b o e hx) e1 (I.base.free b o e n hx);exact⟨sl',e2⟩
 .obtain⟨o',e1⟩:=I.base.there b o e hx;exact free b o' (neC b o e hx) e1 (I.base.free b o e n hx)
 .obtain⟨o',e1⟩:=I.base.there b o e hx;exact there b o' (neC b o e hx) e1
 .obtain⟨m1,e1⟩:=I.base.tbls b ps e;obtain⟨m2,e2⟩:=tbls b _ e1;exact⟨m1++m2,by rw[e2,Array.append_assoc]⟩
 .obtain⟨m,hn,hl⟩:=I.loc;refine⟨m,ns m hn,λi x v e1 e2 e3=>?_⟩;obtain⟨u,r,l⟩:=hl i x v e1 e2 e3;refine⟨u,r,?_⟩;rcases l with l|⟨k,c,e,z⟩
  .exact .inl l
  .exact .inr ⟨k,c,e,cellK x c e _ z⟩
 .obtain⟨v,z⟩:=I.cell x c e;exact⟨v,cellK x c e v z⟩
 .obtain⟨m,⟨o,_,_,ho,_⟩,_⟩:=I.loc;exact free _ o (λz=>(hch _ z).2.1 rfl) ho I.free
 .obtain⟨v,o,ho,hd⟩:=I.cell x c e;exact free c o (λz=>(hch c z).2.2.1 x c e rfl) ho (I.freeC x c e)
 .obtain⟨e,n,ne,nf,d⟩:=I.pin p hp;have nch:p.1∉ch:=λz=>(hch p.1 z).2.2.2 p hp rfl
  exact⟨keep p.1 p.2 ne nf nch e n,free p.1 p.2 nch e n,ne,nf,d⟩
def Inv.un{t':Nat}(I:Inv X G σ H s)(u:Un X.fs [] H H' s.heap h')(hok:HOk X.prog X.w H' h'):Inv X G σ H' {s with heap:=h',toks:=t'}:=by
 obtain⟨m,⟨o,es,ep,ho,r⟩,_⟩:=id I.loc;obtain⟨sl,hL⟩:=u.any ho I.free (by simp)
 exact I.step (g':=s.gens) (d':=s.drawn) (ch:=[]) (λ_ z=>nomatch z) (λb o _ hb _ e n=>u.keep b o e n hb (by simp)) (λb o _ hb _ e n=>u.slot b o e n hb (by simp)) (λb o _ e n=>u.free b o e n (by simp)) (λb o _ e=>u.there b o e (by simp)) u.tups u.frzs u.tbls (λm' hm=>by
  obtain⟨o',es',ep',ho',r'⟩:=hm
  rw[ho] at ho';cases ho'
  exact⟨_,es',ep',hL,r'⟩) hok I.bare
def Inv.call{t':Nat}{d':Drawn}(I:Inv X G σ H s)(u:Un (zt X.stack) ch H H' s.heap h')(hok:HOk X.prog X.w H' h')(hg:YF g')
  (hch:∀b∈ch,(b∈X.ex\/X.s₀.heap.objs.size<=b)/\b≠X.env.locals/\(∀x c,X.env.cells.lookup x=some c->c≠b)/\∀p∈X.pn++G,p.1≠b) :
  Inv X G σ H' {s with heap:=h',gens:=g',drawn:=d',toks:=t'}:=by
 obtain⟨m,⟨o,es,ep,ho,r⟩,_⟩:=id I.loc;obtain⟨sl,hL⟩:=u.any ho I.free λz=>(hch _ z).2.1 rfl
 exact I.step (ch:=ch) hch (λb o hL hb hc e n=>u.keep b o e n (λz=>(S_.mp (I.AI b z)).elim hL hb) hc) (λb o _ _ hc e n=>u.any e n hc) (λb o hc e n=>u.free b o e n hc) (λb o hc e=>u.there b o e hc) u.tups u.frzs u.tbls (λm' hm=>by
  obtain⟨o',es',ep',ho',r'⟩:=hm
  rw[ho] at ho';cases ho'
  exact⟨_,es',ep',hL,r'⟩) hok hg
def Inv.turned{t':Nat}{it:Addr}(I:Inv X G σ H s)(k:∀b o,b≠it->s.heap.get? b=some o->h'.get? b=some o)(hn:H it=none)(hL:it≠X.env.locals)
  (h1:it∈X.ex\/X.s₀.heap.objs.size<=it) (h2:∀x c,X.env.cells.lookup x=some c->c≠it) (h3:∀p∈X.pn++G,p.1≠it):Inv X G σ H {s with heap:=h',toks:=t'}:=by
 have nit:∀b u,H b=some u->b≠it:=λb u e z=>by rw[z,hn] at e;cases e
 refine I.step (g':=s.gens) (d':=s.drawn) (ch:=[it]) (λb hb=>?_) (λb o _ _ hc e _=>k b o (λz=>hc (by simp[z])) e) (λb o _ _ hc e _=>⟨o.slots,k b o (λz=>hc (by simp[z])) e⟩) (λ_ _ _ _ n=>n)
  (λb o hc e=>⟨o,k b o (λz=>hc (by simp[z])) e⟩) (λ_ _ e=>e) (λ_ _ _ e=>e) (λb ps e=>⟨#[],by rw[e];simp⟩) (λm hm=>?_) (λb u e=>?_) I.bare
 .have e:b=it:=by simpa using hb
  subst e;exact⟨h1,hL,h2,h3⟩
 .obtain⟨o,es,ep,ho,r⟩:=hm;exact⟨o,es,ep,k _ o (YG hL) ho,r⟩
 .refine(I.hok b u e).stay (λc v hc q=>k c v ?_ q) (λ_ q=>q) λ_ _ q=>q
  rcases hc with z|z
  .rw[z];exact nit b u e
  .exact nit c _ z
def Inv.tok(I:Inv X G σ H s)(t:Nat):Inv X G σ H {s with toks:=t}:=I.un (h':=s.heap) (t':=t) Un.refl I.hok
def Inv.kept{t':Nat}(I:Inv X G σ H s)(k:∀b u,s.heap.get? b=some u->h'.get? b=some u):Inv X G σ H {s with heap:=h',toks:=t'}:=I.un (Un.kept k) (I.hok.kept k)
def Inv.laid{a:Addr}{t':Nat}(I:Inv X G σ H s)(k:∀b u,s.heap.get? b=some u->h'.get? b=some u)(hp:s.heap.objs.size<=a)(new:ca X.prog X.w (upd H a o) h' a o) :
  Inv X G σ (upd H a o) {s with heap:=h',toks:=t'}:=I.un (Un.laid k hp (I.hok.fresh hp)) (I.hok.laid k hp new)
def Inv.write{e:Addr}{t':Nat}(I:Inv X G σ H s)(mu:PU (H x))(he:e=x\/H e=some (.own x))(k:∀b u,b≠e->s.heap.get? b=some u->h'.get? b=some u)(heo:∃u,h'.get? e=some u)
  (new:ca X.prog X.w (upd H x o) h' x o):Inv X G σ (upd H x o) {s with heap:=h',toks:=t'}:=I.un (Un.write mu he k heo) (I.hok.write mu he k heo new)
def Inv.Cc{pins':List (Addr×Obj)}(I:Inv X G σ H s)(h:∀p∈pins',s.heap.get? p.1=some p.2/\H p.1=none/\p.1≠X.env.locals/\p.1∉X.fs/\∀v,p.2.data≠.cell v):Inv X pins' σ H s :=
 ⟨I.ok,I.os,I.bare,I.base,I.loc,I.cell,I.free,I.freeC,λp hp=>(SQ.mp hp).elim (λz=>I.pin p (Te _ z)) (h p),I.hok,I.len⟩
def wU{N:List Str}(hN:N.Nodup){i j:Nat}{x:Str}(a:N[i]?=some x)(b:N[j]?=some x):i=j:=by
 obtain⟨h1,e1⟩:=Sn.mp a;obtain⟨h2,e2⟩:=Sn.mp b;exact(VE hN).mp (e1.trans e2.symm)
def qA{i:Nat}{x:Str}{Q:Unit->SB->Prop}(I:Inv X G σ H s)(hN:X.N.Nodup)(hi:X.N[i]?=some x)(hx:Loc X.env.scope x)(r:RelV v u)
  (h:∀s',Inv X G (σ.set i (some v)) H s'->(∃a,Vz a s.heap s'.heap/\(a=X.env.locals\/X.env.cells.lookup x=some a))->Q () s') (hf:X.fn x=true\/X.env.scope.names.lookup x=some .local:=by first|exact .inl rfl|exact .inr rfl|assumption):wpAny M A (storeName X.env x u) Q E s:=by
 obtain⟨m,hn,hl⟩:=id I.loc;have hcls:(X.env.scope.kind == .class || (X.env.scope.kind == .module && X.env.locals != X.env.globals))=false:=by rw[I.ok.kind];rfl
 have hiσ:i<UD σ:=by rw[I.len];exact(Sn.mp hi).1
 have cne:=I.cne
 have tracked:∀{a:Addr} {h':Heap},(∃o,s.heap.get? a=some o/\H a=none)->Vz a s.heap h'->HOk X.prog X.w H h':=λ{a h'} ha hs b ob e=>by
  obtain⟨_,_,hfree⟩:=ha;refine(I.hok b ob e).stay (λc w' hc q=>(hs.2 c ?_).trans q) (λ_ q=>q) λ_ _ q=>q
  rintro rfl;rcases hc with rfl|hc
  .rw[hfree] at e;cases e
  .rw[hfree] at hc;cases hc
 rcases hx with hk|hk
 .refine wpAny_storeName_local hk hn (λh' hn' hs=>?_) hcls;obtain⟨oL,_,_,hoL,_⟩:=id hn;refine h _ ⟨I.ok,I.os,I.bare,⟨λb o e n hb hx=>?_,λb o e n hb hx=>?_,I.base.free,λb o e hx=>?_,I.base.tups,I.base.frzs,I.base.tbls⟩,⟨_,hn',λj y v' e1 e2 e3=>?_⟩,λy c e=>?_,I.free,I.freeC,λp hp=>?_,tracked ⟨oL,hoL,I.free⟩ hs,by simpa using I.len⟩ ⟨_,hs,.inl rfl⟩
  .exact(hs.2 b (TN (Tf (Td e) I.ok.above))).trans (I.base.keep b o e n hb hx)
  .obtain⟨sl,e1⟩:=I.base.slot b o e n hb hx;exact⟨sl,(hs.2 b (TN (Tf (Td e) I.ok.above))).trans e1⟩
  .obtain⟨o',e1⟩:=I.base.there b o e hx;exact⟨o',(hs.2 b (TN (Tf (Td e) I.ok.above))).trans e1⟩
  .by_cases hj:j=i
   .subst hj;rw[hi] at e1;cases e1;rw[We hiσ] at e2;cases e2;exact⟨u,r,.inl ⟨hk,by simp⟩⟩
   .rw[Wx (YG hj)] at e2;obtain⟨u',r',q⟩:=hl j y v' e1 e2 e3;refine⟨u',r',?_⟩;rcases q with⟨k,e⟩|⟨k,c,e,z⟩
    .refine .inl ⟨k,?_⟩
     have:y≠x:=λe=>hj (wU hN e1 (e ▸ hi))
     simp[this,e]
    .exact .inr ⟨k,c,e,z.sameBut hs (cne y c e)⟩
  .obtain⟨w',z⟩:=I.cell y c e;exact⟨w',z.sameBut hs (cne y c e)⟩
  .obtain⟨e,n,ne,nf,d⟩:=I.pin p hp;exact⟨(hs.2 p.1 ne).trans e,n,ne,nf,d⟩
 .have hfn:X.fn x=true:=by
   rcases hf with z|z
   .exact z
   .rw[z] at hk;cases hk
  obtain⟨c,hc⟩:=I.ok.has x (.inl hk);obtain⟨w',z⟩:=I.cell x c hc;refine wpAny_storeName_cell I.ok.kind hk hc z (λh' hc' hs=>?_);obtain⟨oc,hoc,hocd⟩:=id z;refine h {s with heap:=h'} ⟨I.ok,I.os,I.bare,⟨λb o e n hb hx=>?_,λb o e n hb hx=>?_,I.base.free,λb o e hx=>?_,I.base.tups,I.base.frzs,I.base.tbls⟩,⟨m,hn.sameBut hs (YG (cne x c hc)),λj y v' e1 e2 e3=>?_⟩,λy c' e=>?_,I.free,I.freeC,λp hp=>?_,tracked ⟨oc,hoc,I.freeC x c hc⟩ hs,by simpa using I.len⟩ ⟨c,hs,.inr hc⟩
  .exact(hs.2 b (TN (Tf (Td e) (I.ok.cab x c hfn hc)))).trans (I.base.keep b o e n hb hx)
  .obtain⟨sl,e1⟩:=I.base.slot b o e n hb hx;exact⟨sl,(hs.2 b (TN (Tf (Td e) (I.ok.cab x c hfn hc)))).trans e1⟩
  .obtain⟨o',e1⟩:=I.base.there b o e hx;exact⟨o',(hs.2 b (TN (Tf (Td e) (I.ok.cab x c hfn hc)))).trans e1⟩
  .by_cases hj:j=i
   .subst hj;rw[hi] at e1;cases e1;rw[We hiσ] at e2;cases e2;exact⟨u,r,.inr ⟨.inl hk,c,hc,hc'⟩⟩
   .rw[Wx (YG hj)] at e2;obtain⟨u',r',q⟩:=hl j y v' e1 e2 e3;refine⟨u',r',?_⟩;rcases q with q|⟨k,c',e,z'⟩
    .exact .inl q
    .refine .inr ⟨k,c',e,z'.sameBut hs ?_⟩;rintro rfl;exact hj (wU hN e1 (I.ok.inj _ _ _ e hc ▸ hi))
  .by_cases hcc:c'=c
   .subst hcc;exact⟨_,hc'⟩
   .obtain⟨w2,z2⟩:=I.cell y c' e;exact⟨w2,z2.sameBut hs hcc⟩
  .obtain⟨e,n,ne,nf,d⟩:=I.pin p hp;refine⟨(hs.2 p.1 ?_).trans e,n,ne,nf,d⟩;intro q;rw[q,hoc] at e;have q':oc=p.2:=SU e;exact d w' (by rw[<- q'];exact hocd)
def ju{i:Nat}{x:Str}{Q:Unit->SB->Prop}(I:Inv X G σ H s)(hN:X.N.Nodup)(hi:X.N[i]?=some x)(hx:Loc X.env.scope x)(r:RelV v u)
  (h:∀s',Inv X G (σ.set i (some v)) H s'->Q () s') (hf:X.fn x=true\/X.env.scope.names.lookup x=some .local:=by first|exact .inl rfl|exact .inr rfl|assumption):wpAny M A (storeName X.env x u) Q E s :=
 qA I hN hi hx r (λs' I' _=>h s' I') hf
def Inv.call'{s':SB}(I:Inv X G σ H s)(ho:s'.os=s.os)(u:Un (zt X.stack) ch H H' s.heap s'.heap)(hok:HOk X.prog X.w H' s'.heap)(hg:YF s'.gens)
  (hch:∀b∈ch,(b∈X.ex\/X.s₀.heap.objs.size<=b)/\b≠X.env.locals/\(∀x c,X.env.cells.lookup x=some c->c≠b)/\∀p∈X.pn++G,p.1≠b):Inv X G σ H' s':=by
 obtain⟨h',g',d',t',o'⟩:=s';have e:o'=s.os:=ho;subst e;exact I.call (g':=g') (t':=t') (d':=d') u hok hg hch
end
nonrec def XK:=Su->Option Addr->Hp->Prop
nonrec def St:=List (Option V)
nonrec def VK:=V->Hp->Prop
nonrec def TE:=St->Hp->VK->Prop
nonrec def TT:=St->Hp->(Bool->Hp->Prop)->Prop
nonrec def TA:=St->Hp->(List V->Hp->Prop)->Prop
structure cr where
 nx:St->Hp->Prop
 rt:VK
 bk:St->Hp->Prop:=λ_ _=>False
 ct:St->Hp->Prop:=λ_ _=>False
nonrec def TS:=cr->St->Hp->Prop
abbrev EP(X:Cx)(G:List (Addr×Obj))(σ:St)(Q:VK)(u:Su)(s':SB):Prop:=∃v H',Inv X G σ H' s'/\RelV v u/\Q v H'
abbrev TP(X:Cx)(G:List (Addr×Obj))(σ:St)(Q:Bool->Hp->Prop)(b:Bool)(s':SB):Prop:=∃H',Inv X G σ H' s'/\Q b H'
abbrev AP(X:Cx)(G:List (Addr×Obj))(σ:St)(Q:List V->Hp->Prop)(us:List Su)(s':SB):Prop:=∃vs H',Inv X G σ H' s'/\Vals vs us/\Q vs H'
abbrev SP(X:Cx)(G:List (Addr×Obj))(D:cr)(f:Flow)(s':SB):Prop :=
 match f with
 |.next=>∃σ' H',Inv X G σ' H' s'/\D.nx σ' H'
 |.brk=>∃σ' H',Inv X G σ' H' s'/\D.bk σ' H'
 |.cont=>∃σ' H',Inv X G σ' H' s'/\D.ct σ' H'
 |.ret u=>∃v σ' H',Inv X G σ' H' s'/\RelV v u/\D.rt v H'
abbrev PE(X:Cx)(e:Expr)(t:TE):Prop :=
 ∀(G:List (Addr×Obj)) (s:SB) (σ:St) (H:Hp) (Q:VK),Inv X G σ H s->t σ H Q->wpAny (model X.prog X.w) X.A (eval e X.env) (EP X G σ Q) X.xe s
abbrev PT(X:Cx)(e:Expr)(t:TT):Prop :=
 ∀(G:List (Addr×Obj)) (s:SB) (σ:St) (H:Hp) (Q:Bool->Hp->Prop),Inv X G σ H s->t σ H Q->wpAny (model X.prog X.w) X.A (isTrue e X.env (eval e X.env)) (TP X G σ Q) X.xe s
abbrev PW(X:Cx)(e:Expr)(t:TT):Prop :=
 ∀(whole:Sem Su) (G:List (Addr×Obj)) (s:SB) (σ:St) (H:Hp) (Q:Bool->Hp->Prop),Inv X G σ H s->t σ H Q->wpAny (model X.prog X.w) X.A (isTrue e X.env whole) (TP X G σ Q) X.xe s
def PW.pt(h:PW X e t):PT X e t:=h _
abbrev PA(X:Cx)(es:List Expr)(t:TA):Prop :=
 ∀(pos:Pos) (G:List (Addr×Obj)) (s:SB) (σ:St) (H:Hp) (Q:List V->Hp->Prop),Inv X G σ H s->t σ H Q->wpAny (model X.prog X.w) X.A (spliced (backTo pos (starEach es X.env))) (AP X G σ Q) X.xe s
abbrev PS(X:Cx)(st:Stmt)(t:TS):Prop :=
 ∀(G:List (Addr×Obj)) (s:SB) (σ:St) (H:Hp) (D:cr),Inv X G σ H s->t D σ H->wpAny (model X.prog X.w) X.A (exec st X.env) (SP X G D) X.xe s
abbrev PSs(X:Cx)(st:List Stmt)(t:TS):Prop :=
 ∀(G:List (Addr×Obj)) (s:SB) (σ:St) (H:Hp) (D:cr),Inv X G σ H s->t D σ H->wpAny (model X.prog X.w) X.A (execs st X.env) (SP X G D) X.xe s
def a_{α:Type}{t:Sem α}{Q Q':α->SB->Prop}(h:wpAny M A t Q E s)(hQ:∀a s,Q a s->Q' a s):wpAny M A t Q' E s:=UK h hQ λ_ _ x=>x
section
variable{X:Cx}
abbrev aa(i:Nat):TE:=λσ H Q=>∃v,σ[i]?=some (some v)/\Q v H
abbrev tC(v:V):TE:=λ_ H Q=>Q v H
def Nz{i:Nat} {x:Str}  (hN:X.N[i]?=some x) (hv:P7 X.env.scope x) (hd:(x == ("__debug__":Str))=false:=by decide) (hcd:(x == ("__classdict__":Str))=false:=by decide):PE X (.Name x pos) (aa i):=by
 intro G s σ H Q I h;obtain⟨v,e,h⟩:=h;obtain⟨m,hn,hl⟩:=I.loc;obtain⟨u,r,l⟩:=hl i x v hN e hv;have fin:EP X G σ Q u s:=⟨v,H,I,r,h⟩
 rcases l with⟨hk,hm⟩|⟨hk,c,hc,hcell⟩
 .exact wpAny_Name (wpAny_loadName_local I.ok.kind hk hn hm fin) hd
 .rcases hk with hk|hk
  .exact wpAny_Name (wpAny_loadName_cell I.ok.kind hk hc hcell fin) hd
  .exact wpAny_Name (wpAny_loadName_free I.ok.kind hk hc hcell fin hcd) hd
def NK{i j pos}:PE X (.Constant (.int i) j pos) (tC (.int i)):=λ_ _ _ H _ I h=>wpAny_Constant_int ⟨.int i,H,I.tok _,⟨_,rfl⟩,h⟩
def Qz{b j pos}:PE X (.Constant (.bool b) j pos) (tC (.bl b)):=λ_ _ _ H _ I h=>Constant_bool ⟨.bl b,H,I,rfl,h⟩
def NE{j pos}:PE X (.Constant .none j pos) (tC .non):=λ_ _ _ H _ I h=>Constant_none ⟨.non,H,I,rfl,h⟩
def NB{x j pos}:PE X (.Constant (.str x) j pos) (tC (.str x)):=λ_ _ _ H _ I h=>Calls.Constant_str ⟨.str x,H,I.tok _,⟨_,rfl⟩,h⟩
abbrev Gl(X:Cx)(x:Str):Prop:=X.env.kindOf x=some .globalImplicit
def CW{H:Hp}{u:Su}{Q:Su->SB->Prop}(I:Inv X G σ H s)(hg:Gl X x)(hm:X.mg x=some u)(h:Q u s)
  (hd:(x == ("__debug__":Str))=false:=by decide):wpAny (model X.prog X.w) X.A (eval (.Name x pos) X.env) Q E s :=
 Yi I.ok.kind hg (Calls.loadGlobal_global (by rw[I.ok.glob];exact I.mod.glob.keeps I.bk) hm h) hd
def c8{H:Hp}{u:Su}{Q:Su->SB->Prop}(I:Inv X G σ H s)(hg:Gl X x)(hm:X.mg x=none)(hv:bootBuiltins x=some u)(h:Q u s)
  (hn:x≠"__name__":=by decide) (hd:(x == ("__debug__":Str))=false:=by decide):wpAny (model X.prog X.w) X.A (eval (.Name x pos) X.env) Q E s:=by
 obtain⟨mb,h1,h2⟩:=I.mod.blt;exact Yi I.ok.kind hg (Calls.loadGlobal_builtin (by rw[I.ok.glob];exact I.mod.glob.keeps I.bk) hm (by rw[I.ok.blt];exact h1.keeps I.bk) ((h2 x hn).trans hv) h) hd
def Cj{u:Su}  (hg:Gl X x) (hm:X.mg x=some u) (r:RelV v u) (hd:(x == ("__debug__":Str))=false:=by decide):PE X (.Name x pos) (tC v) :=
 λ_ _ _ H _ I h=>CW I hg hm ⟨v,H,I,r,h⟩ hd
def Co{u:Su}  (hg:Gl X x) (hm:X.mg x=none) (hv:bootBuiltins x=some u) (r:RelV v u) (hn:x≠"__name__":=by decide) (hd:(x == ("__debug__":Str))=false:=by decide):PE X (.Name x pos) (tC v) :=
 λ_ _ _ H _ I h=>c8 I hg hm hv ⟨v,H,I,r,h⟩ hn hd
variable{a b:Expr}{ta tb:TE}{pos:Pos}
abbrev PC(X:Cx)(op:CmpOp)(a b:Expr)(t:TE):Prop :=
 ∀(G:List (Addr×Obj)) (s:SB) (σ:St) (H:Hp) (Q:VK),Inv X G σ H s->t σ H Q ->
  wpAny (model X.prog X.w) X.A (eval a X.env) (λv s₁=>wpAny (model X.prog X.w) X.A (eval b X.env) (λu s₂=>wpAny (model X.prog X.w) X.A (compareOp op v u) (EP X G σ Q) X.xe s₂) X.xe s₁) X.xe s
abbrev tB(t:TE):TT:=λσ H Q=>t σ H λx H1=>∃c,x=.bl c/\Q c H1
def Nf(h:PC X op a b t)(h1:behindInMarks op b=false:=by first|exact nobehind _ (by decide) (by decide)|rfl):PT X (.Compare a [op] [b] pos) (tB t):=by
 intro G s σ H Q I hw;refine Zy (a_ (h G s σ H _ I hw) λv s1 h1=>a_ h1 λu s2 h2=>a_ h2 λc s3 ω=>?_) h1;obtain⟨x,H1,I1,r1,q1⟩:=ω;obtain⟨d,rfl,q⟩:=q1;cases r1;exact UX ⟨H1,I1,q⟩
def Nb(h:PE X e t)(he:∀whole,isTrue e X.env whole=(do let v <- whole;standAt e.pos;holding [v] (truthy v)):=by intro _;rfl):PT X e (tB t):=by
 intro G s σ H Q I hw;refine isTrue_plain (a_ (h G s σ H _ I hw) λv s1 ω=>?_) (he _);obtain⟨x,H1,I1,r1,q1⟩:=ω;obtain⟨d,rfl,q⟩:=q1;cases r1;exact UX ⟨H1,I1,q⟩
variable{tA tB':TT}{rest:List Expr}
abbrev oA(t u:TT):TT:=λσ H Q=>t σ H λc H1=>if c=true then u σ H1 Q else Q false H1
abbrev HM(t u:TT):TT:=λσ H Q=>t σ H λc H1=>if c=true then Q true H1 else u σ H1 Q
abbrev oz(t:TT):TT:=λσ H Q=>t σ H λc H1=>Q (!c) H1
def pw_and1(ha:PT X a tA):PW X (.BoolOp .And [a] pos) tA:=by
 intro wh G s σ H Q I h;refine isTrue_and (a_ (ha G s σ H Q I h) λc s1 e=>?_);cases c with
 |true=>exact isTrue_and_nil e
 |false=>exact e
def pw_or1(ha:PT X a tA):PW X (.BoolOp .Or [a] pos) tA:=by
 intro wh G s σ H Q I h;refine isTrue_or (a_ (ha G s σ H Q I h) λc s1 e=>?_);cases c with
 |false=>exact isTrue_or_nil e
 |true=>exact e
def pw_and(ha:PT X a tA)(hb:PW X (.BoolOp .And (b :: rest) pos) tB'):PW X (.BoolOp .And (a :: b :: rest) pos) (oA tA tB'):=by
 intro wh G s σ H Q I h;refine isTrue_and (a_ (ha G s σ H _ I h) λc s1 ω=>?_);obtain⟨H1,I1,q1⟩:=ω;cases c with
 |true=>exact hb wh G s1 σ H1 Q I1 q1
 |false=>exact⟨H1,I1,q1⟩
def pw_or(ha:PT X a tA)(hb:PW X (.BoolOp .Or (b :: rest) pos) tB'):PW X (.BoolOp .Or (a :: b :: rest) pos) (HM tA tB'):=by
 intro wh G s σ H Q I h;refine isTrue_or (a_ (ha G s σ H _ I h) λc s1 ω=>?_);obtain⟨H1,I1,q1⟩:=ω;cases c with
 |true=>exact⟨H1,I1,q1⟩
 |false=>exact hb wh G s1 σ H1 Q I1 q1
def Nc(ha:PT X a tA):PT X (.UnaryOp .Not a pos) (oz tA):=by
 intro G s σ H Q I h;exact isTrue_not (ha G s σ H (λc H1=>Q (!c) H1) I h)
abbrev AE(ta tb:TE):TE:=λσ H Q=>ta σ H λx H1=>∃c,x=.bl c/\if c=true then tb σ H1 Q else Q (.bl false) H1
abbrev Fj(ta tb:TE):TE:=λσ H Q=>ta σ H λx H1=>∃c,x=.bl c/\if c=true then Q (.bl true) H1 else tb σ H1 Q
abbrev AA(ta:TE):TE:=λσ H Q=>ta σ H λx H1=>∃c,x=.bl c/\Q (.bl (!c)) H1
def NC{op}(h:PE X a t):PE X (.BoolOp op [a] pos) t:=λG s σ H Q I hw=>BoolOp_one (h G s σ H Q I hw)
def NM(ha:PE X a ta)(hb:PE X (.BoolOp .And (b :: rest) pos) tb):PE X (.BoolOp .And (a :: b :: rest) pos) (AE ta tb):=by
 intro G s σ H Q I h;refine BoolOp_and (a_ (ha G s σ H _ I h) λv s1 ω=>?_);obtain⟨x,H1,I1,r1,q1⟩:=ω;obtain⟨c,rfl,q1⟩:=q1;cases r1;refine UX ?_;cases c with
 |true=>exact hb G s1 σ H1 Q I1 q1
 |false=>exact⟨.bl false,H1,I1,rfl,q1⟩
def Qw(ha:PE X a ta)(hb:PE X (.BoolOp .Or (b :: rest) pos) tb):PE X (.BoolOp .Or (a :: b :: rest) pos) (Fj ta tb):=by
 intro G s σ H Q I h;refine BoolOp_or (a_ (ha G s σ H _ I h) λv s1 ω=>?_);obtain⟨x,H1,I1,r1,q1⟩:=ω;obtain⟨c,rfl,q1⟩:=q1;cases r1;refine UX ?_;cases c with
 |false=>exact hb G s1 σ H1 Q I1 q1
 |true=>exact⟨.bl true,H1,I1,rfl,q1⟩
def ND(ha:PE X a ta):PE X (.UnaryOp .Not a pos) (AA ta):=by
 intro G s σ H Q I h;refine UnaryOp_ (a_ (ha G s σ H _ I h) λv s1 ω=>?_);obtain⟨x,H1,I1,r1,q1⟩:=ω;obtain⟨c,rfl,q1⟩:=q1;cases r1;exact not_of (UX ⟨.bl (!c),H1,I1,rfl,q1⟩)
abbrev Mj(t:TT)(ta tb:TE):TE:=λσ H Q=>t σ H λc H1=>if c=true then ta σ H1 Q else tb σ H1 Q
def Gp(hc:PT X c tA)(ha:PE X a ta)(hb:PE X b tb):PE X (.IfExp c a b pos) (Mj tA ta tb):=by
 intro G s σ H Q I h;refine wpAny_IfExp (a_ (hc G s σ H _ I h) λd s1 ω=>?_);obtain⟨H1,I1,q1⟩:=ω;cases d with
 |true=>exact ha G s1 σ H1 Q I1 q1
 |false=>exact hb G s1 σ H1 Q I1 q1
end
abbrev SqL(K:Fg)(H:Hp)(a:Addr)(xs:List V):Prop :=
 Rd H a (.lst xs) \/
  ∃(o:Obj) (de:Array Su) (n:Nat),K.lookup a=some o/\o.cls=.type "list"/\o.dict=none/\o.data=.seq de n/\de.size<=sizeLine/\Vals xs de.toList
abbrev SqT(K:Fg)(H:Hp)(a:Addr)(xs:List V):Prop :=
 Rd H a (.tup xs) \/
  ∃(o:Obj) (de:Array Su) (n:Nat),K.lookup a=some o/\o.cls=.type "tuple"/\o.data=.seq de n/\de.size<=sizeLine/\Vals xs de.toList
abbrev RH:Su->Option V
 |.none=>some .non
 |.bool b=>some (.bl b)
 |.int i _=>↥i
 |.str x _=>some (.str x)
 |.bytes b _=>some (.byt b)
 |.float b _=>some (.flt b)
 |.ref a=>⇑a
 |.type n=>some (.ty n)
 |_=>none
def RelV.abs(r:RelV x u):RH u=some x:=by
 cases x with
 |non=>cases r;rfl
 |bl _=>cases r;rfl
 |int _=>obtain⟨t,rfl⟩:=r;rfl
 |str _=>obtain⟨t,rfl⟩:=r;rfl
 |byt _=>obtain⟨t,rfl⟩:=r;rfl
 |flt _=>obtain⟨t,rfl⟩:=r;rfl
 |ref _=>cases r;rfl
 |ty _=>cases r;rfl
def RelV.inj(r:RelV x u)(q:RelV y u):x=y:=SU (r.abs.symm.trans q.abs)
def Vals.inj:∀{xs ys:List V} {us:List Su},Vals xs us->Vals ys us->xs=ys
 |_,_,_,.nil,.nil=>rfl
 |_,_,_,.cons r t,.cons r' t'=>by rw[r.inj r',Vals.inj t t']
section
variable{X:Cx}{G:List (Addr×Obj)}{σ:St}{H:Hp}{s:SB}{a:Addr}{xs ys:List V}
def SqL.of{K:Fg}(h:H a=some (.lst xs)):SqL K H a xs:=.inl (.inl h)
def SqT.of{K:Fg}(h:H a=some (.tup xs)):SqT K H a xs:=.inl (.inl h)
def Inv.list(I:Inv X G σ H s)(h:SqL X.K H a xs):∃de:List Su,Vals xs de/\PlainL s.heap a de.toArray/\xs.length<=sizeLine:=by
 rcases h with h|⟨o,de,n,hk,hc,hd,hs,hz,r⟩
 .obtain⟨z,de,n,r,e⟩:=h.ok I.hok;exact⟨de,r,⟨_,n,e,rfl,rfl,rfl⟩,z⟩
 .refine⟨de.toList,r,⟨o,n,I.kIn a o hk,hc,hd,by simpa using hs⟩,?_⟩;have e:=r.length;simp only[Tq] at e;lia
def Inv.tuple(I:Inv X G σ H s)(h:SqT X.K H a xs):∃de:List Su,Vals xs de/\IsTup s.heap a de.toArray/\xs.length<=sizeLine:=by
 rcases h with h|⟨o,de,n,hk,hc,hs,hz,r⟩
 .obtain⟨z,de,r,p⟩:=h.ok I.hok;exact⟨de,r,p.tup,z⟩
 .refine⟨de.toList,r,⟨o,I.kIn a o hk,hc,n,by simpa using hs⟩,?_⟩;have e:=r.length;simp only[Tq] at e;lia
def Inv.pJ(I:Inv X G σ H s)(h:SqL X.K H a xs)(h':SqL X.K H a ys):xs=ys:=by
 obtain⟨de,r,⟨o,n,e,_,_,d⟩,_⟩:=I.list h;obtain⟨its',r',⟨o',n',e',_,_,d'⟩,_⟩:=I.list h';rw[e] at e';cases e';rw[d] at d';injection d' with d1 _
 have:de=its':=by simpa using congrArg Array.toList d1
 subst this;exact r.inj r'
def Inv.qu(I:Inv X G σ H s)(h:SqT X.K H a xs)(h':SqT X.K H a ys):xs=ys:=by
 obtain⟨de,r,⟨o,e,_,n,d⟩,_⟩:=I.tuple h;obtain⟨its',r',⟨o',e',_,n',d'⟩,_⟩:=I.tuple h';rw[e] at e';cases e';rw[d] at d';injection d' with d1 _
 have:de=its':=by simpa using congrArg Array.toList d1
 subst this;exact r.inj r'
end
nonrec def Cx.wish(X:Cx)(E:Su->SB->Prop):Cx:={X with xe:=E}
nonrec def Cx.nox(X:Cx):Cx:=X.wish λ_ _=>False
def Cx.Ok.wish{X:Cx}(ok:X.Ok)(E:Su->SB->Prop):(X.wish E).Ok :=
 ⟨ok.mod,ok.kind,ok.glob,ok.blt,ok.above,ok.inj,ok.has,ok.cab,ok.hd,ok.frames,ok.stk,ok.exf,ok.bs,ok.bsz,ok.noex,ok.exfs,ok.funs,ok.frf⟩
def Cx.Ok.iK{X:Cx}(ok:(X.wish E).Ok):X.Ok :=
 ⟨ok.mod,ok.kind,ok.glob,ok.blt,ok.above,ok.inj,ok.has,ok.cab,ok.hd,ok.frames,ok.stk,ok.exf,ok.bs,ok.bsz,ok.noex,ok.exfs,ok.funs,ok.frf⟩
section
variable{X:Cx}{G:List (Addr×Obj)}{σ:St}{H:Hp}{s:SB}{E:Su->SB->Prop}
def Inv.wish(I:Inv X G σ H s)(E:Su->SB->Prop):Inv (X.wish E) G σ H s:=⟨I.ok.wish E,I.os,I.bare,I.base,I.loc,I.cell,I.free,I.freeC,I.pin,I.hok,I.len⟩
def Inv.iK(I:Inv (X.wish E) G σ H s):Inv X G σ H s:=⟨I.ok.iK,I.os,I.bare,I.base,I.loc,I.cell,I.free,I.freeC,I.pin,I.hok,I.len⟩
def SP.iK{D:cr}(h:SP (X.wish E) G D f s'):SP X G D f s':=by
 cases f with
 |next=>obtain⟨σ',H',I,q⟩:=h;exact⟨σ',H',I.iK,q⟩
 |brk=>obtain⟨σ',H',I,q⟩:=h;exact⟨σ',H',I.iK,q⟩
 |cont=>obtain⟨σ',H',I,q⟩:=h;exact⟨σ',H',I.iK,q⟩
 |ret u=>obtain⟨v,σ',H',I,r,q⟩:=h;exact⟨v,σ',H',I.iK,r,q⟩
def PSs.nox{st:List Stmt}(h:PSs X.nox st t):PSs X st t:=λG s σ H D I hw =>
 UK (h G s σ H D (I.wish _) hw) (λ_ _ q=>q.iK) λ_ _ z=>Wf z
end
section
variable{X:Cx}{st:Stmt}{rest:List Stmt}{t u:TS}{e:Expr}{te:TE}{pos:Pos}
abbrev be:TS:=λD σ H=>D.nx σ H
abbrev ao(t u:TS):TS:=λD σ H=>t {D with nx:=u D} σ H
def Kv:PSs X [] be:=λ_ _ σ H _ I h=>X0 ⟨σ,H,I,h⟩
def Gg(h1:PS X st t)(h2:PSs X rest u):PSs X (st :: rest) (ao t u):=by
 intro G s σ H D I h;refine wpAny_execs_cons (a_ (h1 G s σ H {D with nx:=u D} I h) λf s1 q=>?_);cases f with
 |next =>
  obtain⟨σ',H',I',q⟩:=q;exact h2 G s1 σ' H' D I' q
 |ret v=>exact q
 |brk=>exact q
 |cont=>exact q
def Ku(h1:PS X st t):PSs X [st] t:=by
 intro G s σ H D I h;refine wpAny_execs_cons (a_ (h1 G s σ H D I h) λf s1 q=>?_);cases f with
 |next=>exact X0 q
 |ret v=>exact q
 |brk=>exact q
 |cont=>exact q
def Inv.quiet{H:Hp}(I:Inv X G σ H s):interactive X.env=false:=by simp[interactive,I.ok.kind]
abbrev bF(te:TE):TS:=λD σ H=>te σ H λ_ H1=>D.nx σ H1
def Kw(he:PE X e te)(hs:swapsWith e none pos.line X.env=pure false:=by rfl):PS X (.Expr e pos) (bF te):=by
 intro G s σ H D I h;exact wpAny_Expr_any (a_ (he G s σ H _ I h) (by rintro v s1 ⟨x,H1,I1,r1,q1⟩;exact ⟨σ,H1,I1,q1⟩)) I.quiet hs
abbrev aA(te:TE):TS:=λD σ H=>te σ H D.rt
def Nk(he:PE X e te):PS X (.Return (some e) pos) (aA te):=by
 intro G s σ H D I h;exact wpAny_Return_some (a_ (he G s σ H _ I h) (by rintro v s1 ⟨x,H1,I1,r1,q1⟩;exact ⟨x,σ,H1,I1,r1,q1⟩))
abbrev a4(c:TT)(t u:TS):TS:=λD σ H=>c σ H λb H1=>if b=true then t D σ H1 else u D σ H1
def Qu(hc:PT X c tc)(ha:PSs X a t)(hb:PSs X b u):PS X (.If c a b pos) (a4 tc t u):=by
 intro G s σ H D I h;refine wpAny_If (a_ (hc G s σ H _ I h) λd s1 ω=>?_);obtain⟨H1,I1,q1⟩:=ω;cases d with
 |true=>exact ha G s1 σ H1 D I1 q1
 |false=>exact hb G s1 σ H1 D I1 q1
abbrev qz:TS:=λ_ _ _=>False
def BV:PSs X sts qz:=λ_ _ _ _ _ _ h=>h.elim
end
nonrec def TG:=V->St->Hp->(St->Hp->Prop)->Prop
nonrec def HA:=List V->St->Hp->(St->Hp->Prop)->Prop
abbrev PG(X:Cx)(target:Expr)(t:TG):Prop :=
 ∀(G:List (Addr×Obj)) (s:SB) (σ:St) (H:Hp) (v:V) (u:Su) (Q:St->Hp->Prop),Inv X G σ H s->RelV v u->t v σ H Q ->
  wpAny (model X.prog X.w) X.A (assign target X.env u) (λ_ s'=>∃σ' H',Inv X G σ' H' s'/\Q σ' H') X.xe s
abbrev Mm(X:Cx)(ts:List Expr)(t:HA):Prop :=
 ∀(G:List (Addr×Obj)) (s:SB) (σ:St) (H:Hp) (vs:List V) (us:List Su) (Q:St->Hp->Prop),Inv X G σ H s->Vals vs us->t vs σ H Q ->
  wpAny (model X.prog X.w) X.A (assignInOrder ((assignEach ts X.env).map (·.2)) us) (λ_ s'=>∃σ' H',Inv X G σ' H' s'/\Q σ' H') X.xe s
nonrec def Hz:=V->V->V->Hp->(Hp->Prop)->Prop
abbrev PP(X:Cx)(t:Hz):Prop :=
 ∀(G:List (Addr×Obj)) (s:SB) (σ:St) (H:Hp) (o i v:V) (ov iv u:Su) (Q:Hp->Prop),Inv X G σ H s->RelV o ov->RelV i iv->RelV v u->t o i v H Q ->
  wpAny (model X.prog X.w) X.A (setItem ov iv u) (λ_ s'=>∃H',Inv X G σ H' s'/\Q H') X.xe s
section
variable{X:Cx}{pos:Pos}
abbrev ak(i:Nat):TG:=λv σ H Q=>Q (σ.set i (some v)) H
def Ci{i:Nat}{x:Str}(hN:X.N.Nodup)(hi:X.N[i]?=some x)(hx:Loc X.env.scope x)(hf:X.fn x=true\/X.env.scope.names.lookup x=some .local:=by first|exact .inl rfl|exact .inr rfl|assumption):PG X (.Name x pos) (ak i):=by
 intro G s σ H v u Q I r h;exact wpAny_assign_Name (ju I hN hi hx r (λs' I'=>⟨_,H,I',h⟩) hf)
abbrev cj:HA:=λvs σ H Q=>vs=[]/\Q σ H
abbrev aS(t:TG)(u:HA):HA:=λvs σ H Q=>∃v r,vs=v :: r/\t v σ H λσ' H'=>u r σ' H' Q
def KI:Mm X [] cj:=by
 intro G s σ H vs us Q I r h;obtain⟨e,h⟩:=h;subst e;cases r;exact assignInOrder_nil ⟨σ,H,I,h⟩
def Gm(h1:PG X e t)(h2:Mm X es u)
  (hs:(assignEach (e :: es) X.env).map (·.2)=assign e X.env :: (assignEach es X.env).map (·.2):=by rfl):Mm X (e :: es) (aS t u):=by
 intro G s σ H vs us Q I r h;obtain⟨v,vr,e1,h⟩:=h;subst e1;cases r with
 |cons r rr =>
  rw[hs];refine Yj (a_ (h1 G s σ H _ _ _ I r h) λ_ s1 ω=>?_);obtain⟨σ1,H1,I1,q1⟩:=ω;exact h2 G s1 σ1 H1 _ _ Q I1 rr q1
abbrev cf(K:Fg)(n:Nat)(t:HA):TG:=λv σ H Q=>∃a xs,v=.ref a/\SqT K H a xs/\xs.length=n/\t xs σ H Q
def Nx{n:Nat}(hc:X.calm=true)(h:Mm X es t)
  (hn:(assignEach es X.env).length=n:=by rfl) (hst:(assignEach es X.env).findIdx? (·.1)=none:=by rfl):PG X (.Tuple es k pos) (cf X.K n t):=by
 intro G s σ H v u Q I r hw;obtain⟨a,xs,e1,hq,hl,hw⟩:=hw;subst e1;cases r;obtain⟨de,rv,ht,hz⟩:=I.tuple hq;refine assign_Tuple_tuple (I.ok.hd hc) ht (by simp[hn,<- hl,rv.length]) hst λh' hx=>?_
 have I1:Inv X G σ H {s with heap:=h'}:=I.kept (t':=s.toks) λb o e=>hx b o (TN (Td e)) e
 exact h G _ σ H xs _ Q I1 (by simpa using rv) hw
abbrev G_(to ti:TE)(t:Hz):TG:=λv σ H Q=>to σ H λo H1=>ti σ H1 λi H2=>t o i v H2 λH3=>Q σ H3
def Ny(ho:PE X o to)(hi:PE X i ti)(hs:PP X t)
  (ha:∀v,assign (.Subscript o i pos) X.env v=(do
   let ov <- holding [v] (eval o X.env)
   let iv <- holding [v,ov] (eval i X.env)
   standAt pos
   holding [v,ov,iv] (setItem ov iv v)
   release [v,ov,iv] []):=by intro _;rfl):PG X (.Subscript o i pos) (G_ to ti t):=by
 intro G s σ H v u Q I r h;rw[ha];refine Ss (VB (a_ (ho G s σ H _ I h) λov s1 ω=>?_));obtain⟨x,H1,I1,r1,q1⟩:=ω;refine Ss (VB (a_ (hi G s1 σ H1 _ I1 q1) λiv s2 ω=>?_));obtain⟨y,H2,I2,r2,q2⟩:=ω;refine Ss (YO (Ss (VB (a_ (hs G s2 σ H2 x y v ov iv u _ I2 r1 r2 r q2) λ_ s3 ω=>?_))));obtain⟨H3,I3,q3⟩:=ω;exact wpAny_release ⟨σ,H3,I3,q3⟩
abbrev ay(te:TE)(g:TG):TS:=λD σ H=>te σ H λx H1=>g x σ H1 D.nx
def Nr(he:PE X e te)(hg:PG X tg g)(hs:swapsWithSole [tg] e pos.line X.env=pure false:=by rfl)(hw:swappedStores [tg] e X.env=pure none:=by rfl)
  (h1:(assignEach [tg] X.env).map (·.2)=[assign tg X.env]:=by rfl):PS X (.Assign [tg] e pos) (ay te g):=by
 intro G s σ H D I h;refine wpAny_Assign_stores (a_ (he G s σ H _ I h) λv s1 ω=>?_) hs hw;obtain⟨x,H1,I1,r1,q1⟩:=ω;rw[h1];exact a_ (hg G s1 σ H1 x v _ I1 r1 q1) λ_ s2 q=>q
def Nj{i:Nat}{x:Str}(hN:X.N.Nodup)(hi:X.N[i]?=some x)(hx:Loc X.env.scope x)(he:PE X e te)(hs:swapsWith e (some (.Name x pos')) pos.line X.env=pure false:=by rfl)(hf:X.fn x=true\/X.env.scope.names.lookup x=some .local:=by first|exact .inl rfl|exact .inr rfl|assumption) :
  PS X (.Assign [.Name x pos'] e pos) (ay te (ak i)):=by
 intro G s σ H D I h;refine wpAny_Assign_Name (a_ (he G s σ H _ I h) λv s1 ω=>?_) hs;obtain⟨y,H1,I1,r1,q1⟩:=ω;exact ju I1 hN hi hx r1 (λs2 I2=>⟨_,H1,I2,q1⟩) hf
abbrev MB(i j:Nat)(ta:TA):TS:=λD σ H=>ta σ H λvs H1=>∃v w,vs=[v,w]/\D.nx ((σ.set i (some v)).set j (some w)) H1
def Nm{i j:Nat}{x y:Str}{a b:Expr}{ta:TA}{pt:Pos}{kt k2 pt2}(hc:X.calm=true)(hN:X.N.Nodup)(hi:X.N[i]?=some x)(hj:X.N[j]?=some y)(hij:i≠j)
  (hx:X.env.scope.names.lookup x=some .local) (hy:X.env.scope.names.lookup y=some .local) (ha:PA X [a,b] ta)
  (hw:swappedStores [.Tuple [.Name x px,.Name y py] kt pt] (.Tuple [a,b] k2 pt2) X.env=pure (some [x,y]))
  (hs:swapsWithSole [.Tuple [.Name x px,.Name y py] kt pt] (.Tuple [a,b] k2 pt2) pos.line X.env=pure false:=by rfl) :
  PS X (.Assign [.Tuple [.Name x px,.Name y py] kt pt] (.Tuple [a,b] k2 pt2) pos) (MB i j ta):=by
 intro G s σ H D I h;rw[exec_Assign_arm];refine Ss (YO ?_);rw[hs];refine Ss (SN ?_);rw[if_neg (by decide)];refine Ss (Tuple_ (a_ (ha _ G s σ H _ I h) λus s1 ω=>?_));obtain⟨vs,H1,I1,r1,q1⟩:=ω;obtain⟨v,w,e1,q1⟩:=q1;subst e1
 obtain⟨u1,u2,rfl,rv,rw'⟩:∃u1 u2,us=[u1,u2]/\RelV v u1/\RelV w u2:=by
  cases r1 with
  |cons p q =>
   cases q with
   |cons p' q' =>
    cases q';exact⟨_,_,rfl,p,p'⟩
 refine UI ?_ (by show 2<=sizeLine;decide);have I2:Inv X G σ H1 {s1 with heap:=s1.heap.push {cls:=.type "tuple",data:=.seq [u1,u2].toArray}}:=I1.kept (t':=s1.toks) λb o e=>Sy _ e
 rw[hw];refine Ss (SN ?_);show wpAny (model X.prog X.w) X.A (do rule "assign.swapped-stores";let items <- unpackItems (.ref s1.heap.objs.size) 2 none;assignInOrder [λv=>bindName X.env y v,λv=>bindName X.env x v] items.reverse;pure Flow.next) _ _ _;refine Ss (Zf (Ss (unpackItems_tuple (items:=#[u1,u2]) (I.ok.hd hc) (IsTup.new s1.heap _) λh' hx'=>?_)));have I3:=I2.kept (h':=h') (t':=s1.toks) λb o e=>hx' b o (TN (Td e)) e
 show wpAny _ _ (assignInOrder [λv=>bindName X.env y v,λv=>bindName X.env x v] [u2,u1] >>= λ_=>pure Flow.next) _ _ _;refine Ss (Yj (wpAny_bindName (ju I3 hN hj (.inl hy) rw' (λs2 I4=>?_) (.inr hy))));refine Yj (wpAny_bindName (ju I4 hN hi (.inl hx) rv (λs3 I5=>assignInOrder_nil (SN ?_)) (.inr hx)));rw[List.set_comm _ _ (YG hij)] at I5;exact⟨_,H1,I5,q1⟩
end
section
variable{X:Cx}{pos:Pos}
abbrev eM(c:TT)(tb:TS):TS:=λD σ H=>∃W:Nat->St->Hp->Prop,(∃m,W m σ H)/\∀m σ H,W m σ H ->
 c σ H λb H1=>if b=true then ∃N:St->Hp->Prop,(∀σ' H',N σ' H'->∃m',m'<m/\W m' σ' H')/\tb {D with nx:=N,ct:=N,bk:=D.nx} σ H1 else D.nx σ H1
def Gh(hp:PassesOwn (model X.prog X.w) X.A X.env X.xe)(hc:PT X c tc)(hb:PSs X body tb):PS X (.While c body [] pos) (eM tc tb):=by
 intro G s σ H D I h;obtain⟨W,⟨m0,w0⟩,turn⟩:=h;refine wpAny_While (codeAny_whileLoop (λn s'=>∃σ' H',Inv X G σ' H' s'/\W n σ' H') ?_ m0 ⟨σ,H,I,w0⟩);rintro n s1 ⟨σ1,H1,I1,w1⟩;refine VR hp (a_ (hc G s1 σ1 H1 _ I1 (turn n σ1 H1 w1)) λb s2 ω=>?_);obtain⟨H2,I2,q2⟩:=ω;cases b with
 |true =>
  obtain⟨N,hN,q2⟩:=q2;rw[if_pos rfl];refine VR hp (a_ (hb G s2 σ1 H2 _ I2 q2) λf s3 q3=>?_);cases f with
  |next =>
   obtain⟨σ3,H3,I3,n3⟩:=q3;obtain⟨m',hm,w3⟩:=hN σ3 H3 n3;exact⟨m',hm,σ3,H3,I3,w3⟩
  |cont =>
   obtain⟨σ3,H3,I3,n3⟩:=q3;obtain⟨m',hm,w3⟩:=hN σ3 H3 n3;exact⟨m',hm,σ3,H3,I3,w3⟩
  |brk=>exact q3
  |ret v=>exact q3
 |false =>
  rw[if_neg SX];exact X0 ⟨σ1,H2,I2,q2⟩
end
structure It where
 go:Nat->Hp->Prop
 yld:Nat->Hp->V->Hp->Prop
 stop:Nat->Hp->Prop
abbrev iC(X:Cx)(G:List (Addr×Obj))(H:Hp)(b:Addr):Prop :=
 H b=none/\b≠X.env.locals/\b∉X.fs/\(b∈X.ex\/X.s₀.heap.objs.size<=b)/\(∀x c,X.env.cells.lookup x=some c->c≠b)/\∀p∈X.pn++G,p.1≠b
def Inv.fpOk{H H':Hp}{b:Addr}(I:Inv X G σ H s)(hb:s.heap.objs.size<=b)(hn:H' b=none):iC X G H' b:=by
 refine⟨hn,Wg (Tf I.lt hb),I.nofs hb,.inr (Ta I.sz hb),λx c e z=>?_,λp hp z=>?_⟩
 .obtain⟨v,q⟩:=I.cell x c e;exact absurd (Tf q.lt (by rw[z];exact hb)) (VZ _)
 .exact absurd (Tf (Td (I.pin p hp).1) (by rw[z];exact hb)) (VZ _)
structure wc (P:TK) (w:Ub) (K:Fg) (tg:Expr) (J:It) (fp:List Addr) (it:Addr) (tn:Nat->Heap->Prop):Prop where
 mem:it∈fp
 obj:∀i h,tn i h->∀b∈fp,∃o,h.get? b=some o/\∀v,o.data≠.cell v
 keep:∀i h h',tn i h->(∀b∈fp,∀o,h.get? b=some o->h'.get? b=some o)->tn i h'
 item:∀(X:Cx),X.prog=P->X.w=w->X.K=K->X.calm=true->∀(i:Nat) (G:List (Addr×Obj)) (s:SB) (σ:St) (H:Hp) (E:Su->SB->Prop),Inv X G σ H s->(∀b∈fp,iC X G H b)->tn i s.heap->J.go i H ->
  wpAny (model P w) X.A (pyNext (.ref it)) (λr s1=>∃u,r=some u /\
   wpAny (model P w) X.A (letOwnedTupleGo tg (.ref it) u) (λ_ s2=>∃x H',Inv X G σ H' s2/\RelV x u/\J.yld i H x H'/\tn (i+1) s2.heap/\∀b∈fp,H' b=none) E s1) E s
 done:∀(X:Cx),X.prog=P->X.w=w->X.K=K->X.calm=true->∀(i:Nat) (G:List (Addr×Obj)) (s:SB) (σ:St) (H:Hp) (E:Su->SB->Prop),Inv X G σ H s->(∀b∈fp,iC X G H b)->tn i s.heap->J.stop i H ->
  wpAny (model P w) X.A (pyNext (.ref it)) (λr s1=>r=none/\Inv X G σ H s1) E s
 self:∀(A:Uc) (i:Nat) (s:SB) (Q:Su->SB->Prop) (E:Su->SB->Prop),tn i s.heap->Q (.ref it) s->wpAny (model P w) A (pyIter (.ref it)) Q E s
nonrec def TI:=St->Hp->(It->Hp->Prop)->Prop
abbrev RM(X:Cx)(G:List (Addr×Obj))(σ:St)(tg:Expr)(R:It->Hp->Prop)(itv:Su)(s2:SB):Prop :=
 ∃(it:Addr) (fp:List Addr) (tn:Nat->Heap->Prop) (J:It) (H':Hp),itv=.ref it/\Inv X G σ H' s2/\wc X.prog X.w X.K tg J fp it tn/\tn 0 s2.heap/\(∀b∈fp,iC X G H' b)/\R J H'
abbrev PI(X:Cx)(tg iter:Expr)(wi:TI):Prop :=
 ∀(G:List (Addr×Obj)) (s:SB) (σ:St) (H:Hp) (R:It->Hp->Prop),Inv X G σ H s->wi σ H R ->
  wpAny (model X.prog X.w) X.A (eval iter X.env) (λv s1=>wpAny (model X.prog X.w) X.A (pyIter v) (RM X G σ tg R) X.xe s1) X.xe s
def LN{E:Su->SB->Prop} {s:SB}  {it:Addr}  {o:Obj}  {vs:Array Su} {Q:Unit->SB->Prop} (ho:s.heap.get? it=some o) (hc:o.cls=.type n) (hd:o.data=.fields vs)
    (hn:["enumerate", "zip", "dict_itemiterator", "dict_reverseitemiterator", "odict_iterator", "itertools.zip_longest", "itertools.pairwise"].contains n=false) (hQ:Q () s):wpAny M A (letOwnedTupleGo tg (.ref it) u) Q E s := by
  unfold letOwnedTupleGo
  cases tg <;> first
    |exact SN hQ
    | (cases u <;> first
        |exact SN hQ
        | (refine Ss (wpAny_load ho ?_)
           rw[hc, hd]
           show wpAny M A (if (["enumerate", "zip", "dict_itemiterator", "dict_reverseitemiterator", "odict_iterator", "itertools.zip_longest", "itertools.pairwise"].contains n && vs[0]? == some (rawInt _))=true then _ else _) Q E s
           rw[if_neg (by intro h; rw[hn, ZbI] at h; cases h)]
           exact SN hQ))
abbrev sR(K:Fg)(a:Addr):It :=
 ⟨λi H=>∃xs x,SqL K H a xs/\xs[i]?=some x,λi H x H'=>H'=H/\∀xs,SqL K H a xs->xs[i]?=some x,λi H=>∃xs,SqL K H a xs/\xs.length<=i⟩
abbrev tm(K:Fg)(a:Addr):It :=
 ⟨λi H=>∃xs x,SqT K H a xs/\xs[i]?=some x,λi H x H'=>H'=H/\∀xs,SqT K H a xs->xs[i]?=some x,λi H=>∃xs,SqT K H a xs/\xs.length<=i⟩
abbrev sQ(lo:Int)(n:Nat):It:=⟨λi _=>i<n,λi H x H'=>H'=H/\x=.int (lo+i),λi _=>n<=i⟩
def qt{K:Fg}(a it:Addr):wc P w K tg (sR K a) [it] it (λi h=>h.IsListIter it a i) where
 mem:=by simp
 obj:=λi h st b hb=>by
  have e:b=it:=by simpa using hb
  subst e;obtain⟨o,e,c,d⟩:=st;exact⟨o,e,λv z=>by rw[d] at z;cases z⟩
 keep:=λi h h' st k=>st.at λo e=>k it (by simp) o e
 item:=by
  intro X hP hw hK hc i G s σ H E I hf st hg;subst hP hw hK;obtain⟨xs,x,hq,hx⟩:=hg;obtain⟨de,rv,p,hz⟩:=I.list hq;obtain⟨u,hu,ru⟩:=rv.get hx;obtain⟨f0,f1,f2,f3,f4,f5⟩:=hf it (by simp);refine wpAny_pyNext_list_item st p.isList (x:=u) (by simpa using hu) λh' st' sb=>?_
  have I1:Inv X G σ H {s with heap:=h'}:=I.turned (t':=s.toks) (λb o hb e=>(sb.2 b hb).trans e) f0 f1 f3 f4 f5;obtain⟨o,e,c,d⟩:=id st';exact⟨u,rfl,LN (s:={s with heap:=h'}) e c d (by decide) ⟨x,H,I1,ru,⟨rfl,λys hy=>by rw[I.pJ hy hq];exact hx⟩,st',λb hb=>(hf b hb).1⟩⟩
 done:=by
  intro X hP hw hK hc i G s σ H E I hf st hg;subst hP hw hK;obtain⟨xs,hq,hx⟩:=hg;obtain⟨de,rv,p,hz⟩:=I.list hq;obtain⟨f0,f1,f2,f3,f4,f5⟩:=hf it (by simp);have hl:=rv.length;exact wpAny_pyNext_list_end (I.ok.hd hc) st p.isList (by simp;lia) λh' eb=>⟨rfl,I.turned (t':=s.toks) (λb o hb e=>eb b o hb e) f0 f1 f3 f4 f5⟩
 self:=λ_ _ _ _ _ st h=>wpAny_pyIter_listiter st h
def mE{K:Fg}(a it:Addr):wc P w K tg (tm K a) [it] it (λi h=>h.IsTupleIter it a i) where
 mem:=by simp
 obj:=λi h st b hb=>by
  have e:b=it:=by simpa using hb
  subst e;obtain⟨o,e,c,d⟩:=st;exact⟨o,e,λv z=>by rw[d] at z;cases z⟩
 keep:=λi h h' st k=>st.at λo e=>k it (by simp) o e
 item:=by
  intro X hP hw hK hc i G s σ H E I hf st hg;subst hP hw hK;obtain⟨xs,x,hq,hx⟩:=hg;obtain⟨de,rv,p,hz⟩:=I.tuple hq;obtain⟨u,hu,ru⟩:=rv.get hx;obtain⟨f0,f1,f2,f3,f4,f5⟩:=hf it (by simp);refine wpAny_pyNext_tuple_item st (show s.heap.IsTuple a de.toArray from p) (x:=u) (by simpa using hu) λh' st' sb=>?_
  have I1:Inv X G σ H {s with heap:=h'}:=I.turned (t':=s.toks) (λb o hb e=>(sb.2 b hb).trans e) f0 f1 f3 f4 f5;obtain⟨o,e,c,d⟩:=id st';exact⟨u,rfl,LN (s:={s with heap:=h'}) e c d (by decide) ⟨x,H,I1,ru,⟨rfl,λys hy=>by rw[I.qu hy hq];exact hx⟩,st',λb hb=>(hf b hb).1⟩⟩
 done:=by
  intro X hP hw hK hc i G s σ H E I hf st hg;subst hP hw hK;obtain⟨xs,hq,hx⟩:=hg;obtain⟨de,rv,p,hz⟩:=I.tuple hq;obtain⟨f0,f1,f2,f3,f4,f5⟩:=hf it (by simp);have hl:=rv.length;exact wpAny_pyNext_tuple_end (I.ok.hd hc) st (show s.heap.IsTuple a de.toArray from p) (by simp;lia) λh' eb=>⟨rfl,I.turned (t':=s.toks) (λb o hb e=>eb b o hb e) f0 f1 f3 f4 f5⟩
 self:=λ_ _ _ _ _ st h=>wpAny_pyIter_tupleiter st h
def x4{K:Fg}(it:Addr)(lo:Int)(n:Nat):wc P w K tg (sQ lo n) [it] it (λi h=>IsRangeIter h it (lo+(i:Nat)*1) ((n:Int)-(i:Nat)) 1) where
 mem:=by simp
 obj:=λi h st b hb=>by
  have e:b=it:=by simpa using hb
  subst e
  exact⟨_,st,λv z=>by
   have z':Zbi _=Z1 v:=z
   cases z'⟩
 keep:=λi h h' st k=>k it (by simp) _ st
 item:=by
  intro X hP hw hK hc i G s σ H E I hf st hg;subst hP hw hK;obtain⟨f0,f1,f2,f3,f4,f5⟩:=hf it (by simp);have W:=Zbj.range (prog:=X.prog) (w:=X.w) (I.ok.hd hc) it lo 1 n;refine W.item i s _ _ hg st λv h' tk hv st' kk=>?_
  obtain⟨t,rfl⟩:=hv;have I1:Inv X G σ H {s with heap:=h',toks:=tk}:=I.turned (λb o hb e=>kk b o (by simpa using hb) e) f0 f1 f3 f4 f5;refine⟨_,rfl,LN (s:={s with heap:=h',toks:=tk}) (n:="range_iterator") st' rfl rfl (by decide) ⟨.int (lo+i),H,I1,⟨t,?_⟩,⟨rfl,rfl⟩,st',λb hb=>(hf b hb).1⟩⟩;rw[Zbk]
 done:=by
  intro X hP hw hK hc i G s σ H E I hf st hg;subst hP hw hK;obtain⟨f0,f1,f2,f3,f4,f5⟩:=hf it (by simp);exact wpAny_pyNext_range_end (I.ok.hd hc) st (by have:n<=i:=hg;lia) λh' eb=>⟨rfl,I.turned (t':=s.toks) (λb o hb e=>eb b o hb e) f0 f1 f3 f4 f5⟩
 self:=λ_ _ _ _ _ st h=>wpAny_pyIter_rangeiter st h
section
variable{X:Cx}{tg:Expr}
abbrev bY(K:Fg)(tl:TE):TI:=λσ H R=>tl σ H λx H1=>∃a,x=.ref a/\(∃xs,SqL K H1 a xs)/\R (sR K a) H1
abbrev mr(K:Fg)(tl:TE):TI:=λσ H R=>tl σ H λx H1=>∃a,x=.ref a/\(∃xs,SqT K H1 a xs)/\R (tm K a) H1
def KG(hl:PE X l tl):PI X tg l (bY X.K tl):=by
 intro G s σ H R I h;refine a_ (hl G s σ H _ I h) λv s1 ω=>?_;obtain⟨x,H1,I1,r1,q1⟩:=ω
 obtain⟨a,e,⟨xs,hq⟩,q⟩:=q1;subst e;cases r1;obtain⟨de,rv,p,hz⟩:=I1.list hq;refine Xf p.isList ?_;refine⟨s1.heap.objs.size,[s1.heap.objs.size],_,_,H1,rfl,I1.kept (t':=s1.toks) λb o e=>Sy _ e,qt a _,⟨_,Th _ rfl,rfl,rfl⟩,λb hb=>?_,q⟩;have e:b=s1.heap.objs.size:=by simpa using hb
 subst e;exact I1.fpOk (Sx _) (I1.hok.fresh (Sx _))
def Nu(hl:PE X l tl):PI X tg l (mr X.K tl):=by
 intro G s σ H R I h;refine a_ (hl G s σ H _ I h) λv s1 ω=>?_;obtain⟨x,H1,I1,r1,q1⟩:=ω
 obtain⟨a,e,⟨xs,hq⟩,q⟩:=q1;subst e;cases r1;obtain⟨de,rv,p,hz⟩:=I1.tuple hq;refine Yk (show s1.heap.IsTuple a de.toArray from p) ?_;refine⟨s1.heap.objs.size,[s1.heap.objs.size],_,_,H1,rfl,I1.kept (t':=s1.toks) λb o e=>Sy _ e,mE a _,⟨_,Th _ rfl,rfl,rfl⟩,λb hb=>?_,q⟩;have e:b=s1.heap.objs.size:=by simpa using hb
 subst e;exact I1.fpOk (Sx _) (I1.hok.fresh (Sx _))
def wL{H:Hp}{R:It->Hp->Prop}{lo hi:Int}{t u v:Tok}{tk:Nat}(I:Inv X G σ H s)(h1 : -(2 ^ 62)<=lo)(h2:lo<2 ^ 62)(h3 : -(2 ^ 62)<=hi)(h4:hi<2 ^ 62)
  (q:R (sQ lo (hi-lo).toNat) H):wpAny (model X.prog X.w) X.A (pyIter (.ref s.heap.objs.size)) (RM X G σ tg R) E {s with heap:=s.heap.push {cls:=.type "range",data:=.fields #[.int lo t,.int hi u,.int 1 v]},toks:=tk}:=by
 refine wpAny_pyIter_range (Zbl ..) (small_one h1 h2 h3 h4) ?_;have I1:Inv X G σ H {s with heap:=s.heap.push {cls:=.type "range",data:=.fields #[.int lo t,.int hi u,.int 1 v]},toks:=tk}:=I.kept λb o e=>Sy _ e
 refine⟨(s.heap.push {cls:=.type "range",data:=.fields #[.int lo t,.int hi u,.int 1 v]}).objs.size,[(s.heap.push {cls:=.type "range",data:=.fields #[.int lo t,.int hi u,.int 1 v]}).objs.size],_,_,H,rfl,
  I1.kept (t':=tk) λb o e=>Sy _ e,x4 _ lo (hi-lo).toNat,?_,λb hb=>?_,q⟩
 .have e1:lo+((0:Nat):Int)*1=lo:=by simp
  have e2:(((hi-lo).toNat:Nat):Int)-((0:Nat):Int)=Vr.Range.rangeSize lo hi 1:=by rw[rangeSize_one];split <;> lia
  show IsRangeIter _ _ (lo+((0:Nat):Int)*1) ((((hi-lo).toNat:Nat):Int)-((0:Nat):Int)) 1;rw[e1,e2];exact Th _ rfl
 .have e:b=(s.heap.push {cls:=.type "range",data:=.fields #[.int lo t,.int hi u,.int 1 v]}).objs.size:=by simpa using hb
  subst e;exact I1.fpOk (Sx _) (I1.hok.fresh (Sx _))
abbrev cZ(ta:TA):TI:=λσ H R=>ta σ H λvs H1=>∃j:Int,vs=[.int j]/\-(2 ^ 62)<=j/\j<2 ^ 62/\R (sQ 0 j.toNat) H1
abbrev LK(ta:TA):TI:=λσ H R=>ta σ H λvs H1=>∃i j:Int,vs=[.int i,.int j]/\(-(2 ^ 62)<=i/\i<2 ^ 62/\-(2 ^ 62)<=j/\j<2 ^ 62)/\R (sQ i (j-i).toNat) H1
def Ch{a:Expr} {ta:TA} {p pos:Pos} (hg:Gl X "range") (hm:X.mg "range"=none) (ha:PA X [a] ta) (hs:starEach [a] X.env=[(false,eval a X.env)]:=by rfl):PI X tg (.Call (.Name "range" p) [a] [] pos) (cZ ta):=by
 intro G s σ H R I h;refine Call_ (c8 I hg hm Zao (TQ (a_ (ha pos G s σ H _ I h) λus s1 ω=>?_) hs rfl));obtain⟨vs,H1,I1,r1,q1⟩:=ω;obtain⟨j,e,q1,q2,q⟩:=q1;subst e;cases r1 with
 |cons r rr =>
  cases rr;obtain⟨t,rfl⟩:=r;exact call_range_1 (wL I1 ∅ ∅ q1 q2 (by simpa using q))
def Cf{a b:Expr} {ta:TA} {p pos:Pos} (hg:Gl X "range") (hm:X.mg "range"=none) (ha:PA X [a,b] ta) (hs:starEach [a,b] X.env=[(false,eval a X.env),(false,eval b X.env)]:=by rfl) (hs2:starEach [b] X.env=[(false,eval b X.env)]:=by rfl) :
  PI X tg (.Call (.Name "range" p) [a,b] [] pos) (LK ta):=by
 intro G s σ H R I h;refine Call_ (c8 I hg hm Zao (TQ (a_ (ha pos G s σ H _ I h) λus s1 ω=>?_) (by rw[hs,hs2]) (by rw[hs2];rfl)));obtain⟨vs,H1,I1,r1,q1⟩:=ω;obtain⟨i,j,e,⟨q1,q2,q3,q4⟩,q⟩:=q1;subst e;cases r1 with
 |cons r rr =>
  cases rr with
  |cons r' rr =>
   cases rr;obtain⟨t,rfl⟩:=r;obtain⟨t',rfl⟩:=r';exact call_range_2 (wL I1 q1 q2 q3 q4 q)
abbrev bo(wi:TI)(g:TG)(tb:TS):TS:=λD σ H=>wi σ H λJ H1=>∃W:Nat->Nat->St->Hp->Prop,(∃m,W 0 m σ H1)/\∀i m σ H,W i m σ H ->
 (J.stop i H/\D.nx σ H)\/(J.go i H/\∃N:St->Hp->Prop,(∀σ' H',N σ' H'->∃m',m'<m/\W (i+1) m' σ' H')/\∀x H',J.yld i H x H'->g x σ H' λσ2 H2=>tb {D with nx:=N,ct:=N,bk:=D.nx} σ2 H2)
abbrev wP(fp:List Addr)(h:Heap):List (Addr×Obj):=fp.filterMap λb=>(h.get? b).map λo=>(b,o)
def cR{fp:List Addr}{h:Heap}{b:Addr}{o:Obj}(hb:b∈fp)(e:h.get? b=some o):(b,o)∈wP fp h:=Zap.mpr ⟨b,hb,by rw[e];rfl⟩
def CF{fp:List Addr}{p:Addr×Obj}(hp:p∈wP fp h):p.1∈fp/\h.get? p.1=some p.2:=by
 obtain⟨b,hb,e⟩:=Zap.mp hp;cases q:h.get? b with
 |none=>rw[q] at e;cases e
 |some o =>
  rw[q] at e;have e':(b,o)=p:=SU e;subst e';exact⟨hb,q⟩
def Inv.pinned{H:Hp}{fp:List Addr}(I:Inv X G σ H s)(hf:∀b∈fp,iC X G H b)(ho:∀b∈fp,∃o,s.heap.get? b=some o/\∀v,o.data≠.cell v):Inv X (G++wP fp s.heap) σ H s :=
 I.Cc λp hp=>(SQ.mp hp).elim (λz=>I.pin p (SW _ z)) λz=>by
  obtain⟨hb,e⟩:=CF z;obtain⟨f0,f1,f2,_⟩:=hf p.1 hb;obtain⟨o,e',d⟩:=ho p.1 hb;rw[e] at e';cases e';exact⟨e,f0,f1,f2,d⟩
def Inv.gE{G pl:List (Addr×Obj)}{H:Hp}(I:Inv X (G++pl) σ H s):Inv X G σ H s:=I.Cc λp hp=>I.pin p (SW _ (Te _ hp))
def Nq{iter:Expr}{pos:Pos}(hp:PassesOwn (model X.prog X.w) X.A X.env X.xe)(hc:X.calm=true)(hi:PI X tg iter wi)(hg:PG X tg g)(hb:PSs X body tb)
  (hs:∀x,foldedSetIterable iter X.env x=pure x:=by intro _;rfl):PS X (.For tg iter body [] pos) (bo wi g tb):=by
 intro G s σ H D I h;refine wpAny_For (a_ (hi G s σ H _ I h) λv s1 h1=>a_ h1 λitv s2 h2=>?_) hs;obtain⟨it,fp,tn,J,H2,e,I2,T,st2,f2,W,⟨m0,w0⟩,turn⟩:=h2;subst e;have stat:∀{H':Hp},(∀b∈fp,H' b=none)->∀b∈fp,iC X G H' b:=λhn b hb=>⟨hn b hb,(f2 b hb).2⟩
 refine codeAny_forLoop_any (λn s'=>∃i σ' H',Inv X G σ' H' s'/\tn i s'.heap/\(∀b∈fp,H' b=none)/\W i n σ' H') ?_ m0 ⟨0,σ,H2,I2,st2,λb hb=>(f2 b hb).1,w0⟩;rintro n s3 ⟨i,σ3,H3,I3,st3,fr3,w3⟩;rcases turn i n σ3 H3 w3 with⟨stop,qn⟩|⟨go,N,hN,step⟩
 .refine VR hp (a_ (T.done X rfl rfl rfl hc i G s3 σ3 H3 X.xe I3 (stat fr3) st3 stop) λr s4 ω=>?_);obtain⟨hr,I4⟩:=ω;subst hr;exact X0 ⟨σ3,H3,I4,qn⟩
 .refine VR hp (a_ (T.item X rfl rfl rfl hc i G s3 σ3 H3 X.xe I3 (stat fr3) st3 go) λr s4 ω=>?_);obtain⟨u,hr,h4⟩:=ω;subst hr;refine VR hp (a_ h4 λ_ s5 ω=>?_);obtain⟨x,H5,I5,r5,y5,st5,fr5⟩:=ω;have I5':=I5.pinned (stat fr5) (T.obj _ _ st5);refine VR hp (a_ (hg _ s5 σ3 H5 x u _ I5' r5 (step x H5 y5)) λ_ s6 ω=>?_);obtain⟨σ6,H6,I6,q6⟩:=ω;refine VR hp (a_ (hb _ s6 σ6 H6 _ I6 q6) λf s7 q7=>?_)
  have again:∀{σ7:St} {H7:Hp},Inv X (G++wP fp s5.heap) σ7 H7 s7->N σ7 H7->∃m,m<n/\∃i σ' H',Inv X G σ' H' s7/\tn i s7.heap/\(∀b∈fp,H' b=none)/\W i m σ' H':=λ{σ7 H7} I7 n7=>by
   obtain⟨m',hm,w7⟩:=hN σ7 H7 n7;refine⟨m',hm,i+1,σ7,H7,I7.gE,T.keep _ _ _ st5 λb hb o e=>(I7.pin (b,o) (SW _ (SW _ (cR hb e)))).1,λb hb=>?_,w7⟩;obtain⟨o,e,d⟩:=T.obj _ _ st5 b hb;exact(I7.pin (b,o) (SW _ (SW _ (cR hb e)))).2.1
  cases f with
  |next=>obtain⟨σ7,H7,I7,n7⟩:=q7;exact again I7 n7
  |cont=>obtain⟨σ7,H7,I7,n7⟩:=q7;exact again I7 n7
  |brk=>obtain⟨σ7,H7,I7,q7⟩:=q7;exact⟨σ7,H7,I7.gE,q7⟩
  |ret v=>obtain⟨x7,σ7,H7,I7,r7,q7⟩:=q7;exact⟨x7,σ7,H7,I7.gE,r7,q7⟩
end
def Hd{K:Fg}{xs:List V}{g:TG}{tb:TS}{D:cr}{H:Hp}(Pv:Nat->St->Hp->Prop)(h0:Pv 0 σ H)(hl:∀i σ H,i<=UD xs->Pv i σ H->SqL K H a xs)
  (hs:∀i x σ H,xs[i]?=some x->Pv i σ H->g x σ H λσ2 H2=>tb {D with nx:=Pv (i+1),ct:=Pv (i+1),bk:=D.nx} σ2 H2) (hd:∀σ H,Pv (UD xs) σ H->D.nx σ H) :
  ∃W:Nat->Nat->St->Hp->Prop,(∃m,W 0 m σ H)/\∀i m σ H,W i m σ H ->
   ((sR K a).stop i H/\D.nx σ H)\/((sR K a).go i H/\∃N:St->Hp->Prop,(∀σ' H',N σ' H'->∃m',m'<m/\W (i+1) m' σ' H')/\∀x H',(sR K a).yld i H x H'->g x σ H' λσ2 H2=>tb {D with nx:=N,ct:=N,bk:=D.nx} σ2 H2):=by
 refine⟨λi m σ H=>m=UD xs-i/\i<=(UD xs)/\Pv i σ H,⟨(UD xs),by simp,TV _,h0⟩,?_⟩;rintro i m σ H ⟨rfl,hi,p⟩;have q:=hl i σ H hi p;by_cases Ds:i<UD xs
 .refine .inr ⟨⟨xs,xs[i],q,by simp[Ds]⟩,Pv (i+1),λσ' H' p'=>⟨(UD xs)-(i+1),∅,rfl,Ds,p'⟩,λx H' y=>?_⟩;obtain⟨e,y⟩:=y;subst e;exact hs i x σ _ (y xs q) p
 .have e:i=UD xs:=by lia
  subst e;exact .inl ⟨⟨xs,q,Sx _⟩,hd σ H p⟩
def LR{K:Fg}{xs:List V}{g:TG}{tb:TS}{D:cr}{H:Hp}(Pv:Nat->St->Hp->Prop)(h0:Pv 0 σ H)(hl:∀i σ H,i<=UD xs->Pv i σ H->SqT K H a xs)
  (hs:∀i x σ H,xs[i]?=some x->Pv i σ H->g x σ H λσ2 H2=>tb {D with nx:=Pv (i+1),ct:=Pv (i+1),bk:=D.nx} σ2 H2) (hd:∀σ H,Pv (UD xs) σ H->D.nx σ H) :
  ∃W:Nat->Nat->St->Hp->Prop,(∃m,W 0 m σ H)/\∀i m σ H,W i m σ H ->
   ((tm K a).stop i H/\D.nx σ H)\/((tm K a).go i H/\∃N:St->Hp->Prop,(∀σ' H',N σ' H'->∃m',m'<m/\W (i+1) m' σ' H')/\∀x H',(tm K a).yld i H x H'->g x σ H' λσ2 H2=>tb {D with nx:=N,ct:=N,bk:=D.nx} σ2 H2):=by
 refine⟨λi m σ H=>m=UD xs-i/\i<=(UD xs)/\Pv i σ H,⟨(UD xs),by simp,TV _,h0⟩,?_⟩;rintro i m σ H ⟨rfl,hi,p⟩;have q:=hl i σ H hi p;by_cases Ds:i<UD xs
 .refine .inr ⟨⟨xs,xs[i],q,by simp[Ds]⟩,Pv (i+1),λσ' H' p'=>⟨(UD xs)-(i+1),∅,rfl,Ds,p'⟩,λx H' y=>?_⟩;obtain⟨e,y⟩:=y;subst e;exact hs i x σ _ (y xs q) p
 .have e:i=UD xs:=by lia
  subst e;exact .inl ⟨⟨xs,q,Sx _⟩,hd σ H p⟩
def DP{lo:Int}{n:Nat}{g:TG}{tb:TS}{D:cr}{H:Hp}(Pv:Nat->St->Hp->Prop)(h0:Pv 0 σ H)
  (hs:∀i σ H,i<n->Pv i σ H->g (.int (lo+i)) σ H λσ2 H2=>tb {D with nx:=Pv (i+1),ct:=Pv (i+1),bk:=D.nx} σ2 H2) (hd:∀σ H,Pv n σ H->D.nx σ H) :
  ∃W:Nat->Nat->St->Hp->Prop,(∃m,W 0 m σ H)/\∀i m σ H,W i m σ H ->
   ((sQ lo n).stop i H/\D.nx σ H)\/((sQ lo n).go i H/\∃N:St->Hp->Prop,(∀σ' H',N σ' H'->∃m',m'<m/\W (i+1) m' σ' H')/\∀x H',(sQ lo n).yld i H x H'->g x σ H' λσ2 H2=>tb {D with nx:=N,ct:=N,bk:=D.nx} σ2 H2):=by
 refine⟨λi m σ H=>m=n-i/\i<=n/\Pv i σ H,⟨n,by simp,TV _,h0⟩,?_⟩;rintro i m σ H ⟨rfl,hi,p⟩;by_cases Ds:i<n
 .refine .inr ⟨Ds,Pv (i+1),λσ' H' p'=>⟨n-(i+1),∅,rfl,Ds,p'⟩,λx H' y=>?_⟩;obtain⟨e,y⟩:=y;subst e y;exact hs i σ _ Ds p
 .have e:i=n:=by lia
  subst e;exact .inl ⟨Sx _,hd σ H p⟩
def js{c:TT}{tb:TS}{D:cr}{H:Hp}(Pv:St->Hp->Prop)(μ:St->Hp->Nat)(h0:Pv σ H)
  (hs:∀σ H,Pv σ H->c σ H λb H1=>if b=true then tb {D with nx:=λσ' H'=>Pv σ' H'/\μ σ' H'<μ σ H,ct:=λσ' H'=>Pv σ' H'/\μ σ' H'<μ σ H,bk:=D.nx} σ H1 else D.nx σ H1)
  (mono:∀σ H Q Q',(∀b H1,Q b H1->Q' b H1)->c σ H Q->c σ H Q'):eM c tb D σ H:=by
 refine⟨λm σ H=>m=μ σ H/\Pv σ H,⟨_,rfl,h0⟩,?_⟩;rintro m σ H ⟨rfl,p⟩;refine mono σ H _ _ (λb H1 q=>?_) (hs σ H p);cases b with
 |true=>exact⟨_,(by rintro σ' H' ⟨p',l⟩;exact ⟨_,l,rfl,p'⟩),q⟩
 |false=>exact q
nonrec def R2:=V->V->Hp->VK->Prop
abbrev fe(X:Cx)(f:Su->Su->Sem Su)(r:R2):Prop :=
 ∀(G:List (Addr×Obj)) (s:SB) (σ:St) (H:Hp) (x y:V) (v u:Su) (Q:VK),Inv X G σ H s->RelV x v->RelV y u->r x y H Q ->
  wpAny (model X.prog X.w) X.A (f v u) (EP X G σ Q) X.xe s
abbrev P9(X:Cx)(f:Su->Sem Su)(r:V->Hp->VK->Prop):Prop :=
 ∀(G:List (Addr×Obj)) (s:SB) (σ:St) (H:Hp) (x:V) (v:Su) (Q:VK),Inv X G σ H s->RelV x v->r x H Q ->
  wpAny (model X.prog X.w) X.A (f v) (EP X G σ Q) X.xe s
abbrev ff(X:Cx)(f:Su)(r:List V->Hp->VK->Prop):Prop :=
 ∀(G:List (Addr×Obj)) (s:SB) (σ:St) (H:Hp) (xs:List V) (us:List Su) (Q:VK),Inv X G σ H s->Vals xs us->r xs H Q ->
  wpAny (model X.prog X.w) X.A (call f us) (EP X G σ Q) X.xe s
abbrev ar(r:R2)(ta tb:TE):TE:=λσ H Q=>ta σ H λx H1=>tb σ H1 λy H2=>r x y H2 Q
abbrev Az(r:V->Hp->VK->Prop)(ta:TE):TE:=λσ H Q=>ta σ H λx H1=>r x H1 Q
abbrev rI(C:Int->Int->Prop)(g:Int->Int->V):R2:=λx y H Q=>∃i j,x=.int i/\y=.int j/\C i j/\Q (g i j) H
abbrev yK(g:Int->Int->V):R2:=λx y H Q=>∃i j,x=.int i/\y=.int j/\Q (g i j) H
abbrev rU(g:Int->V):V->Hp->VK->Prop:=λx H Q=>∃i,x=.int i/\Q (g i) H
section
variable{X:Cx}{a b c:Expr}{ta tb tc:TE}{pos:Pos}
def L3(ha:PE X a ta)(hb:PE X b tb){H:Hp}{R:V->V->Hp->Prop}(I:Inv X G σ H s)
  (h:ta σ H λx H1=>tb σ H1 λy H2=>R x y H2)  {f:Su->Su->Sem Su}
  (hf:∀v u s2 x y H2,Inv X G σ H2 s2->RelV x v->RelV y u->R x y H2->wpAny (model X.prog X.w) X.A (f v u) Q X.xe s2) :
  wpAny (model X.prog X.w) X.A (eval a X.env) (λv s₁=>wpAny (model X.prog X.w) X.A (eval b X.env) (λu s₂=>wpAny (model X.prog X.w) X.A (f v u) Q X.xe s₂) X.xe s₁) X.xe s:=by
 refine a_ (ha G s σ H _ I h) λv s1 ω=>?_;obtain⟨x,H1,I1,r1,q1⟩:=ω
 refine a_ (hb G s1 σ H1 _ I1 q1) λu s2 ω=>?_;obtain⟨y,H2,I2,r2,q2⟩:=ω
 exact hf v u s2 x y H2 I2 r1 r2 q2
def Qx(ho:fe X (binaryOp op) r)(ha:PE X a ta)(hb:PE X b tb):PE X (.BinOp a op b pos) (ar r ta tb):=by
 intro G s σ H Q I h;exact wpAny_BinOp (L3 ha hb I h λv u s2 x y H2 I2 rx ry q=>ho G s2 σ H2 x y v u Q I2 rx ry q)
def Qv(ho:P9 X (unaryOp op) r)(ha:PE X a ta):PE X (.UnaryOp op a pos) (Az r ta):=by
 intro G s σ H Q I h;exact UnaryOp_ (a_ (ha G s σ H _ I h) (by rintro v s1 ⟨x,H1,I1,r1,q1⟩;exact ho G s1 σ H1 x v Q I1 r1 q1))
def KZ{f:Su->Su->Sem Su}{C:Int->Int->Prop}{g:Int->Int->Int}
  (rule:∀(i j:Int) (t u:Tok) (s:SB) (Q:Su->SB->Prop) (E:Su->SB->Prop),C i j->Q (.int (g i j) s.toks) {s with toks:=s.toks+1}->wpAny (model X.prog X.w) X.A (f (.int i t) (.int j u)) Q E s) :
  fe X f (rI C λi j=>.int (g i j)):=by
 intro G s σ H x y v u Q I rx ry h;obtain⟨i,j,rfl,rfl,hc,q⟩:=h;obtain⟨t,rfl⟩:=rx;obtain⟨t',rfl⟩:=ry;exact rule i j t t' s _ _ hc ⟨.int (g i j),H,I.tok _,⟨_,rfl⟩,q⟩
def N3{f:Su->Su->Sem Su}{g:Int->Int->Int}
  (rule:∀(i j:Int) (t u:Tok) (s:SB) (Q:Su->SB->Prop) (E:Su->SB->Prop),Q (.int (g i j) s.toks) {s with toks:=s.toks+1}->wpAny (model X.prog X.w) X.A (f (.int i t) (.int j u)) Q E s) :
  fe X f (yK λi j=>.int (g i j)):=by
 intro G s σ H x y v u Q I rx ry h;obtain⟨i,j,rfl,rfl,q⟩:=h;obtain⟨t,rfl⟩:=rx;obtain⟨t',rfl⟩:=ry;exact rule i j t t' s _ _ ⟨.int (g i j),H,I.tok _,⟨_,rfl⟩,q⟩
def K0{f:Su->Su->Sem Su}{g:Int->Int->Bool}
  (rule:∀(i j:Int) (t u:Tok) (s:SB) (Q:Su->SB->Prop) (E:Su->SB->Prop),Q (.bool (g i j)) s->wpAny (model X.prog X.w) X.A (f (.int i t) (.int j u)) Q E s) :
  fe X f (yK λi j=>.bl (g i j)):=by
 intro G s σ H x y v u Q I rx ry h;obtain⟨i,j,rfl,rfl,q⟩:=h;obtain⟨t,rfl⟩:=rx;obtain⟨t',rfl⟩:=ry;exact rule i j t t' s _ _ ⟨.bl (g i j),H,I,rfl,q⟩
abbrev Mh(i j:Int):Prop:=0<j/\j<1073741824
abbrev P3(i j:Int):Prop:=0<=j/\j<=1000000/\i.natAbs<2 ^ 64
abbrev CMul(i j:Int):Prop:=(-(2 ^ 64)<i/\i<2 ^ 64)\/(-(2 ^ 64)<j/\j<2 ^ 64)
def CMul.ok(h:CMul i j):IntMulOk i j:=by
 rcases h with⟨h1,h2⟩|⟨h1,h2⟩
 .exact .of_left (intBits_le_64 h1 h2)
 .exact .of_right (intBits_le_64 h1 h2)
def N2:fe X (binaryOp .Add) (yK λi j=>.int (i+j)):=N3 λ_ _ _ _ _ _ _ q=>add_int q
def NR:fe X (binaryOp .Sub) (yK λi j=>.int (i-j)):=N3 λ_ _ _ _ _ _ _ q=>sub_int q
def NV:fe X (binaryOp .Mult) (rI CMul λi j=>.int (i*j)):=KZ λ_ _ _ _ _ _ _ hc q=>mul_int q hc.ok
def KW:fe X (binaryOp .FloorDiv) (rI Mh λi j=>.int (i / j)):=KZ λi j _ _ _ _ _ hc q=>by
 have h1:(0:Int)<j:=hc.1;have h2:j<1073741824:=hc.2;exact floordiv_int ∅ (by rw[Yl i ∅];exact q) (.inl (PyProof.noPylong_small ∅))
def NW:fe X (binaryOp .Mod) (rI (λ_ j=>0<j) λi j=>.int (i % j)):=KZ λi j _ _ _ _ _ hc q=>by
 have h1:(0:Int)<j:=hc;exact mod_int' ∅ (by rw[Ym i ∅];exact q)
def KU:fe X (binaryOp .Mod) (rI (λ_ j=>j≠0) λi j=>.int (i.fmod j)):=KZ λ_ _ _ _ _ _ _ hc q=>mod_int' hc q
def NT:fe X (binaryOp .Pow) (rI P3 λi j=>.int (i ^ j.toNat)):=KZ λ_ _ _ _ _ _ _ hc q=>pow_int_small hc.1 hc.2.1 hc.2.2 q
def RZ{f:Su->Sem Su}{g:Int->Int}
  (rule:∀(i:Int) (t:Tok) (s:SB) (Q:Su->SB->Prop) (E:Su->SB->Prop),Q (.int (g i) s.toks) {s with toks:=s.toks+1}->wpAny (model X.prog X.w) X.A (f (.int i t)) Q E s) :
  P9 X f (rU λi=>.int (g i)):=by
 intro G s σ H x v Q I rx h;obtain⟨i,rfl,q⟩:=h;obtain⟨t,rfl⟩:=rx;exact rule i t s _ _ ⟨.int (g i),H,I.tok _,⟨_,rfl⟩,q⟩
def Mr:P9 X (unaryOp .USub) (rU λi=>.int (-i)):=RZ λ_ _ _ _ _ q=>neg_int q
end
abbrev MO:V->V->Bool
 |.non,.non=>true|.non,.int _=>true|.int _,.non=>true|.non,.bl _=>true|.bl _,.non=>true|.non,.str _=>true|.str _,.non=>true
 |.int _,.int _=>true|.bl _,.bl _=>true|.str _,.str _=>true|.byt _,.byt _=>true
 |.int _,.str _=>true|.str _,.int _=>true|.bl _,.str _=>true|.str _,.bl _=>true
 |_,_=>false
abbrev ja:R2:=λx y H Q=>MO x y=true/\Q (.bl (decide (x=y))) H
abbrev HV:R2:=λx y H Q=>MO x y=true/\Q (.bl (!decide (x=y))) H
def DZ:decide (V.int i=V.int j)=(i == j):=by
 rw[Vx];simp
def IL:decide (V.bl i=V.bl j)=(i == j):=by
 rw[Vx];simp
def DY:decide (V.str i=V.str j)=(i == j):=by
 rw[Vx];simp
def D4:decide (V.byt i=V.byt j)=(i.toList == j.toList):=by
 rw[Vx];cases i;cases j;simp
section
variable{X:Cx}{a b c:Expr}{ta tb tc:TE}{pos:Pos}
def aW{H:Hp}{Q:VK}{k':Bool}(I:Inv X G σ H s)(q:Q (.bl k) H)(e:k=k'):EP X G σ Q (.bool k') s:=by
 subst e;exact⟨.bl k,H,I,rfl,q⟩
def QH:fe X (compareOp .Eq) ja:=by
 intro G s σ H x y v u Q I rx ry h;obtain⟨hs,q⟩:=h;cases x with
 |non =>
  cases rx;cases y with
  |non=>cases ry;exact PySem.EqNone.eq_none_none (aW I q (by simp))
  |bl j=>cases ry;exact PySem.EqNone.eq_none_bool (aW I q (by simp))
  |int j=>obtain⟨t',rfl⟩:=ry;exact PySem.EqNone.eq_none_int (aW I q (by simp))
  |str j=>obtain⟨t',rfl⟩:=ry;exact PySem.EqNone.eq_none_str (aW I q (by simp))
  |_=>exact absurd (show false=true from hs) SX
 |bl i =>
  cases rx;cases y with
  |non=>cases ry;exact PySem.EqNone.eq_bool_none (aW I q (by simp))
  |bl j=>cases ry;exact eq_bool (aW I q IL)
  |str j=>obtain⟨t',rfl⟩:=ry;exact PySem.EqMixed.eq_bool_str (aW I q (by simp))
  |_=>exact absurd (show false=true from hs) SX
 |int i =>
  obtain⟨t,rfl⟩:=rx;cases y with
  |non=>cases ry;exact PySem.EqNone.eq_int_none (aW I q (by simp))
  |int j=>obtain⟨t',rfl⟩:=ry;exact eq_int (aW I q DZ)
  |str j=>obtain⟨t',rfl⟩:=ry;exact PySem.EqMixed.eq_int_str (aW I q (by simp))
  |_=>exact absurd (show false=true from hs) SX
 |str i =>
  obtain⟨t,rfl⟩:=rx;cases y with
  |non=>cases ry;exact PySem.EqNone.eq_str_none (aW I q (by simp))
  |bl j=>cases ry;exact PySem.EqMixed.eq_str_bool (aW I q (by simp))
  |int j=>obtain⟨t',rfl⟩:=ry;exact PySem.EqMixed.eq_str_int (aW I q (by simp))
  |str j=>obtain⟨t',rfl⟩:=ry;exact eq_str (aW I q DY)
  |_=>exact absurd (show false=true from hs) SX
 |byt i =>
  obtain⟨t,rfl⟩:=rx;cases y with
  |byt j=>obtain⟨t',rfl⟩:=ry;exact PySem.W.eq_bytes (aW I q D4)
  |_=>exact absurd (show false=true from hs) SX
 |_=>cases y <;> exact absurd (show false=true from hs) SX
def QD:fe X (compareOp .NotEq) HV:=by
 intro G s σ H x y v u Q I rx ry h;obtain⟨hs,q⟩:=h;cases x with
 |non =>
  cases rx;cases y with
  |non=>cases ry;exact PySem.EqNone.ne_none_none (aW I q (by simp))
  |bl j=>cases ry;exact PySem.EqNone.ne_none_bool (aW I q (by simp))
  |int j=>obtain⟨t',rfl⟩:=ry;exact PySem.EqNone.ne_none_int (aW I q (by simp))
  |str j=>obtain⟨t',rfl⟩:=ry;exact PySem.EqNone.ne_none_str (aW I q (by simp))
  |_=>exact absurd (show false=true from hs) SX
 |bl i =>
  cases rx;cases y with
  |non=>cases ry;exact PySem.EqNone.ne_bool_none (aW I q (by simp))
  |bl j=>cases ry;exact ne_bool (aW I q (congrArg not IL))
  |str j=>obtain⟨t',rfl⟩:=ry;exact PySem.EqMixed.ne_bool_str (aW I q (by simp))
  |_=>exact absurd (show false=true from hs) SX
 |int i =>
  obtain⟨t,rfl⟩:=rx;cases y with
  |non=>cases ry;exact PySem.EqNone.ne_int_none (aW I q (by simp))
  |int j=>obtain⟨t',rfl⟩:=ry;exact ne_int (aW I q (congrArg not DZ))
  |str j=>obtain⟨t',rfl⟩:=ry;exact PySem.EqMixed.ne_int_str (aW I q (by simp))
  |_=>exact absurd (show false=true from hs) SX
 |str i =>
  obtain⟨t,rfl⟩:=rx;cases y with
  |non=>cases ry;exact PySem.EqNone.ne_str_none (aW I q (by simp))
  |bl j=>cases ry;exact PySem.EqMixed.ne_str_bool (aW I q (by simp))
  |int j=>obtain⟨t',rfl⟩:=ry;exact PySem.EqMixed.ne_str_int (aW I q (by simp))
  |str j=>obtain⟨t',rfl⟩:=ry;exact ne_str (aW I q (congrArg not DY))
  |_=>exact absurd (show false=true from hs) SX
 |byt i =>
  obtain⟨t,rfl⟩:=rx;cases y with
  |byt j=>obtain⟨t',rfl⟩:=ry;exact PySem.W.ne_bytes (aW I q (congrArg not D4))
  |_=>exact absurd (show false=true from hs) SX
 |_=>cases y <;> exact absurd (show false=true from hs) SX
def QE:fe X (compareOp .Lt) (yK λi j=>.bl (decide (i<j))):=K0 λ_ _ _ _ _ _ _ q=>lt_int q
def QF:fe X (compareOp .LtE) (yK λi j=>.bl (decide (i<=j))):=K0 λ_ _ _ _ _ _ _ q=>le_int q
def QG:fe X (compareOp .Gt) (yK λi j=>.bl (decide (j<i))):=K0 λ_ _ _ _ _ _ _ q=>gt_int q
def NY:fe X (compareOp .Is) (λx y H Q=>y=.non/\Q (.bl (decide (x=.non))) H):=by
 intro G s σ H x y v u Q I rx ry h;obtain⟨rfl,q⟩:=h;cases ry;refine is_none_gen (aW I q ?_)
 cases x <;> first
  |(cases rx;rfl)
  |(obtain⟨t,rfl⟩:=rx;rfl)
def KR:fe X (compareOp .IsNot) (λx y H Q=>y=.non/\Q (.bl (!decide (x=.non))) H):=by
 intro G s σ H x y v u Q I rx ry h;obtain⟨rfl,q⟩:=h;cases ry;refine isnot_none_gen (aW I q ?_)
 cases x <;> first
  |(cases rx;rfl)
  |(obtain⟨t,rfl⟩:=rx;rfl)
def Il(b:Expr){op:CmpOp}(h:op≠.In:=by decide)(h2:op≠.NotIn:=by decide):behindInMarks op b=false:=by
 have e1:(op == CmpOp.In)=false:=by cases op <;> first|rfl|exact absurd rfl h
 have e2:(op == CmpOp.NotIn)=false:=by cases op <;> first|rfl|exact absurd rfl h2
 cases b <;> simp[behindInMarks,e1,e2]
def Ck(ho:fe X (compareOp op) r)(ha:PE X a ta)(hb:PE X b tb)(hm:behindInMarks op b=false):PE X (.Compare a [op] [b] pos) (ar r ta tb):=by
 intro G s σ H Q I h;exact wpAny_Compare1 (L3 ha hb I h λv u s2 x y H2 I2 rx ry q=>ho G s2 σ H2 x y v u Q I2 rx ry q) hm
abbrev aK(t:TE):TT:=λσ H Q=>t σ H λx H'=>∃k,x=.bl k/\Q k H'
def BU(ho:fe X (compareOp op) r)(ha:PE X a ta)(hb:PE X b tb)(hm:behindInMarks op b=false):PT X (.Compare a [op] [b] pos) (aK (ar r ta tb)):=by
 intro G s σ H Q I h
 refine Zy (a_ (ha G s σ H _ I h) λv s1 ⟨x,H1,I1,r1,q1⟩=>a_ (hb G s1 σ H1 _ I1 q1) λu s2 ⟨y,H2,I2,r2,q2⟩ =>
  a_ (ho G s2 σ H2 x y v u _ I2 r1 r2 q2) λc s3 ⟨z,H3,I3,r3,k,e,q3⟩=>?_) hm
 subst e;cases r3;exact UX ⟨H3,I3,q3⟩
abbrev wn(r r':R2)(ta tb tc:TE):TE:=λσ H Q=>ta σ H λx H1=>tb σ H1 λy H2=>r x y H2 λz H3=>∃k,z=.bl k /\
 (if k=true then tc σ H3 λw' H4=>r' y w' H4 Q else Q (.bl false) H3)
def Ge(ho:fe X (compareOp op) r)(ho':fe X (compareOp op') r')(ha:PE X a ta)(hb:PE X b tb)(hc:PE X c tc)
  (hm:lastMarks [op,op'] [b,c]=false:=by with_unfolding_all rfl):PT X (.Compare a [op,op'] [b,c] pos) (aK (wn r r' ta tb tc)):=by
 intro G s σ H Q I h
 refine isTrue_chain (a_ (ha G s σ H _ I h) λv s1 ⟨x,H1,I1,r1,q1⟩=>test_link (a_ (hb G s1 σ H1 _ I1 q1) λu s2 ⟨y,H2,I2,r2,q2⟩ =>
  a_ (ho G s2 σ H2 x y v u _ I2 r1 r2 q2) λd s3 ⟨z,H3,I3,r3,k,e,q3⟩=>?_)) hm
 subst e;cases r3;refine UX ?_;cases k with
 |false =>
  obtain⟨k',e',q'⟩:=q3;cases e';exact ite_ff ⟨H3,I3,q'⟩
 |true =>
  refine ite_tt (test_last (a_ (hc G s3 σ H3 _ I3 q3) λw' s4 ⟨z',H4,I4,r4,q4⟩=>a_ (ho' G s4 σ H4 y z' u w' _ I4 r2 r4 q4) λd' s5 ω=>?_));obtain⟨z2,H5,I5,r5,k2,e2,q5⟩:=ω;subst e2;cases r5;exact UX ⟨H5,I5,q5⟩
def rX:(sizeLine:Nat)<2 ^ 63:=by rw[UG];decide
def yM:fe X (binaryOp .Add) (λx y H Q=>∃i j,x=.str i/\y=.str j/\i.length+j.length<=sizeLine/\Q (.str (i++j)) H):=by
 intro G s σ H x y v u Q I rx ry h;obtain⟨i,j,rfl,rfl,hz,q⟩:=h;obtain⟨t,rfl⟩:=rx;obtain⟨t',rfl⟩:=ry;exact add_str (λt' tk=>⟨.str (i++j),H,I.tok _,⟨_,rfl⟩,q⟩) hz
def vals1{x:V}{us:List Su}(r:Vals [x] us):∃u,us=[u]/\RelV x u:=by
 cases r with
 |cons r1 r2=>cases r2;exact⟨_,rfl,r1⟩
def vals2{x y:V}{us:List Su}(r:Vals [x,y] us):∃u w',us=[u,w']/\RelV x u/\RelV y w':=by
 cases r with
 |cons r1 r2 =>
  cases r2 with
  |cons r3 r4=>cases r4;exact⟨_,_,rfl,r1,r3⟩
def Hw:ff X (.builtin "abs") (λxs H Q=>∃i,xs=[.int i]/\Q (.int (if i<0 then -i else i)) H):=by
 intro G s σ H xs us Q I r h;obtain⟨i,rfl,q⟩:=h;obtain⟨u,rfl,t,rfl⟩:=vals1 r;exact call_abs_int λu tk=>⟨.int (if i<0 then -i else i),H,I.tok _,⟨_,rfl⟩,q⟩
def Ej(hc:X.calm=true):ff X (.builtin "max") (λxs H Q=>∃i j,xs=[.int i,.int j]/\Q (.int (if j > i then j else i)) H):=by
 intro G s σ H xs us Q I r h;obtain⟨i,j,rfl,q⟩:=h;obtain⟨u,w',rfl,⟨t,rfl⟩,⟨t',rfl⟩⟩:=vals2 r;refine max_two_ints (I.ok.hd hc) λh' tk k=>⟨_,H,I.kept k,?_,q⟩
 by_cases hj:j > i
 .rw[if_pos hj,if_pos hj];exact⟨_,rfl⟩
 .rw[if_neg hj,if_neg hj];exact⟨_,rfl⟩
def Ei(hc:X.calm=true):ff X (.builtin "min") (λxs H Q=>∃i j,xs=[.int i,.int j]/\Q (.int (if j<i then j else i)) H):=by
 intro G s σ H xs us Q I r h;obtain⟨i,j,rfl,q⟩:=h;obtain⟨u,w',rfl,⟨t,rfl⟩,⟨t',rfl⟩⟩:=vals2 r;refine min_two_ints (I.ok.hd hc) λh' tk k=>⟨_,H,I.kept k,?_,q⟩
 by_cases hj:j<i
 .rw[if_pos hj,if_pos hj];exact⟨_,rfl⟩
 .rw[if_neg hj,if_neg hj];exact⟨_,rfl⟩
def El:ff X (.type "int") (λxs H Q=>(∃i,xs=[.int i]/\Q (.int i) H)\/∃k,xs=[.bl k]/\Q (.int (if k then 1 else 0)) H):=by
 intro G s σ H xs us Q I r h;rcases h with⟨i,rfl,q⟩|⟨k,rfl,q⟩
 .obtain⟨u,rfl,t,rfl⟩:=vals1 r;exact call_int_int ⟨.int i,H,I,⟨_,rfl⟩,q⟩
 .obtain⟨u,rfl,r1⟩:=vals1 r;cases r1;exact call_int_bool ⟨.int (if k then 1 else 0),H,I.tok _,⟨_,rfl⟩,q⟩
end
structure ObjM (h:Heap) (x dx C:Addr) (mA:Str->Option Su):Prop where
 obj:h.get? x=some (Zs C dx)
 ns:h.Ns1 dx mA
 ne:dx≠x
def CT{h:Heap}(n:h.Ns1 dx mA):∃od,h.get? dx=some od/\∀name,ZH name od=some (mA name):=by
 obtain⟨o,es,ep,ho,hd,hk,_,hm⟩:=n;refine⟨o,ho,λname=>?_⟩;have e:=hm name;unfold nsFind findBy at e;rw[<- Array.find?_toList] at e;unfold ZH;rw[hd];dsimp only;split
 .rename_i y q;rw[q] at e;exact congrArg some e
 .rename_i q;rw[q] at e
  have a:es.toList.any (·.refKey)=false:=by
   rw[List.any_eq_false];intro y hy;obtain⟨z,t,hkey⟩:=hk y (Array.mem_toList_iff.mp hy);simp[Yg.refKey,hkey]
  have a' : ¬ es.toList.any (·.refKey)=true:=by rw[a];exact SX
  rw[if_neg a'];exact congrArg some e
def ObjM.look(I:ObjM h x dx C mA):∃od,PySem.W.InstAt h x (Zs C dx) C (some od)/\∀name,ZH name od=some (mA name) :=
 let ⟨od,ho,hl⟩:=CT I.ns
 ⟨od,⟨I.obj,rfl,rfl,ho⟩,hl⟩
def RelO.some_of{v:V}(r:RelO (some v) o):∃u,o=some u/\RelV v u:=by
 cases o with
 |none=>exact(show False from r).elim
 |some u=>exact⟨u,rfl,r⟩
section
variable{P:TK}{w:Ub}{H H':Hp}{h h':Heap}{a C dx:Addr}{fs fs':List (Str×V)}
def LI(hok:HOk P w H h)(e:H a=some (.ins C dx fs)):∃mA,ObjM h a dx C mA/\(∀f,RelO (fs.lookup f) (mA f))/\PySem.Within mA (fs.map (·.1))/\fs.length<=1000/\H dx=some (.own a):=by
 obtain⟨d,z,ne,ob,mA,n,r,q⟩:=(show ca P w H h a (.ins C dx fs) from hok a _ e)
 exact⟨mA,⟨ob,n,ne⟩,r,q,z,d⟩
end
structure Cls (K:Fg) (C:Addr):Prop where
 pg:Za6 K C YZ=true
 hd:PySem.W.hasDictIn K C=true
 po:PySem.W.plainOver K C=true
 sa:ZbJ K (.ref C) "__setattr__"=some (some (.builtin "object.__setattr__"))
def Cls.get{K:Fg}(c:Cls K C)(f:Str):Za6 K C f=true:=c.pg
section
variable{X:Cx}{G:List (Addr×Obj)}{σ:St}{H:Hp}{s:SB}{A:Uc}{E:Su->SB->Prop}{Q:Su->SB->Prop}{c:Su}{b:Bool}
inductive TyOf (K:Fg) (H:Hp):V->Su->Prop where
 |non:TyOf K H .non (.type "NoneType")
 |bl (x:Bool):TyOf K H (.bl x) (.type "bool")
 |int (i:Int):TyOf K H (.int i) (.type "int")
 |str (x:Str):TyOf K H (.str x) (.type "str")
 |flt (x:UInt64):TyOf K H (.flt x) (.type "float")
 |lst {a:Addr} {xs:List V} (e:H a=some (.lst xs)):TyOf K H (.ref a) (.type "list")
 |frz {a:Addr} {o:Obj} {xs:List V} (e:H a=some (.frz o (.lst xs))):TyOf K H (.ref a) (.type "list")
 |tup {a:Addr} {xs:List V} (e:H a=some (.tup xs)):TyOf K H (.ref a) (.type "tuple")
 |dK {a:Addr} {ab:List (a9×V)} (e:H a=some (.dK ab)):TyOf K H (.ref a) (.type "dict")
 |dT {a:Addr} {ab:List (List a9×V)} (e:H a=some (.dT ab)):TyOf K H (.ref a) (.type "dict")
 |ins {a C dx:Addr} {fs:List (Str×V)} (e:H a=some (.ins C dx fs)) (cl:Cls K C) (ha:ZbJ K (.ref C) "__class__"=some (some (.builtin "object.__class__")))
   (hn:PySem.W.specialIn K (.builtin "object.__class__") "__get__"=some (some (.builtin "getset_descriptor.__get__"))) (htk:PySem.W.takesIn K (.builtin "object.__class__")=some true)
   (hm:PySem.W.mroIn K C (.type "object")=some true):TyOf K H (.ref a) (.ref C)
def Do(I:Inv X G σ H s)(rx:RelV x u)(ty:TyOf X.K H x t)(e:Xg X.K t c=some b)(h:∀tk,Q (.bool b) {s with toks:=tk}) :
  wpAny (model X.prog X.w) A (call (.builtin "isinstance") [u,c]) Q E s:=by
 cases ty with
 |non=>cases (show u=U8 from rx);exact UQ PySem.W.kitx_none I.kIn V0 e (λz=>nomatch z) h
 |bl y=>cases (show u=Ze y from rx);exact UQ PySem.W.kitx_bool I.kIn V0 e (λz=>nomatch z) h
 |int i=>obtain⟨t,q⟩:=(show ∃t,u=WF i t from rx);cases q;exact UQ PySem.W.kitx_int I.kIn V0 e (λz=>nomatch z) h
 |str y=>obtain⟨t,q⟩:=(show ∃t,u=ZZ y t from rx);cases q;exact UQ PySem.W.kitx_str I.kIn V0 e (λz=>nomatch z) h
 |flt y=>obtain⟨t,q⟩:=(show ∃t,u=Su.float y t from rx);cases q;exact UQ PySem.W.kitx_float I.kIn V0 e (λz=>nomatch z) h
 |@lst a xs ea =>
  cases (show u=TU a from rx);obtain⟨_,_,n,_,h1⟩:=(show ca X.prog X.w H s.heap a (.lst xs) from I.hok a _ ea)
  exact UQ ZaA I.kIn ⟨_,h1,rfl⟩ e (λz=>nomatch z) h
 |@frz a ob xs ea =>
  cases (show u=TU a from rx);obtain⟨_,_,_,n,_,h1⟩:=(show ca X.prog X.w H s.heap a (.frz ob (.lst xs)) from I.hok a _ ea)
  exact UQ ZaA I.kIn ⟨_,h1,rfl⟩ e (λz=>nomatch z) h
 |@tup a xs ea =>
  cases (show u=TU a from rx);obtain⟨_,_,_,p⟩:=(show ca X.prog X.w H s.heap a (.tup xs) from I.hok a _ ea)
  obtain⟨o,h1,⟨h2,_⟩,_⟩:=p;exact UQ PySem.W.kitx_tuple I.kIn ⟨o,h1,h2⟩ e (λz=>nomatch z) h
 |@dK a ab ea =>
  cases (show u=TU a from rx);obtain⟨_,_,vs,_,p⟩:=(show ca X.prog X.w H s.heap a (.dK ab) from I.hok a _ ea)
  obtain⟨o,es,ep,h1,h2,_⟩:=p;exact UQ ZaB I.kIn ⟨o,h1,h2.1⟩ e (λz=>nomatch z) h
 |@dT a ab ea =>
  cases (show u=TU a from rx);obtain⟨_,_,xs,_,o,es,ep,h1,h2,_⟩:=(show ca X.prog X.w H s.heap a (.dT ab) from I.hok a _ ea)
  exact UQ ZaB I.kIn ⟨o,h1,h2.1⟩ e (λz=>nomatch z) h
 |@ins a C dx fs ea cl ha hn htk hm =>
  cases (show u=TU a from rx);obtain⟨mA,O,_⟩:=LI I.hok ea;obtain⟨od,J,_⟩:=O.look;exact UQ (PySem.W.kitx_own (cl.get _) cl.hd ha hn htk hm) I.kIn J e (λz=>nomatch z) h
end
structure Room (k:Nat) (A:Uc):Prop where
 hd:A.handled=none
 dp:A.depth+3*k+5<recursionLimit
 un:A.units+16*k+200<cLine
def Room.mono{j:Nat}(r:Room k A)(h:j<=k):Room j A:=⟨r.hd,by have:=r.dp;lia,by have:=r.un;lia⟩
def Room.deeper{k:Nat}(r:Room (k+1) A)(env:Env):Room k (A.deeper env) :=
 ⟨r.hd,by have:=r.dp;show A.depth+1+3*k+5<_;lia,by have:=r.un;show A.units+3+16*k+200<_;lia⟩
def Room.depth(r:Room k A):A.depth<recursionLimit:=by have:=r.dp;lia
def Room.units(r:Room k A):A.units+64<cLine:=by have:=r.un;lia
abbrev ae:TA:=λ_ H Q=>Q [] H
abbrev ac(ta:TE)(tr:TA):TA:=λσ H Q=>ta σ H λx H1=>tr σ H1 λxs H2=>Q (x :: xs) H2
section
variable{X:Cx}{e:Expr}{es:List Expr}{te:TE}{t:TA}{pos:Pos}
def NQ:PA X [] ae:=λ_ _ _ _ H Q I h=>Vt ⟨[],H,I,.nil,h⟩
def KO(ha:PE X e te)(hr:PA X es t)(hs:starEach (e :: es) X.env=(false,eval e X.env) :: starEach es X.env:=by rfl):PA X (e :: es) (ac te t):=by
 intro pos G s σ H Q I h;rw[hs];show wpAny _ _ (spliced ((false,eval e X.env) :: backTo pos (starEach es X.env))) _ _ s;refine Vl (a_ (ha G s σ H _ I h) λu s1 ω=>?_);obtain⟨x,H1,I1,r1,q1⟩:=ω;exact a_ (hr pos G s1 σ H1 _ I1 q1) (by rintro us s2 ⟨xs,H2,I2,r2,q2⟩;exact ⟨x :: xs,H2,I2,.cons r1 r2,q2⟩)
abbrev bC(t:TA):TE:=λσ H Q=>t σ H λxs H1=>UD xs<=sizeLine/\∀p,H1 p=none->Q (.ref p) (upd H1 p (.tup xs))
abbrev bK(t:TA):TE:=λσ H Q=>t σ H λxs H1=>UD xs<=sizeLine/\∀p,H1 p=none->Q (.ref p) (upd H1 p (.lst xs))
def NA{x1}(h:PA X es t):PE X (.Tuple es x1 pos) (bC t):=by
 intro G s σ H Q I hq;refine wpAny_Tuple_spliced (a_ (h pos G s σ H _ I hq) λus s1 ⟨xs,H1,I1,r,z,q⟩=>⟨by rw[<- r.length];exact z,?_⟩);have hf:H1 s1.heap.objs.size=none:=I1.hok.fresh (Sx _);refine⟨.ref s1.heap.objs.size,upd H1 s1.heap.objs.size (.tup xs),I1.laid (t':=s1.toks) (λb u e=>Sy _ e) (Sx _) ?_,rfl,q _ hf⟩;exact⟨z,us,r,TupD.new _ _⟩
def NF(h:PA X es t):PE X (.List es pos) (bK t):=by
 intro G s σ H Q I hq;refine wpAny_List_spliced (a_ (h pos G s σ H _ I hq) λus s1 ⟨xs,H1,I1,r,z,q⟩=>⟨by rw[<- r.length];exact z,?_⟩);have hf:H1 s1.heap.objs.size=none:=I1.hok.fresh (Sx _);refine⟨.ref s1.heap.objs.size,upd H1 s1.heap.objs.size (.lst xs),I1.laid (t':=s1.toks) (λb u e=>Sy _ e) (Sx _) ?_,rfl,q _ hf⟩;exact⟨z,us,0,r,Th _ rfl⟩
end
nonrec def Sp:=List V->Hp->VK->XK->Prop
nonrec def sY:=List Env->Hp->SB->XK->Su->SB->Prop
structure HC (P:TK) (w:Ub) (K:Fg) (mg:Str->Option Su) (base:Heap) (A:Uc) (outer:List Env) (s:SB) (H:Hp):Prop where
 frames:A.frames=some outer
 mod:Mod K mg base
 bs:∀b o,base.get? b=some o->s.heap.get? b=some o/\H b=none
 bsz:base.objs.size<=s.heap.objs.size
 funs:s.heap.FunFrames base outer
 frf:∀b∈zt outer,H b=none
 hok:HOk P w H s.heap
 bare:YF s.gens
abbrev CE(outer:List Env)(P:TK)(w:Ub)(H:Hp)(s:SB)(Q:VK)(u:Su)(s':SB):Prop :=
 ∃v H',s'.os=s.os/\YF s'.gens/\Un (zt outer) [] H H' s.heap s'.heap/\HOk P w H' s'.heap/\RelV v u/\Q v H'
abbrev CR(CX:sY)(outer:List Env)(P:TK)(w:Ub)(H:Hp)(s:SB)(Q:VK)(E:XK)(r:Za7)(s':SB):Prop :=
 match r with
 |.ok (.ret u)=>CE outer P w H s Q u s'
 |.ok _=>False
 |.error e=>CX outer H s E e s'
structure FnOk (P:TK) (w:Ub) (K:Fg) (mg:Str->Option Su) (base:Heap) (CX:sY) (k:Nat) (f:Addr) (fd:VI) (ps:List Str) (sp:Sp):Prop where
 len:∀vs H Q E,sp vs H Q E->UD vs=UD ps
 run:∀(A:Uc) (outer:List Env) (s:SB) (H:Hp) (args:Args) (us:List Su) (vs:List V) (Q:VK) (E:XK),Room k A->HC P w K mg base A outer s H->ZaC s fd args (ps.zip us)->Vals vs us->sp vs H Q E ->
  codeAny (model P w) A (.call (.ref f) args) (CR CX outer P w H s Q E) s
def FnOk.mono{K:Fg}{CX:sY}{k:Nat}(F:FnOk P w K mg base CX j f fd ps sp)(h:j<=k) :
  FnOk P w K mg base CX k f fd ps sp:=⟨F.len,λA outer s H args us vs Q E hr=>F.run A outer s H args us vs Q E (hr.mono h)⟩
section
variable{X:Cx}{G:List (Addr×Obj)}{σ:St}{H:Hp}{s s':SB}
def Inv.env0(I:Inv X G σ H s):HC X.prog X.w X.K X.mg X.base X.A X.stack s H :=
 ⟨I.ok.frames,I.ok.mod,I.bs,Ta I.ok.bsz I.sz,I.stack,I.AJ,I.hok,I.bare⟩
def Inv.after(I:Inv X G σ H s)(h:CE X.stack X.prog X.w H s Q u s'):EP X G σ Q u s':=by
 obtain⟨v,H',os,bare,un,hok,r,q⟩:=h;obtain⟨hh,g,d,t,os'⟩:=s';obtain rfl:os'=s.os:=os;exact⟨v,H',I.call (h':=hh) (g':=g) (d':=d) (t':=t) (ch:=[]) un hok bare (λb z=>absurd z (by simp)),r,q⟩
end
abbrev aw(sp:Sp)(eI:List V)(E:XK)(t:TA):TE:=λσ H Q=>t σ H λvs H1=>sp (vs++eI) H1 Q E
abbrev Binds(K:Fg)(fd:VI)(ps:List Str)(ds:List Su):Prop :=
 ∀(s:SB) (us:List Su),K.In s.heap->(us++ds).length=UD ps->ZaC s fd ⟨us,[]⟩ (ps.zip (us++ds))
def Binds.all{K:Fg}{ps:List Str}(h:∀us:List Su,UD us=UD ps->bindArgs fd ⟨us,[]⟩=pure (ps.zip us)):Binds K fd ps []:=λs us _ hl=>by
 rw[Vy] at hl ⊢;exact .of_eq (h us hl)
abbrev qh(CX:sY)(X:Cx)(E:XK):Prop:=∀(G:List (Addr×Obj)) (σ:St) (H:Hp) (s:SB) (e:Su) (s':SB),Inv X G σ H s->CX X.stack H s E e s'->X.xe e s'
section
variable{X:Cx}{CX:sY}{k:Nat}{f C:Addr}{fd:VI}{ps:List Str}{sp:Sp}{eI:List V}{ds:List Su}{E:XK}{x m:Str}{p pos apos:Pos}{e o:Expr}{es:List Expr}{ta:TE}{t:TA}
def MP{H:Hp}{vs:List V}(F:FnOk X.prog X.w X.K X.mg X.base CX k f fd ps sp)(hr:Room k X.A)(hb:Binds X.K fd ps ds)(hd:Vals eI ds)(hx:qh CX X E)
  (I:Inv X G σ H s) (r:Vals vs us) (h:sp (vs++eI) H Q E):wpAny (model X.prog X.w) X.A (call (.ref f) us) (EP X G σ Q) X.xe s:=by
 have r2:Vals (vs++eI) (us++ds):=r.append hd;have hl:(us++ds).length=UD ps:=by rw[<- r2.length];exact F.len _ _ _ _ h
 refine wpAny_call (X9 (F.run X.A X.stack s H ⟨us,[]⟩ (us++ds) (vs++eI) Q E hr I.env0 (hb s us I.kIn hl) r2 h) λr s' hq=>?_);cases r with
 |error e=>exact hx G σ H s e s' I hq
 |ok fl =>
  cases fl with
  |ret u=>exact I.after hq
  |next=>exact Wf hq
  |brk=>exact Wf hq
  |cont=>exact Wf hq
def KM(F:FnOk X.prog X.w X.K X.mg X.base CX k f fd ps sp)(hr:Room k X.A)(hg:Gl X x)(hm:X.mg x=⇑f)(hk:V6 X.K (.ref f)=true)(hb:Binds X.K fd ps ds)(hd:Vals eI ds)(hx:qh CX X E)
  (ha:PA X (e :: es) t) (hdb:(x == ("__debug__":Str))=false:=by decide) (he:starEach (e :: es) X.env=(false,eval e X.env) :: starEach es X.env:=by rfl) (hpl:(backTo pos (starEach es X.env)).any (·.1)=false:=by rfl) :
  PE X (.Call (.Name x p) (e :: es) [] pos) (aw sp eI E t):=by
 intro G s σ H Q I h;refine UL (CW I hg hm ?_ hdb);refine PySem.W.callWith_K (h₀:=X.base) I.ok.mod.kin hk (a_ (ha pos G s σ H _ I h) λus s1 ⟨vs,H1,I1,r,q⟩=>⟨I1.kIn,?_⟩) he hpl;exact MP F hr hb hd hx I1 r q
end
structure au (N P:List Str) (sc:Scope):Prop where
 kind:sc.kind=.function
 co:sc.isCoroutine=false
 gen:sc.isGenerator=false
 nd:N.Nodup
 pre:N.take (UD P)=P
 par:∀x∈P,sc.names.lookup x=some .local\/sc.names.lookup x=some .cell
 nofree:∀y∈sc.names,y.2≠.free
def sJ{kindOf:Str->Option Y0}{x:Str}:∀{binds:List (Str×Su)} {m:Str->Option Su},(∀v,(x,v)∉binds)->bindL kindOf binds m x=m x
 |[],_,_=>rfl
 |(n,v) :: r,m,h=>by
  unfold bindL;rw[sJ λw hw=>h w (Sw _ hw)];split
  .have:x≠n:=by rintro rfl;exact h v Sv
   simp[this]
  .rfl
def sL{kindOf:Str->Option Y0}{x:Str}:∀{binds:List (Str×Su)} {m:Str->Option Su},(∀v,(x,v)∉binds)->bindC kindOf binds m x=m x
 |[],_,_=>rfl
 |(n,v) :: r,m,h=>by
  unfold bindC;rw[sL λw hw=>h w (Sw _ hw)];split
  .rfl
  .have:x≠n:=by rintro rfl;exact h v Sv
   simp[this]
def sK{kindOf:Str->Option Y0}{x:Str}{v:Su}:∀{P:List Str} {vs:List Su} {i:Nat} {m:Str->Option Su},P.Nodup->P[i]?=some x->vs[i]?=some v->kindOf x=some .local ->
  bindL kindOf (P.zip vs) m x=some v
 |[],_,_,_,_,h,_,_=>by simp at h
 |_ :: _,[],_,_,_,_,h,_=>by simp at h
 |p :: P,w :: vs,0,m,nd,h1,h2,hk=>by
  simp at h1 h2;subst h1;subst h2;show bindL kindOf ((p,w) :: P.zip vs) m p=_;unfold bindL;rw[sJ λv hv=>(Uj.mp nd).1 (Zt hv).1,if_pos hk];simp
 |p :: P,w :: vs,i+1,m,nd,h1,h2,hk=>by
  show bindL kindOf ((p,w) :: P.zip vs) m x=_;unfold bindL;exact sK (i:=i) (Uj.mp nd).2 (by simpa using h1) (by simpa using h2) hk
def sM{kindOf:Str->Option Y0}{x:Str}{v:Su}:∀{P:List Str} {vs:List Su} {i:Nat} {m:Str->Option Su},P.Nodup->P[i]?=some x->vs[i]?=some v->kindOf x≠some .local ->
  bindC kindOf (P.zip vs) m x=some v
 |[],_,_,_,_,h,_,_=>by simp at h
 |_ :: _,[],_,_,_,_,h,_=>by simp at h
 |p :: P,w :: vs,0,m,nd,h1,h2,hk=>by
  simp at h1 h2;subst h1;subst h2;show bindC kindOf ((p,w) :: P.zip vs) m p=_;unfold bindC;rw[sL λv hv=>(Uj.mp nd).1 (Zt hv).1,if_neg hk];simp
 |p :: P,w :: vs,i+1,m,nd,h1,h2,hk=>by
  show bindC kindOf ((p,w) :: P.zip vs) m x=_;unfold bindC;exact sM (i:=i) (Uj.mp nd).2 (by simpa using h1) (by simpa using h2) hk
abbrev start(N:List Str)(vs:List V):St:=vs.map some++SR (UD N-UD vs) none
abbrev pZ(CX:sY)(P:TK)(w:Ub)(K:Fg)(mg:Str->Option Su)(base:Heap)(N:List Str)(qual:Str)(scope:Scope)(f:Addr)(cd:Su)(A:Uc)(outer:List Env)(s:SB)(H:Hp)(E:XK):Cx where
 prog:=P
 w:=w
 K:=K
 mg:=mg
 base:=base
 A:=A.deeper (envOfC qual scope s.heap.objs.size f cd)
 N:=N
 s₀:=s
 H₀:=H
 env:=envOfC qual scope s.heap.objs.size f cd
 outer:=outer
 stack:=envOfC qual scope s.heap.objs.size f cd :: outer
 ex:=[]
 calm:=true
 fn:=λ_=>true
 pn:=[]
 xe:=λe s'=>wpAny (model P w) (A.deeper (envOfC qual scope s.heap.objs.size f cd)) (leaving (envOfC qual scope s.heap.objs.size f cd) e) (λ_ s''=>CX outer H s E e s'') (λe' s''=>CX outer H s E e' s'') s'
def xO{sc:Scope}(h:sc.names.lookup x=some .cell):∃c,(cellsFrom n sc.names []).lookup x=some c:=by
 have q:=Zg sc.names n [] (.inl h);exact WU.mp q
def Dp{CX:sY}{K:Fg}{A:Uc}{vs:List V}
  (S:au N ps scope) (hd:A.handled=none) (e0:HC P w K mg base A outer s H) (hl:UD vs=UD ps) (r:Vals vs us)
  (x:InCallC s s.heap.objs.size (bindL (envOfC qual scope s.heap.objs.size f cd).kindOf (ps.zip us) λ_=>none) (cellsFrom (s.heap.objs.size+1) scope.names []) (bindC (envOfC qual scope s.heap.objs.size f cd).kindOf (ps.zip us) λ_=>none) s1) :
  Inv (pZ CX P w K mg base N qual scope f cd A outer s H E) [] (start N vs) H s1:=by
 have hpl:UD ps<=UD N:=by have:=congrArg UD S.pre;rw[SL] at this;lia
 obtain⟨h1,tk,rfl,hk⟩:=x.done;have noA:∀b:Addr,b∉(pZ CX P w K mg base N qual scope f cd A outer s H E).ex:=λb z=>absurd (show b∈([]:List Addr) from z) (by simp)
 refine⟨⟨e0.mod,S.kind,rfl,rfl,Sx _,λy z c h1 h2=>?_,λy hy=>?_,λy c _ h=>?_,λ_=>hd,Uc.frames_deeper e0.frames,.inr ⟨rfl,rfl⟩,λb z=>absurd z (noA b),e0.bs,e0.bsz,λb _ _=>noA b,λb z=>absurd z (noA b),e0.funs,e0.frf⟩,
  rfl,e0.bare,Un.kept hk,⟨_,x.toInCall.ns,λi y v h1 h2 h3=>?_⟩,λy c h=>⟨_,x.cell y c h⟩,e0.hok.fresh (Sx _),λy c h=>?_,λp hp=>absurd (show p∈([]:List (Addr×Obj)) from hp) (by simp),e0.hok.kept hk,?_⟩
 .exact name_of_addr x.apart (V3 h1) (V3 h2)
 .have hy:scope.names.lookup y=some .cell\/scope.names.lookup y=some .free:=hy;rcases hy with hy|hy
  .exact xO hy
  .exact absurd rfl (S.nofree _ (V3 hy))
 .exact VU (x.above y c (V3 h))
 .have hi:i<UD vs:=by
   unfold start at h2;by_cases hi:i<UD vs
   .exact hi
   .rw[TH (by simpa using hi)] at h2;rw[Y1] at h2;split at h2 <;> cases h2
  have ha:vs[i]?=some v:=by
   unfold start at h2;rw[Tx (by simpa using hi),So] at h2;cases e:vs[i]? with
   |none=>rw[e] at h2;cases h2
   |some a=>rw[e] at h2;cases h2;rfl
  obtain⟨u,hu,rv⟩:=r.get ha
  have hp:ps[i]?=some y:=by
   rw[<- S.pre,Vn ∅];exact h1
  have ndP:ps.Nodup:=by rw[<- S.pre];exact S.nd.sublist (Xh _ _)
  refine⟨u,rv,?_⟩;rcases S.par y (Sq hp) with k|k
  .exact .inl ⟨k,sK ndP hp hu k⟩
  .obtain⟨c,e⟩:=xO (n:=s.heap.objs.size+1) k;refine .inr ⟨.inl k,c,e,?_⟩;have q:=x.cell y c e;rw[sM ndP hp hu (by show scope.names.lookup y≠_;rw[k];decide)] at q;exact q
 .exact e0.hok.fresh (VU (x.above y c (V3 h)))
 .unfold start;show _=UD N;rw[SC,Si,Uh];lia
def RB{CX:sY}{K:Fg}{dV kV oc:Su}{od:Option Addr}
  {osl:Array (Option Su)}  {sp:Sp} (lk:K.lookup f=some ⟨oc,od,.func (Vc name qual params body scope dV kV doc pm an cdv ct),osl⟩) (hcd:Wy K cdv qual=true) (S:au N ps scope)
  (len:∀vs H Q E,sp vs H Q E->UD vs=UD ps)
  (hbody:∀(A:Uc) (outer:List Env) (s:SB) (H:Hp) (vs:List V) (Q:VK) (E:XK),Room k (A.deeper (envOfC qual scope s.heap.objs.size f cdv))->sp vs H Q E ->
   ∃t,PSs (pZ CX P w K mg base N qual scope f cdv A outer s H E) body t/\t {nx:=λ_ H'=>Q .non H',rt:=Q} (start N vs) H) :
  FnOk P w K mg base CX (k+1) f (Vc name qual params body scope dV kV doc pm an cdv ct) ps sp:=by
 refine⟨len,λA outer s H args us vs Q E hr e0 hb r hsp=>?_⟩;have hl:=len _ _ _ _ hsp;have KX:K.In s.heap:=e0.mod.kin.keeps λb o e=>(e0.bs b o e).1
 have lim:s.heap.NoLimit:=e0.mod.nolimit.keeps λb o e=>(e0.bs b o e).1
 have hkind:∀y∈ps.zip us,scope.names.lookup y.1=some .local\/(scope.names.lookup y.1=some .cell/\((cellsFrom (s.heap.objs.size+1) scope.names []).lookup y.1).isSome=true):=λ⟨n,v⟩ hy=>by
  rcases S.par n (Zt hy).1 with q|q
  .exact .inl q
  .exact .inr ⟨q,Zg _ _ _ (.inl q)⟩
 refine codeAny_call_function hr.depth (KX _ _ lk) rfl S.co S.gen rfl (PySem.W.codeRec_of KX hcd) (hb _ _ _ _ ?_);refine wpAny_newFunctionEnv_cells S.kind hkind λenv he s1 x=>?_
 subst he;refine⟨lim.keeps x.toInCall.keep,codeAny_func ?_⟩;obtain⟨t,ht,hq⟩:=hbody A outer s H vs Q E (hr.deeper _) hsp;have I:Inv (pZ CX P w K mg base N qual scope f cdv A outer s H E) [] (start N vs) H s1:=Dp S hr.hd e0 hl r x;refine UK (ht [] s1 (start N vs) H _ I hq) (λfl s' hs=>?_) λe s' hs=>hs
 have fin:∀{σ':St} {H':Hp} {v:V} {u:Su},Inv (pZ CX P w K mg base N qual scope f cdv A outer s H E) [] σ' H' s'->RelV v u->Q v H'->CE outer P w H s Q u s' :=
  λ{σ' H' v u} J rv q=>⟨v,H',J.os,J.bare,J.base,J.hok,rv,q⟩
 cases fl with
 |ret u =>
  obtain⟨v,σ',H',J,rv,q⟩:=hs;exact fin J rv q
 |next =>
  obtain⟨σ',H',J,q⟩:=hs;exact fin (v:=V.non) (u:=U8) J rfl q
 |brk =>
  obtain⟨_,_,_,q⟩:=hs;exact Wf q
 |cont =>
  obtain⟨_,_,_,q⟩:=hs;exact Wf q
section
variable{X:Cx}{x:Str}{p pos:Pos}{e:Expr}{es:List Expr}{t:TA}{id T:String}{r:List V->Hp->VK->Prop}
abbrev bO(r:List V->Hp->VK->Prop)(t:TA):TE:=λσ H Q=>t σ H λvs H1=>r vs H1 Q
def dU(hc:ff X (.builtin id) r) (hg:Gl X x) (hm:X.mg x=none) (hv:bootBuiltins x=some (.builtin id)) (ha:PA X (e :: es) t) (hn:x≠"__name__":=by decide) (hdb:(x == ("__debug__":Str))=false:=by decide)
  (he:starEach (e :: es) X.env=(false,eval e X.env) :: starEach es X.env:=by rfl) (hpl:(backTo pos (starEach es X.env)).any (·.1)=false:=by rfl):PE X (.Call (.Name x p) (e :: es) [] pos) (bO r t):=by
 intro G s σ H Q I h;refine UL (c8 I hg hm hv ?_ hn hdb);exact Xz (a_ (ha pos G s σ H _ I h) (by rintro us s1 ⟨vs,H1,I1,r1,q1⟩;exact hc G s1 σ H1 vs us Q I1 r1 q1)) he hpl
def ko(hc:ff X (.type T) r) (hg:Gl X x) (hm:X.mg x=none) (hv:bootBuiltins x=some (.type T)) (ha:PA X (e :: es) t) (hn:x≠"__name__":=by decide) (hdb:(x == ("__debug__":Str))=false:=by decide)
  (he:starEach (e :: es) X.env=(false,eval e X.env) :: starEach es X.env:=by rfl) (hpl:(backTo pos (starEach es X.env)).any (·.1)=false:=by rfl):PE X (.Call (.Name x p) (e :: es) [] pos) (bO r t):=by
 intro G s σ H Q I h;refine UL (c8 I hg hm hv ?_ hn hdb);exact TQ (a_ (ha pos G s σ H _ I h) (by rintro us s1 ⟨vs,H1,I1,r1,q1⟩;exact hc G s1 σ H1 vs us Q I1 r1 q1)) he hpl
end
end L2
namespace HT
open PySem PyProof.Rows
section
variable{prog:TK}{w:Ub}{A:Uc}{E:Su->SB->Prop}{s:SB}
def L1{vs ws:List Su}{Q:Su->SB->Prop}(ht:IsTup s.heap t vs.toArray)(hb:IsTup s.heap b ws.toArray)(hv:vs≠[])
  (h1:ws=[]->Q (.ref t) s) (h2:ws≠[]->Q (.ref s.heap.objs.size) {s with heap:=s.heap.push {cls:=.type "tuple",data:=.seq (vs++ws).toArray}})
  (hsz:UD vs+UD ws<=sizeLine):wpAny (model prog w) A (binaryOp .Add (.ref t) (.ref b)) Q E s:=by
 obtain⟨⟨cls,dd,data,sl⟩,ho,hc,n,hd⟩:=id ht;obtain⟨⟨cls2,dd2,data2,sl2⟩,ho2,hc2,n2,hd2⟩:=id hb;simp only at hc hd hc2 hd2;subst hc hd hc2 hd2;have e:vs.toArray++ws.toArray=(vs++ws).toArray:=by simp
 by_cases hw:ws=[]
 .exact concat_meets ⟨_,ho,rfl⟩ ⟨_,ho2,rfl⟩ noFill_tuple_add seq_tuple_add Zh Y2 (YQ _ _)
   (tuple_addW1 t b vs.toArray ws.toArray n n2 dd dd2 sl sl2 (by simpa using hv) (by simp[hw])) ⟨ho,ho2,h1 hw⟩
 .refine concat_meets ⟨_,ho,rfl⟩ ⟨_,ho2,rfl⟩ noFill_tuple_add seq_tuple_add Zh Y2 (YQ _ _)
   (tuple_addW2 t b vs.toArray ws.toArray n n2 dd dd2 sl sl2 (by simpa using hv) (by simpa using hw) (by rw[SZ,SZ];exact hsz)) ⟨ho,ho2,?_⟩
  rw[e];exact h2 hw
abbrev sIx(n d:Nat):Option Int->Nat
 |none=>d
 |some v=>if v<0 then (v+(n:Int)).toNat else min v.toNat n
end
end HT
namespace L2
open PySem PySem.Spec PyProof.Rows
nonrec def TO:=St->Hp->(Option Int->Hp->Prop)->Prop
abbrev PO(X:Cx)(e:Option Expr)(t:TO):Prop :=
 ∀(G:List (Addr×Obj)) (s:SB) (σ:St) (H:Hp) (Q:Option Int->Hp->Prop),Inv X G σ H s->t σ H Q ->
  wpAny (model X.prog X.w) X.A (evalPart e X.env) (λu s'=>∃o H',Inv X G σ H' s'/\IsPart u o/\Q o H') X.xe s
abbrev f9:TO:=λ_ H Q=>Q none H
abbrev ot(t:TE):TO:=λσ H Q=>t σ H λx H1=>∃i,x=.int i/\Q (some i) H1
def intsAre_of{ns:List Int}:∀{us:List Su},Vals (ns.map V.int) us->Wh us ns:=by
 induction ns with
 |nil=>intro us r;rw[X_] at r;cases r;exact .nil
 |cons n ns ih =>
  intro us r;rw[TM] at r;cases r with
  |cons r1 r2 =>
   obtain⟨t,e⟩:=r1;subst e;exact .cons n t (ih r2)
section
variable{X:Cx}{e:Expr}{te:TE}{lo hi:Option Expr}{tl th:TO}{pos p2:Pos}
def KC:PO X none f9:=by
 intro G s σ H Q I h;rw[evalPart_none];exact SN ⟨none,H,I,.none,h⟩
def KB(h:PE X e te):PO X (some e) (ot te):=by
 intro G s σ H Q I hw;rw[evalPart_some];refine a_ (h G s σ H _ I hw) λu s1 ω=>?_;obtain⟨x,H1,I1,r1,q1⟩:=ω
 obtain⟨i,rfl,q⟩:=q1;obtain⟨t,rfl⟩:=r1;exact⟨some i,H1,I1,.int i t,q⟩
abbrev Qb(X:Cx)(r:V->Option Int->Option Int->Hp->VK->Prop):Prop :=
 ∀(G:List (Addr×Obj)) (s:SB) (σ:St) (H:Hp) (x:V) (v vl vu:Su) (lo hi:Option Int) (sl:Addr) (Q:VK),Inv X G σ H s->RelV x v->s.heap.IsSliceOf sl vl vu .none->IsPart vl lo->IsPart vu hi->r x lo hi H Q ->
  ∃T id,typeLookup (.type T) "__getitem__"=pure (some (.builtin id))/\s.TypeIs v T/\wpAny (model X.prog X.w) X.A (getItem v (.ref sl)) (EP X G σ Q) X.xe s
abbrev HL(r:V->Option Int->Option Int->Hp->VK->Prop)(te:TE)(tl th:TO):TE:=λσ H Q=>te σ H λx H1=>tl σ H1 λl H2=>th σ H2 λu H3=>r x l u H3 Q
def Go(hr:Qb X r)(he:PE X e te)(hl:PO X lo tl)(hu:PO X hi th):PE X (.Subscript e (.Slice lo hi none p2) pos) (HL r te tl th):=by
 intro G s σ H Q I h;refine Subscript_ (a_ (he G s σ H _ I h) λv s1 ω=>?_);obtain⟨x,H1,I1,r1,q1⟩:=ω;refine wpAny_Slice (a_ (hl G s1 σ H1 _ I1 q1) λvl s2 ⟨l,H2,I2,pl,q2⟩=>a_ (hu G s2 σ H2 _ I2 q2) λvu s3 ω=>?_);obtain⟨u,H3,I3,pu,q3⟩:=ω;rw[evalPart_none];refine SN ?_;have I4:Inv X G σ H3 {s3 with heap:=s3.heap.push {cls:=.type "slice",data:=.fields #[vl,vu,.none]}}:=I3.kept (t':=s3.toks) λb ob q=>Sy _ q
 obtain⟨T,id,hT,ht,hg⟩:=hr G {s3 with heap:=s3.heap.push {cls:=.type "slice",data:=.fields #[vl,vu,.none]}} σ H3 x v vl vu l u s3.heap.objs.size Q I4 r1 (Heap.IsSliceOf.new ..) pl pu q3;show wpAny (model X.prog X.w) X.A (subscriptTail e (.Slice lo hi none p2) v (.ref s3.heap.objs.size)) (EP X G σ Q) X.xe {s3 with heap:=s3.heap.push {cls:=.type "slice",data:=.fields #[vl,vu,.none]}};exact tail_any (ops:=[.ref s3.heap.objs.size,v]) ht hT hg (by with_unfolding_all rfl)
abbrev jm(xs:List V)(lo hi:Option Int):List V:=(xs.drop (HT.sIx (UD xs) 0 lo)).take (HT.sIx (UD xs) (UD xs) hi-HT.sIx (UD xs) 0 lo)
def vO(xs:List V)(lo hi:Option Int):(jm xs lo hi).length<=UD xs:=by
 unfold jm;rw[SL,Ux];lia
abbrev M7(K:Fg):R2:=λx y H Q=>∃a b xs ys,x=.ref a/\y=.ref b/\SqT K H a xs/\SqT K H b ys/\xs≠[]/\xs.length+ys.length<=sizeLine /\
 (ys=[]->Q (.ref a) H)/\(ys≠[]->∀p,H p=none->Q (.ref p) (upd H p (.tup (xs++ys))))
def Vals.vi(r:Vals xs us):us=[]↔xs=[]:=by
 cases r with
 |nil=>simp
 |cons _ _=>simp
def KY:fe X (binaryOp .Add) (M7 X.K):=by
 intro G s σ H x y v u Q I rx ry h;obtain⟨a,b,xs,ys,rfl,rfl,ha,hb,hx,hz,q1,q2⟩:=h;cases rx;cases ry;obtain⟨de,r1,p1,_⟩:=I.tuple ha;obtain⟨its2,r2,p2,_⟩:=I.tuple hb;refine HT.L1 p1 p2 (λz=>hx (r1.vi.mp z)) (λz=>⟨.ref a,H,I,rfl,q1 (r2.vi.mp z)⟩) (λz=>?_) (by rw[<- r1.length,<- r2.length];exact hz);refine⟨.ref s.heap.objs.size,_,I.laid (t':=s.toks) (o:=.tup (xs++ys)) (λb ob q=>Sy _ q) (Sx _) ?_,rfl,q2 (λw=>z (r2.vi.mpr w)) _ (I.hok.fresh (Sx _))⟩;exact⟨by rw[SC];exact hz,_,r1.append r2,TupD.new _ _⟩
end
abbrev zq(n:Nat)(i:Int):Option Nat:=if 0<=i then (if i<n then some i.toNat else none) else if -(n:Int)<=i then some (i+n).toNat else none
abbrev qe{α:Type}(xs:List α)(i:Int):Option α:=(zq (UD xs) i).bind λj=>xs[j]?
def Dj{j:Nat}(h:zq n i=some j):seqIndex? i n=some j/\j<n/\-(n:Int)<=i/\i<n:=by
 unfold zq at h;by_cases h0:0<=i
 .rw[if_pos h0] at h;by_cases h1:i<n
  .rw[if_pos h1] at h;have e:i.toNat=j:=SU h;exact⟨by rw[Zbm h0 h1,e],∅,∅,h1⟩
  .rw[if_neg h1] at h;cases h
 .rw[if_neg h0] at h;by_cases h1 : -(n:Int)<=i
  .rw[if_pos h1] at h;have e:(i+n).toNat=j:=SU h;exact⟨by rw[ZaD ∅ h1,e],∅,h1,∅⟩
  .rw[if_neg h1] at h;cases h
def vW{α:Type}{xs:List α}{v:α}(h:qe xs i=some v):∃j,seqIndex? i (UD xs)=some j/\xs[j]?=some v/\j<(UD xs)/\-(UD xs:Int)<=i/\i<UD xs:=by
 unfold qe at h;cases e:zq (UD xs) i with
 |none=>rw[e] at h;cases h
 |some j =>
  rw[e] at h;obtain⟨h1,h2,h3,h4⟩:=Dj e;exact⟨j,h1,h,h2,h3,h4⟩
def aM{α:Type}{xs:List α}{j:Nat}{v:α}(h:xs[j]?=some v):qe xs (j:Int)=some v:=by
 have hj:j<UD xs:=(Sn.mp h).1
 have e:zq (UD xs) (j:Int)=some j:=by
  unfold zq;rw[if_pos ∅,if_pos ∅];simp
 unfold qe;rw[e];exact h
def jF{α:Type}(xs:List α)(v:α):qe (xs++[v]) (-1)=some v:=by
 have hl:(xs++[v]).length=UD xs+1:=by simp
 have e:zq (xs++[v]).length (-1)=some (UD xs):=by
  unfold zq;rw[hl,if_neg (by decide),if_pos ∅];congr 1;lia
 unfold qe;rw[e];show(xs++[v])[UD xs]?=some v;simp
abbrev L_(b:Expr):Prop:=∀o i,subscripted b false o i=operate [o,i] (getItem o i)
abbrev PV(X:Cx)(r:R2):Prop :=
 ∀(value slice:Expr) (G:List (Addr×Obj)) (s:SB) (σ:St) (H:Hp) (x y:V) (v u:Su) (Q:VK),Inv X G σ H s->RelV x v->RelV y u->r x y H Q ->
  subscripted slice false v u=operate [v,u] (getItem v u)->wpAny (model X.prog X.w) X.A (subscriptTail value slice v u) (EP X G σ Q) X.xe s
abbrev RO(X:Cx)(id:String)(r:V->List V->Hp->VK->Prop):Prop :=
 ∀(G:List (Addr×Obj)) (s:SB) (σ:St) (H:Hp) (x:V) (xs:List V) (v:Su) (us:List Su) (Q:VK),Inv X G σ H s->RelV x v->Vals xs us->r x xs H Q ->
  wpAny (model X.prog X.w) X.A (call (.builtin id) (v :: us)) (EP X G σ Q) X.xe s
section
variable{X:Cx}{a b:Expr}{ta tb:TE}{pos:Pos}
def Qy(hr:PV X r)(ha:PE X a ta)(hb:PE X b tb)(hs:L_ b):PE X (.Subscript a b pos) (ar r ta tb):=by
 intro G s σ H Q I h;exact Subscript_ (L3 ha hb I h λv u s2 x y H2 I2 rx ry q=>hr a b G s2 σ H2 x y v u Q I2 rx ry q (hs _ _))
abbrev bP(K:Fg):R2:=λx y H Q=>∃p xs i v,x=.ref p/\y=.int i/\SqL K H p xs/\qe xs i=some v/\Q v H
abbrev aD(K:Fg):R2:=λx y H Q=>∃p xs i v,x=.ref p/\y=.int i/\SqT K H p xs/\qe xs i=some v/\Q v H
abbrev Ko:R2:=λx y H Q=>∃z i c,x=.str z/\y=.int i/\z.length<=sizeLine/\qe z.cps.toList i=some c/\Q (.str ⟨#[c]⟩) H
def LH:PV X (bP X.K):=by
 intro value slice G s σ H x y v u Q I rx ry h hs;obtain⟨p,xs,i,z,rfl,rfl,hq,he,q⟩:=h;cases rx;obtain⟨t,rfl⟩:=ry;obtain⟨de,r,pl,hz⟩:=I.list hq;obtain⟨j,h1,h2,h3,h4,h5⟩:=vW he;obtain⟨w,ew,rw'⟩:=r.get h2;have hl:=r.length;have hn:=rX;have fin:EP X G σ Q w s:=⟨z,H,I,rw',q⟩
 by_cases h0:0<=i
 .have hj:i.toNat=j:=by
   rw[Zbm h0 h5] at h1;exact SU h1
  exact item_listR pl.isList h0 ∅ (by rw[hj];simpa using ew) fin hs
 .have hj:(i+(de.toArray.size:Int)).toNat=j:=by
   rw[ZaD ∅ h4] at h1;rw[SZ,<- hl];exact SU h1
  exact Zi (x:=w) pl.isList.typeIs slot_list_getitem.lookup
   (wpAny_getItem_list_neg (Q:=λr s'=>r=w/\EP X G σ Q r s') pl.isList ∅ (by rw[SZ] <;> lia) ∅ (by rw[hj];simpa using ew) ⟨rfl,fin⟩) hs
def OW:PV X (aD X.K):=by
 intro value slice G s σ H x y v u Q I rx ry h hs;obtain⟨p,xs,i,z,rfl,rfl,hq,he,q⟩:=h;cases rx;obtain⟨t,rfl⟩:=ry;obtain⟨de,r,pl,hz⟩:=I.tuple hq;obtain⟨j,h1,h2,h3,h4,h5⟩:=vW he;obtain⟨w,ew,rw'⟩:=r.get h2;have hl:=r.length;have hn:=rX;have fin:EP X G σ Q w s:=⟨z,H,I,rw',q⟩
 exact Zi (x:=w) pl.typeIs slot_tuple_getitem.lookup
  (getItem_tuple (j:=j) (Q:=λr s'=>r=w/\EP X G σ Q r s') pl ∅ ∅ (by rw[SZ,<- hl];exact h1) (by simpa using ew) ⟨rfl,fin⟩) hs
def OX:PV X Ko:=by
 intro value slice G s σ H x y v u Q I rx ry h hs;obtain⟨z,i,c,rfl,rfl,hz,he,q⟩:=h;obtain⟨t,rfl⟩:=rx;obtain⟨t',rfl⟩:=ry;obtain⟨j,h1,h2,h3,h4,h5⟩:=vW he;have hl:z.cps.toList.length=z.length:=by simp[ZbK]
 rw[hl] at h1 h4 h5;have hn:=rX
 exact tail_any (typeIs_str s z t) slot_str_getitem.lookup (getItem_str (c:=c) (by
  have e1:decide (i < -(2 ^ 63:Int))=false:=decide_eq_false ∅
  have e2:decide (i≥2 ^ 63)=false:=decide_eq_false ∅
  rw[e1,e2,ZbV]) (by rw[h1];simpa using h2) ⟨.str ⟨#[c]⟩,H,I.tok _,⟨_,rfl⟩,q⟩) hs
def yW(de:List Su) (n j:Nat) (u:Su):WZ (·.setIfInBounds j u) {cls:=.type "list",data:=.seq de.toArray n} = {cls:=.type "list",data:=.seq (de.set j u).toArray n}:=by
 simp[WZ]
def Inv.lst{G:List (Addr×Obj)}{σ:St}{H:Hp}{s:SB}{p:Addr}{xs:List V}(I:Inv X G σ H s)(h:H p=some (.lst xs)) :
  ∃(de:List Su) (n:Nat),Vals xs de/\s.heap.get? p=some {cls:=.type "list",data:=.seq de.toArray n}/\xs.length<=sizeLine:=by
 obtain⟨z,de,n,r,e⟩:=I.hok p _ h;exact⟨de,n,r,e,z⟩
def Inv.Oh{H:Hp}{de its':List Su}{f:Obj->Obj}(I:Inv X G σ H s)(h:H p=some (.lst xs))
  (ho:s.heap.get? p=some {cls:=.type "list",data:=.seq de.toArray n}) (hf:f {cls:=.type "list",data:=.seq de.toArray n} = {cls:=.type "list",data:=.seq its'.toArray n'}) (r:Vals ys its') (hz:UD ys<=sizeLine) (t:Nat) :
  Inv X G σ (upd H p (.lst ys)) {s with heap:=s.heap.update p f,toks:=t}:=by
 have e:(s.heap.update p f).get? p=some {cls:=.type "list",data:=.seq its'.toArray n'}:=by
  rw[UH f ho (by rw[hf] <;> rfl),hf]
 refine I.write (x:=p) (e:=p) (by rw[h];trivial) (.inl rfl) (λb u hb q=>(Zj _ _ (YG hb)).trans q) ⟨_,e⟩ ?_;exact⟨hz,its',n',r,e⟩
abbrev Kh:V->V->V->Hp->(Hp->Prop)->Prop:=λo i v H Q=>∃p xs k j,o=.ref p/\i=.int k/\H p=some (.lst xs)/\zq (UD xs) k=some j/\Q (upd H p (.lst (xs.set j v)))
def Bc:PP X Kh:=by
 intro G s σ H o i v ov iv u Q I ro ri rv h;obtain⟨p,xs,k,j,rfl,rfl,hp,hj,q⟩:=h;cases ro;obtain⟨t,rfl⟩:=ri;obtain⟨de,n,r,ho,hz⟩:=I.lst hp;obtain⟨h1,h2,h3,h4⟩:=Dj hj;have hl:=r.length;have hn:=rX
 have I':Inv X G σ (upd H p (.lst (xs.set j v))) {s with heap:=s.heap.update p (WZ (·.setIfInBounds j u))} :=
  I.Oh hp ho (yW de n j u) (r.set rv j) (by rw[Zu];exact hz) s.toks
 by_cases h0:0<=k
 .have hk:k.toNat=j:=by
   rw[Zbm h0 h4] at h1;exact SU h1
  exact PySem.W.ki_setAt ho h0 ∅ (by rw[SZ,<- hl];exact h4) (by rw[hk];exact⟨_,I',q⟩)
 .have hk:(k+(de.toArray.size:Int)).toNat=j:=by
   rw[ZaD ∅ h3] at h1;rw[SZ,<- hl];exact SU h1
  exact PySem.W.ki_setBack ho ∅ (by rw[SZ,<- hl];exact h3) ∅ (by rw[hk];exact⟨_,I',q⟩)
def qH(lo hi:Option Int)(n:Nat):(sliceBounds lo hi none n).1=((HT.sIx n 0 lo:Nat):Int)/\(sliceBounds lo hi none n).2.1=((HT.sIx n n hi:Nat):Int)/\(sliceBounds lo hi none n).2.2=1:=by
 refine⟨?_,?_,rfl⟩
 .cases lo with
  |none=>simp[sliceBounds,HT.sIx]
  |some i =>
   simp only[sliceBounds,HT.sIx,Za8,show(1:Int) > 0 by decide,if_true];by_cases h:i<0
   .simp only[h,if_true] <;> lia
   .simp only[h,if_false] <;> lia
 .cases hi with
  |none=>simp[sliceBounds,HT.sIx]
  |some i =>
   simp only[sliceBounds,HT.sIx,Za8,show(1:Int) > 0 by decide,if_true];by_cases h:i<0
   .simp only[h,if_true] <;> lia
   .simp only[h,if_false] <;> lia
def oT(de:List Su)(lo hi:Option Int):slicePick de.toArray lo hi none=((de.drop (HT.sIx (UD de) 0 lo)).take (HT.sIx (UD de) (UD de) hi-HT.sIx (UD de) 0 lo)).toArray:=by
 obtain⟨h1,h2,h3⟩:=qH lo hi de.toArray.size;unfold slicePick;rw[h1,h2,h3];simp only[sliceRange_one,pick_run,SZ] <;> rfl
abbrev yI(K:Fg):V->Option Int->Option Int->Hp->VK->Prop:=λx lo hi H Q=>∃a xs,x=.ref a/\SqL K H a xs/\∀p,H p=none->Q (.ref p) (upd H p (.lst (jm xs lo hi)))
def JG:Qb X (yI X.K):=by
 intro G s σ H x v vl vu lo hi sl Q I rx hs pl pu h;obtain⟨a,xs,rfl,hx,q⟩:=h;cases rx;obtain⟨de,r,ht,hz⟩:=I.list hx;have hlen:=r.length;refine⟨"list",_,slot_list_getitem.lookup,ht.isList.typeIs,?_⟩;refine wpAny_getItem_list_slice ht.isList hs pl pu .none (by simp) ?_ (by rw[SZ] <;> lia);rw[oT,<- hlen];refine⟨.ref s.heap.objs.size,_,I.laid (t':=s.toks) (o:=.lst (jm xs lo hi)) (λb ob q=>Sy _ q) (Sx _) ?_,rfl,q _ (I.hok.fresh (Sx _))⟩;exact⟨Ta (vO xs lo hi) hz,_,0,(r.drop (HT.sIx (UD xs) 0 lo)).take (HT.sIx (UD xs) (UD xs) hi-HT.sIx (UD xs) 0 lo),Th _ rfl⟩
abbrev mz:V->Bool
 |.non=>true
 |.bl _=>true
 |.int _=>true
 |.str _=>true
 |_=>false
abbrev EI:V->V->Bool
 |.non,.non=>true
 |.bl a,.bl b=>a == b
 |.bl a,.int b=>(if a then 1 else 0) == b
 |.int a,.bl b=>a == (if b then 1 else 0)
 |.int a,.int b=>a == b
 |.str a,.str b=>a == b
 |_,_=>false
def Pa(ry:RelV y u)(rx:RelV x v)(fy:mz y=true)(fx:mz x=true):U7 A s u v (EI y x):=by
 cases y with
 |non =>
  cases ry;cases x with
  |non=>cases rx;exact U7.same _
  |bl b=>cases rx;exact U7.none_bool b
  |int b=>obtain⟨t,rfl⟩:=rx;exact U7.none_int b t
  |str b=>obtain⟨t,rfl⟩:=rx;exact U7.none_str b t
  |_=>exact absurd (show false=true from fx) SX
 |bl a =>
  cases ry;cases x with
  |non=>cases rx;exact U7.bool_none a
  |bl b=>cases rx;exact U7.bool_bool a b
  |int b=>obtain⟨t,rfl⟩:=rx;exact U7.bool_int a b t
  |str b=>obtain⟨t,rfl⟩:=rx;exact U7.bool_str a b t
  |_=>exact absurd (show false=true from fx) SX
 |int a =>
  obtain⟨t',rfl⟩:=ry;cases x with
  |non=>cases rx;exact U7.int_none a t'
  |bl b=>cases rx;exact U7.int_bool a t' b
  |int b=>obtain⟨t,rfl⟩:=rx;exact U7.int_int a t' b t
  |str b=>obtain⟨t,rfl⟩:=rx;exact Zam a t' b t
  |_=>exact absurd (show false=true from fx) SX
 |str a =>
  obtain⟨t',rfl⟩:=ry;cases x with
  |non=>cases rx;exact U7.str_none a t'
  |bl b=>cases rx;exact U7.str_bool a t' b
  |int b=>obtain⟨t,rfl⟩:=rx;exact Zan a t' b t
  |str b=>obtain⟨t,rfl⟩:=rx;exact U7.str_str a t' b t
  |_=>exact absurd (show false=true from fx) SX
 |_=>exact absurd (show false=true from fy) SX
abbrev Hi(x:V)(u:Su):Bool:=match u with
 |.none=>EI .non x
 |.bool b=>EI (.bl b) x
 |.int i _=>EI (.int i) x
 |.str z _=>EI (.str z) x
 |_=>false
def IG(r:RelV y u)(f:mz y=true):Hi x u=EI y x:=by
 cases y with
 |non=>cases r;rfl
 |bl b=>cases r;rfl
 |int i=>obtain⟨t,rfl⟩:=r;rfl
 |str z=>obtain⟨t,rfl⟩:=r;rfl
 |_=>exact absurd (show false=true from f) SX
def vY{x:V}:∀{xs:List V} {us:List Su},Vals xs us->xs.all mz=true->us.any (Hi x)=xs.any λy=>EI y x
 |_,_,.nil,_=>rfl
 |y :: xs,u :: us,.cons r t,f=>by
  rw[ZbW,WG] at f;rw[WV,WV,IG r f.1,vY t f.2]
def pF{A:Uc}{s:SB}{x:V}{v:Su}(rx:RelV x v)(fx:mz x=true):∀{xs:List V} {us:List Su},Vals xs us->xs.all mz=true->∀u∈us,U7 A s u v (Hi x u)
 |_,_,.nil,_=>λu hu=>by cases hu
 |y :: xs,u :: us,.cons r t,f=>λu' hu=>by
  rw[ZbW,WG] at f;rcases S_.mp hu with rfl|hu
  .rw[IG r f.1];exact Pa r rx f.1 fx
  .exact pF rx fx t f.2 u' hu
abbrev O3(x:V)(xs:List V):Bool:=xs.any λy=>EI y x
abbrev Qo(K:Fg)(di:Bool):R2:=λx y H Q=>∃p xs,y=.ref p/\(SqL K H p xs\/SqT K H p xs)/\mz x=true/\xs.all mz=true/\Q (.bl (if di then !O3 x xs else O3 x xs)) H
def Cv:fe X (compareOp .In) (Qo X.K false):=by
 intro G s σ H x y v u Q I rx ry h;obtain⟨p,xs,rfl,hq,fx,fs,q⟩:=h;cases ry;rcases hq with hq|hq
 .obtain⟨de,r,pl,hz⟩:=I.list hq;refine SeqAt.in_listAt (Hi x) pl.isList (λw hw=>pF rx fx r fs w (by simpa using hw)) ⟨.bl _,H,I,rfl,?_⟩;rw[show de.toArray.any (Hi x)=de.any (Hi x) by simp,vY r fs];exact q
 .obtain⟨de,r,pl,hz⟩:=I.tuple hq;refine SeqAt.in_tupleAt (Hi x) pl (λw hw=>pF rx fx r fs w (by simpa using hw)) ⟨.bl _,H,I,rfl,?_⟩;rw[show de.toArray.any (Hi x)=de.any (Hi x) by simp,vY r fs];exact q
def sG:ff X (.builtin "len") (λxs H Q=>∃p ys,xs=[.ref p]/\(SqL X.K H p ys\/SqT X.K H p ys)/\Q (.int (UD ys)) H):=by
 intro G s σ H xs us Q I r h;obtain⟨p,ys,rfl,hq,q⟩:=h;obtain⟨u,rfl,rx⟩:=vals1 r;cases rx;have hn:=rX;rcases hq with hq|hq
 .obtain⟨de,r',pl,hz⟩:=I.list hq;have hlen:=r'.length;exact Calls.call_len_list pl.isList (by simp only[SZ] <;> lia) ⟨.int (UD ys),H,I.tok _,⟨s.toks+1,by rw[SZ,hlen]⟩,q⟩
 .obtain⟨de,r',pl,hz⟩:=I.tuple hq;have hlen:=r'.length;exact len_tuple pl (by simp only[SZ] <;> lia) ⟨.int (UD ys),H,I.tok _,⟨s.toks+1,by rw[SZ,hlen]⟩,q⟩
def sF:ff X (.type "list") (λxs H Q=>∃p ys,xs=[.ref p]/\(SqL X.K H p ys\/SqT X.K H p ys)/\∀l,H l=none->Q (.ref l) (upd H l (.lst ys))):=by
 intro G s σ H xs us Q I r h;obtain⟨p,ys,rfl,hq,q⟩:=h;obtain⟨u,rfl,rx⟩:=vals1 r;cases rx
 have fin:∀(de:List Su),Vals ys de->UD ys<=sizeLine->∀(h':Heap) (c':Nat),(∀b o',s.heap.get? b=some o'->h'.get? b=some o') ->
   h'.get? s.heap.objs.size=some {cls:=.type "list",dict:=none,data:=.seq de.toArray c',slots:=#[]}->EP X G σ Q (.ref s.heap.objs.size) {s with heap:=h'}:=λde r' hz h' c' kp e =>
  ⟨.ref s.heap.objs.size,_,I.laid (t':=s.toks) kp (Sx _) (show ca X.prog X.w _ h' _ (.lst ys) from⟨hz,de,c',r',e⟩),rfl,q _ (I.hok.fresh (Sx _))⟩
 rcases hq with hq|hq
 .obtain⟨de,r',pl,hz⟩:=I.list hq;have hlen:=r'.length;obtain⟨o,ho,hc,n,hd⟩:=pl.isList;exact call_list_seq p (.inl rfl) ho hc hd (λh' c' kp e=>fin de r' hz h' c' kp e) (by simp only[SZ] <;> lia)
 .obtain⟨de,r',pl,hz⟩:=I.tuple hq;have hlen:=r'.length;obtain⟨o,ho,hc,n,hd⟩:=pl;exact call_list_seq p (.inr rfl) ho hc hd (λh' c' kp e=>fin de r' hz h' c' kp e) (by simp only[SZ] <;> lia)
def qb:ff X (.type "tuple") (λxs H Q=>∃p ys,xs=[.ref p]/\((SqL X.K H p ys/\∀l,H l=none->Q (.ref l) (upd H l (.tup ys)))\/(SqT X.K H p ys/\Q (.ref p) H))):=by
 intro G s σ H xs us Q I r h;obtain⟨p,ys,rfl,h⟩:=h;obtain⟨u,rfl,rx⟩:=vals1 r;cases rx;rcases h with⟨hq,q⟩|⟨hq,q⟩
 .obtain⟨de,r',pl,hz⟩:=I.list hq;have hlen:=r'.length;refine call_tuple_list pl.isList (λh' kp=>?_) (by simp only[SZ] <;> lia);have I1:Inv X G σ H {s with heap:=h'}:=I.kept (t':=s.toks) kp
  have I2:Inv X G σ (upd H h'.objs.size (.tup ys)) {s with heap:=h'.push {cls:=.type "tuple",data:=.seq de.toArray}} :=
   I1.laid (t':=s.toks) (λb o e=>Sy _ e) (Sx _) (show ca X.prog X.w _ _ _ (.tup ys) from⟨hz,de,r',TupD.new _ _⟩)
  exact⟨.ref h'.objs.size,_,I2,rfl,q _ (I1.hok.fresh (Sx _))⟩
 .obtain⟨de,r',pl,hz⟩:=I.tuple hq;exact call_tuple_same pl ⟨.ref p,H,I,rfl,q⟩
abbrev HH(K:Fg)(T:String)(x:V)(H:Hp):Prop:=match x with
 |.str _=>T = "str"
 |.int _=>T = "int"
 |.ref p=>(T = "list"/\∃xs,SqL K H p xs)\/(T = "tuple"/\∃o,K.lookup p=some o/\o.cls=.type "tuple"/\o.dict=none) \/
   (T = "dict"/\((∃ab,H p=some (.dK ab))\/∃ab,H p=some (.dT ab)))\/(T = "set"/\∃S n,H p=some (.set S n))
 |_=>False
def HG{H:Hp}{T:String}(I:Inv X G σ H s)(r:RelV x v)(ty:HH X.K T x H) :
  s.TypeIs v T/\∀a,v=.ref a->∃ob,s.heap.get? a=some ob/\ob.dict=none:=by
 cases x with
 |str z =>
  obtain⟨t,rfl⟩:=r;cases (show T = "str" from ty);exact⟨typeIs_str s z t,λ_ e=>nomatch e⟩
 |int i =>
  obtain⟨t,rfl⟩:=r;cases (show T = "int" from ty);exact⟨typeIs_int s i t,λ_ e=>nomatch e⟩
 |ref p =>
  cases r;rcases ty with⟨rfl,xs,hq⟩|⟨rfl,o,hk,hc,hd⟩|⟨rfl,hk⟩|⟨rfl,S,n,hk⟩
  .obtain⟨de,_,pl,_⟩:=I.list hq;refine⟨pl.isList.typeIs,λa e=>?_⟩;cases e;obtain⟨o,n,e,c,hd,_⟩:=pl;exact⟨o,e,hd⟩
  .refine⟨⟨o,I.kIn p o hk,hc⟩,λa e=>?_⟩;cases e;exact⟨o,I.kIn _ o hk,hd⟩
  .have z:∃o,s.heap.get? p=some o/\o.ExactDict:=by
    rcases hk with⟨ab,hk⟩|⟨ab,hk⟩
    .obtain⟨_,_,_,_,o,_,_,e,ex,_⟩:=I.hok p _ hk;exact⟨o,e,ex⟩
    .obtain⟨_,_,_,_,o,_,_,e,ex,_⟩:=I.hok p _ hk;exact⟨o,e,ex⟩
   obtain⟨o,e,ex⟩:=z;refine⟨⟨o,e,ex.1⟩,λa e2=>?_⟩;cases e2;exact⟨o,e,ex.2.1⟩
  .obtain⟨o,_,_,_,e,ex,_⟩:=I.hok p _ hk;refine⟨⟨o,e,ex.1⟩,λa e2=>?_⟩;cases e2;exact⟨o,e,ex.2.1⟩
 |_=>exact Wf ty
abbrev Jv(K:Fg)(T:String)(r:V->List V->Hp->VK->Prop)(to:TE):TE:=λσ H Q=>to σ H λx H1=>HH K T x H1/\r x [] H1 Q
abbrev dJ(K:Fg)(T:String)(r:V->List V->Hp->VK->Prop)(to:TE)(t:TA):TE:=λσ H Q=>to σ H λx H1=>HH K T x H1/\t σ H1 λxs H2=>r x xs H2 Q
variable{o e:Expr}{es:List Expr}{to:TE}{t:TA}{name:Str}{apos cpos:Pos}{T id:String}{r:V->List V->Hp->VK->Prop}
def NL(pa:PlainAttrs T) (slot:Slot T name id) (hty:typeOf (.builtin id)=pure (.type "method_descriptor")) (hm:RO X id r) (ho:PE X o to)
  (hbase:attributeBase o name X.env (eval o X.env)=eval o X.env:=by rfl) (hline:(apos.endLine == cpos.line)=true:=by rfl):PE X (.Call (.Attribute o name apos) [] [] cpos) (Jv X.K T r to):=by
 intro G s σ H Q I h;refine wpAny_Call_method0_late hbase hline (a_ (ho G s σ H _ I h) λv s1 ω=>?_);obtain⟨x,H1,I1,r1,ty,q1⟩:=ω;obtain⟨h1,h2⟩:=HG I1 r1 ty;exact⟨T,id,pa,slot,hty,h1,h2,Xi rfl (PySem.evalArgs_none (hm G s1 σ H1 x [] v [] Q I1 r1 .nil q1))⟩
def Gx(pa:PlainAttrs T) (slot:Slot T name id) (hty:typeOf (.builtin id)=pure (.type "method_descriptor")) (hm:RO X id r) (ho:PE X o to) (ha:PA X (e :: es) t)
  (hbase:attributeBase o name X.env (eval o X.env)=eval o X.env:=by rfl)
  (hfew:((backTo cpos (starEach (e :: es) X.env)).all (λx=>!x.1) && (backToKw cpos (keywordEach [] X.env)).all (λx=>x.1.isSome)
   && decide ((e :: es).length+([]:List ZbD).length+(if ([]:List ZbD).isEmpty then 0 else 1)<30))=true:=by rfl)
  (hline:(apos.endLine == cpos.line)=true:=by rfl) (hs:starEach (e :: es) X.env=(false,eval e X.env) :: starEach es X.env:=by rfl) (hplain:(backTo cpos (starEach es X.env)).any (·.1)=false:=by rfl) :
  PE X (.Call (.Attribute o name apos) (e :: es) [] cpos) (dJ X.K T r to t):=by
 intro G s σ H Q I h;refine wpAny_Call_method_late hbase hfew hline rfl (a_ (ho G s σ H _ I h) λv s1 ω=>?_);obtain⟨x,H1,I1,r1,ty,q1⟩:=ω;obtain⟨h1,h2⟩:=HG I1 r1 ty;refine⟨T,id,pa,slot,hty,h1,h2,?_⟩;have hA:=ha cpos G s1 σ H1 _ I1 q1;rw[hs] at hA ⊢;refine Xi (by show(false || (backTo cpos (starEach es X.env)).any (·.1))=false;rw[hplain] <;> rfl) (ZI ?_);exact a_ hA (by rintro us s2 ⟨vs,H2,I2,r2,q2⟩;exact hm G s2 σ H2 x vs v us Q I2 r1 r2 q2)
end
abbrev Qd(X:Cx)(id:String)(r:V->List V->Hp->VK->Prop):Prop :=
 ∀(G:List (Addr×Obj)) (s:SB) (σ:St) (H:Hp) (x:V) (xs:List V) (v:Su) (us:List Su) (Q:VK),Inv X G σ H s->RelV x v->Vals xs us->r x xs H Q ->
  wpAny (model X.prog X.w) X.A (call (.builtin id) (v :: us)) (EP X G σ Q) X.xe s
def Vals.one:∀{x:V} {us:List Su},Vals [x] us->∃u,us=[u]/\RelV x u
 |_,_,.cons r .nil=>⟨_,rfl,r⟩
def Vals.zero:∀{us:List Su},Vals [] us->us=[]
 |_,.nil=>rfl
def Vals.dropLast(h:Vals xs us):Vals xs.dropLast us.dropLast:=by
 induction h with
 |nil=>exact .nil
 |cons r t ih =>
  cases t with
  |nil=>exact .nil
  |cons q t'=>exact .cons r ih
def Vals.eraseIdx:∀{xs:List V} {us:List Su} (i:Nat),Vals xs us->Vals (xs.eraseIdx i) (us.eraseIdx i)
 |_,_,_,.nil=>.nil
 |_,_,0,.cons _ t=>t
 |_,_,i+1,.cons r t=>.cons r (Vals.eraseIdx i t)
def Vals.rep{xs:List V}{us:List Su}(h:Vals xs us):∀k:Nat,Vals (SR k xs).flatten (SR k us).flatten
 |0=>.nil
 |k+1=>by
  rw[V4,V4,Xj,Xj];exact Vals.append h (Vals.rep h k)
def y9{α:Type}(l:List α):l.eraseIdx (UD l-1)=l.dropLast:=by
 induction l with
 |nil=>rfl
 |cons a r ih =>
  cases r with
  |nil=>rfl
  |cons b r =>
   have e:(a :: b :: r).length-1=((b :: r).length-1)+1:=by
    have h1:(a :: b :: r).length=UD r+2:=rfl;have h2:(b :: r).length=UD r+1:=rfl;lia
   rw[e,List.eraseIdx_cons_succ,ih]
   all_goals rfl
def rZ{α:Type}:∀(l:List α) (i:Nat),(l.eraseIdx i).length<=UD l
 |[],_=>Sx _
 |_ :: _,0=>XQ _
 |_ :: r,i+1=>WH (rZ r i)
def foldl_rep(de:List Su):∀(k:Nat) (acc:List Su),
  ZbL (λx1 x2=>x1++x2) acc.toArray (SR k de.toArray)=(acc++(SR k de).flatten).toArray
 |0,acc=>by simp
 |k+1,acc=>by
  have e:acc.toArray++de.toArray=(acc++de).toArray:=by simp
  have e2:(acc++de)++(SR k de).flatten=acc++(SR (k+1) de).flatten:=by
   rw[V4,Xj,Ur]
  rw[<- e2,<- foldl_rep de k (acc++de),<- e,V4,WX]
section
variable{X:Cx}{G:List (Addr×Obj)}{σ:St}{H:Hp}{s:SB}{l b:Addr}{xs ys zs:List V}
def Inv.lset{de its':List Su}{f:Array Su->Array Su}{t':Nat}(I:Inv X G σ H s)(hH:H l=some (.lst xs))
  (e:s.heap.get? l=some {cls:=.type "list",data:=.seq de.toArray n}) (hf:f de.toArray=its'.toArray) (hv:Vals ys its') (hz:UD ys<=sizeLine) :
  Inv X G σ (upd H l (.lst ys)) {s with heap:=s.heap.update l (WZ f),toks:=t'}:=by
 have q:=PySem.IsL.update e f;rw[hf] at q;refine I.write (x:=l) (e:=l) (by rw[hH];exact trivial) (.inl rfl) (λb' u hb hu=>(Zj s.heap (WZ f) (YG hb)).trans hu) ⟨_,q⟩ ?_;exact⟨hz,its',_,hv,q⟩
def Inv.lnew{t':Nat}(I:Inv X G σ H s)(hv:Vals ys de)(hz:UD ys<=sizeLine) :
  Inv X G σ (upd H s.heap.objs.size (.lst ys)) {s with heap:=s.heap.push {cls:=.type "list",data:=.seq de.toArray},toks:=t'} :=
 I.laid (λ_ _ q=>Sy _ q) (Sx _) ⟨hz,de,0,hv,Th _ rfl⟩
def Inv.fresh(I:Inv X G σ H s):H s.heap.objs.size=none:=I.hok.fresh (Sx _)
def Inv.lstM(I:Inv X G σ H s) (hH:H l=some (.lst xs)):UD xs<=sizeLine/\∃(de:List Su) (n:Nat),Vals xs de/\xs.length=de.length/\s.heap.get? l=some {cls:=.type "list",data:=.seq de.toArray n}:=by
 obtain⟨z,de,n,r,e⟩:=I.hok l _ hH;exact⟨z,de,n,r,r.length,e⟩
def wT{n:Nat}(h:n<=sizeLine):V1 n=false:=by
 unfold V1;exact decide_eq_false ∅
end
section
variable{X:Cx}
abbrev aJ:V->List V->Hp->VK->Prop:=λx vs H Q=>∃l xs y,x=.ref l/\vs=[y]/\H l=some (.lst xs)/\xs.length<sizeLine/\Q .non (upd H l (.lst (xs++[y])))
def rT:Qd X "list.append" aJ:=by
 intro G s σ H x vs v us Q I rx rv h;obtain⟨l,xs,y,rfl,rfl,hH,hz,q⟩:=h;cases rx;obtain⟨u,rfl,ru⟩:=rv.one;obtain⟨z,de,n,r,hl,e⟩:=I.lstM hH;refine XA F.slot_list_append ⟨_,e,rfl⟩ F.entry_list_append (F.args_list_append_2 _ _) (PySem.list_append l de.toArray n u (by rw[SZ];lia)) ⟨e,?_⟩;refine⟨.non,_,I.lset (its':=de++[u]) hH e (by simp) (r.append (.cons ru .nil)) ?_,rfl,q⟩;rw[SC,Vj];lia
abbrev eV:V->List V->Hp->VK->Prop:=λx vs H Q=>∃l b xs zs,x=.ref l/\vs=[.ref b]/\H l=some (.lst xs)/\H b=some (.lst zs)/\xs.length+zs.length<=sizeLine/\Q .non (upd H l (.lst (xs++zs)))
def CI:Qd X "list.extend" eV:=by
 intro G s σ H x vs v us Q I rx rv h;obtain⟨l,b,xs,zs,rfl,rfl,hH,hB,hz,q⟩:=h;cases rx;obtain⟨u,rfl,ru⟩:=rv.one;cases ru;obtain⟨z,de,n,r,hl,e⟩:=I.lstM hH;obtain⟨z2,its2,n2,r2,hl2,e2⟩:=I.lstM hB;have hsz:de.toArray.size+its2.toArray.size<=sizeLine:=by rw[SZ,SZ];lia
 have hlong : ¬ (!de.toArray.isEmpty && V1 (de.toArray.size+its2.toArray.size))=true:=by
  rw[wT hsz,Bool.and_false];exact SX
 refine XA F.slot_list_extend ⟨_,e,rfl⟩ F.entry_list_extend (F.args_list_extend_2 _ _)
  (AutoSeq1.list_extend_list_list_0 l de.toArray n b its2.toArray n2 hlong (by rw[SZ];lia) ∅) ⟨e,e2,?_⟩
 refine⟨.non,_,I.lset (its':=de++its2) hH e (by simp) (r.append r2) ?_,rfl,q⟩;rw[SC];lia
abbrev Kk:V->List V->Hp->VK->Prop:=λx vs H Q=>∃l xs y,x=.ref l/\vs=[]/\H l=some (.lst xs)/\xs[UD xs-1]?=some y/\Q y (upd H l (.lst xs.dropLast))
def N_:Qd X "list.pop" Kk:=by
 intro G s σ H x vs v us Q I rx rv h;obtain⟨l,xs,y,rfl,rfl,hH,hy,q⟩:=h;cases rx;have hus:=rv.zero;subst hus;obtain⟨z,de,n,r,hl,e⟩:=I.lstM hH;obtain⟨u,hu,ru⟩:=r.get hy
 have hy':de.toArray[de.toArray.size-1]?=some u:=by
  show de.toArray[UD de-1]?=some u;rw[<- Ts,<- hl];exact hu
 refine XA F.slot_list_pop ⟨_,e,rfl⟩ Za9 (F.args_list_pop_1 _) (MeetsSeq.list_pop_last l de.toArray n u hy' (by rw[SZ];lia)) ⟨e,?_⟩;refine⟨y,_,I.lset (its':=de.dropLast) hH e ?_ r.dropLast ?_,ru,q⟩
 .show de.toArray.eraseIdxIfInBounds (de.toArray.size-1)=de.dropLast.toArray;rw[SZ,Xu,y9]
 .rw[List.length_dropLast];lia
abbrev BM:V->List V->Hp->VK->Prop:=λx vs H Q=>∃l xs i k y,x=.ref l/\vs=[.int i]/\H l=some (.lst xs)/\-(2 ^ 63)<=i/\i<2 ^ 63/\seqIndex? i (UD xs)=some k/\xs[k]?=some y/\Q y (upd H l (.lst (xs.eraseIdx k)))
def GI:Qd X "list.pop" BM:=by
 intro G s σ H x vs v us Q I rx rv h;obtain⟨l,xs,i,k,y,rfl,rfl,hH,h1,h2,hk,hy,q⟩:=h;cases rx;obtain⟨u,rfl,ru⟩:=rv.one;obtain⟨t,rfl⟩:=ru;obtain⟨z,de,n,r,hl,e⟩:=I.lstM hH;obtain⟨w,hw,rw'⟩:=r.get hy
 refine XA F.slot_list_pop ⟨_,e,rfl⟩ Za9 (F.args_list_pop_2 _ _)
  (MeetsSeq.list_pop_at l de.toArray n i t k w (fitsIndex_both h1 h2) (by rw[SZ,<- hl];exact hk) (by rw[<- Ts];exact hw) (by rw[SZ];lia)) ⟨e,?_⟩
 refine⟨y,_,I.lset (its':=de.eraseIdx k) hH e ?_ (r.eraseIdx k) ?_,rw',q⟩
 .show de.toArray.eraseIdxIfInBounds k=(de.eraseIdx k).toArray;rw[Xu]
 .have:=rZ xs k
  lia
abbrev lT:R2:=λx y H Q=>∃l b xs zs,x=.ref l/\y=.ref b/\H l=some (.lst xs)/\H b=some (.lst zs)/\xs.length+zs.length<=sizeLine/\∀p,H p=none->Q (.ref p) (upd H p (.lst (xs++zs)))
def N1:fe X (binaryOp .Add) lT:=by
 intro G s σ H x y v u Q I rx ry h;obtain⟨l,b,xs,zs,rfl,rfl,hH,hB,hz,q⟩:=h;cases rx;cases ry;obtain⟨z,de,n,r,hl,e⟩:=I.lstM hH;obtain⟨z2,its2,n2,r2,hl2,e2⟩:=I.lstM hB;refine PySem.P.add_list e e2 ?_ (by rw[SZ,SZ];lia);have ea:de.toArray++its2.toArray=(de++its2).toArray:=by simp
 rw[ea];exact⟨.ref _,_,I.lnew (t':=s.toks) (r.append r2) (by rw[SC];lia),rfl,q _ I.fresh⟩
abbrev BL:R2:=λx y H Q=>∃l k xs,x=.ref l/\y=.int k/\H l=some (.lst xs)/\-(2 ^ 63)<=k/\k<2 ^ 63/\xs.length*k.toNat<=sizeLine /\
 ∀p,H p=none->Q (.ref p) (upd H p (.lst (SR k.toNat xs).flatten))
def GO{α:Type}(xs:List α)(k:Nat):(SR k xs).flatten.length=k*UD xs:=by
 induction k with
 |zero=>simp
 |succ k ih=>rw[V4,Xj,SC,ih,WI,ZaE]
def NS:fe X (binaryOp .Mult) BL:=by
 intro G s σ H x y v u Q I rx ry h;obtain⟨l,k,xs,rfl,rfl,hH,h1,h2,hz,q⟩:=h;cases rx;obtain⟨t,rfl⟩:=ry;obtain⟨z,de,n,r,hl,e⟩:=I.lstM hH;have hlen:de.toArray.size*k.toNat<=sizeLine:=by rw[SZ,<- hl];exact hz
 have hcap : ¬ de.toArray.size*k.toNat > (2 ^ 63-1) / 8:=by
  have:(sizeLine:Nat)<=(2 ^ 63-1) / 8:=by decide
  lia
 have hfit : ¬ (!Builtin.List.listFitsIndex k)=true:=by
  rw[fitsIndex_both h1 h2];exact SX
 have hlong : ¬ V1 (de.toArray.size*k.toNat)=true:=by
  rw[wT hlen];exact SX
 have hnew:ZbL (λx1 x2=>x1++x2) #[] (SR (if de.toArray.isEmpty=true then 0 else k.toNat) de.toArray)=(SR k.toNat de).flatten.toArray:=by
  have f0:∀m:Nat,ZbL (λx1 x2=>x1++x2) #[] (SR m de.toArray)=(SR m de).flatten.toArray:=λm=>by
   have:=foldl_rep de m []
   rw[Wl] at this;exact this
  rw[f0];cases de with
  |nil=>simp
  |cons a r'=>rw[if_neg (by simp)]
 refine wpAny_binaryOp_repeat_ref (T:="list") (U:="int") (by decide) ⟨_,e,rfl⟩ (λs'=>typeIs_int s' k t) noFill_list_mul F.fills_int_mul F.slot_int_rmul repeat_list F.slot_int_index.lookup
  (XA F.slot_int_rmul (typeIs_int s k t) F.entry_int_rmul (F.args_int_rmul_2 _ _) (int___rmul___int_list k t l de.toArray n)
   ⟨e,rfl,⟨_,e,rfl⟩,XA F.slot_list_mul ⟨_,e,rfl⟩ F.entry_list_mul (F.args_list_mul_2 _ _) (AutoListH.list___mul___list_int_3 l de.toArray n k t hfit hcap hlong) ⟨e,?_⟩⟩)
 rw[hnew];exact⟨.ref _,_,I.lnew (t':=s.toks) (r.rep k.toNat) (by rw[GO,UE];exact hz),rfl,q _ I.fresh⟩
end
end L2
namespace Att
open PySem PySem.W PySem.Calls PyProof.Rows
def kF:∀(ns:List Int) (vs:List Su),WellAll P h vs (ns.map WData.int)->Wh vs ns:=by
 intro ns
 induction ns with
 |nil =>
  intro vs w;rw[X_] at w;cases w;exact .nil
 |cons n ns ih =>
  intro vs w;rw[TM] at w;cases w with
  |cons a b =>
   cases a;exact .cons _ _ (ih _ b)
def Bh{l:OpenLaw}{n:Nat}(hn:l.most=some n)
  (hpre:l.row.toRowW.claim.pre args=true) (hwl:WellAll P h vals args) :
  ∃a vs ns,vals=[TU a]/\args=[WData.list (ns.map WData.int)]/\h.get? a=some {cls:=.type "list",data:=.seq vs.toArray}/\Wh vs ns/\ns.length<=n:=by
 have hsh:WShape.hasAll [] args [.list .int]=true:=(pre_splitW hpre).1;have hc:l.pre.holds [] {args:=args}=true:=(pre_splitW hpre).2;obtain⟨d,r,rfl,h1,h2⟩:=hasAllW_cons hsh;obtain rfl:=hasAllW_nil h2;obtain⟨xs,rfl,h3⟩:=hasW_list h1;obtain⟨ns,rfl⟩:=items_int h3
 have hlen:UD ns<=n:=by
  unfold OpenLaw.pre at hc
  have h4:(WTm.not (.lt (.lit (.int (n:Int))) (.len (.arg 0)))).holds [] {args:=[.list (ns.map .int)]}=true:=by
   have h4:=(holds_andW hc).1;rw[hn] at h4;exact h4
  have h5:=condW_of h4 (w_not (w_lt w_lit (w_len_list (w_arg rfl))));rw[Si] at h5;refine Nat.le_of_not_lt λq=>?_
  have q':(n:Int)<((ns.length:Nat):Int):=by lia
  first
   |(rw[decide_eq_true q'] at h5;exact absurd h5 (by decide))
   |(simp at h5;omega)
 cases hwl with
 |cons w1 w2 =>
  cases w2;cases w1 with
  |list ho hall=>exact⟨_,_,ns,rfl,rfl,ho,kF ns _ hall,hlen⟩
def B1(l:OpenLaw)(args:List WData):l.row.toRowW.claim.post args (.bool true) args=true :=
 postW_of (r:=l.row.toRowW) (X:=(true == true))
  (show WShape.has [] (.bool true) .bool=true by first|rfl|decide|simp[WShape.has,WShape.arms,WShape.armsAll])
  (show(WTm.eq .res (.lit (.bool true))).value [] {args:=args,res:=some (.bool true),after:=args}=some (.bool (true == true)) from w_eq_bool (w_res rfl) w_lit) rfl
def vV{l:OpenLaw}{n:Nat}{XP:(Str->Option Su)->Heap->Prop}{YP:Ub->Heap->Prop}{d:DefRec}
  (hn:l.most=some n) (hdf:d.params.defaults=[])
  (call:∀(w:Ub) (s₀ s₁:SB) (mg mb:Str->Option Su) (fa:Addr) (o:Obj) (pm cd doc:Su) (a:Addr) (vs:List Su) (ns:List Int),
   Ground q loose [] XP w s₀ mg mb s₁.heap->YP w s₁.heap ->
   s₁.heap.get? fa=some o->o.data=.func (docDef d.name d.params d.body d.scope pm cd doc)->s₁.heap.CodeRec cd d.name->mg d.name=⇑fa ->
   s₁.heap.get? a=some {cls:=.type "list",data:=.seq vs.toArray}->Wh vs ns->UD ns<=n->s₁.gens = #[] ->
   codeAny (model l.prog w) callerA (.call (.ref fa) ⟨[.ref a],[]⟩) (λr s'=>r=.ok (.ret (.bool true))/\OldK s₁.heap s'.heap/\s'.os=s₁.os/\YF s'.gens) s₁) :
  WalkO q loose XP YP l.row.toRowW d [] (λf vs=>Zal f vs):=by
 intro w s₀ s₁ mg mb G Y fa o pm cd doc dV kV ho hd hcd hD hmg hg args vals as hpre hlay hrd hwl hlo;obtain rfl:dV=.none:=Dflts.none hD hdf;obtain rfl:kV=.none:=Dflts.noKw hD;obtain⟨a,vs,ns,rfl,rfl,hobj,hints,hlen⟩:=Bh hn hpre hwl;refine enter_call (X9 (call w s₀ s₁ mg mb fa o pm cd doc a vs ns G Y ho (fd_plain hd) hcd hmg hobj hints hlen hg) λr s' hq=>?_);obtain⟨rfl,h2,h3,h4⟩:=hq;exact⟨.inl ⟨.bool true,.bool true,[],rfl,λ_=>rfl,.bool true,B1 l _,λ_=>⟨ZaF,λ_ hm=>(nomatch hm)⟩⟩,h2,h3,h4⟩
end Att
namespace L2
open PySem PySem.Spec PyProof.Rows
def qq:∀{vs:List Su} {ns:List Int},Wh vs ns->Vals (ns.map V.int) vs
 |_,_,.nil=>.nil
 |_,_,.cons n t h=>.cons ⟨t,rfl⟩ (qq h)
abbrev Ma(H:Hp):Prop:=∀b,H b=none\/∃o xs,H b=some (.frz o (.lst xs))
def GP{K:Fg}{CX:sY}{a:Addr}{x:Str}{sp:Sp}{s₁:SB}{vs:List Su}
  (KX:K.In s₁.heap) (hns:s₁.heap.Ns mainGlobals mg) (hb:s₁.heap.Ns builtinsNs mb) (hbb:∀x:Str,x≠"__name__"->mb x=bootBuiltins x) (hlim:s₁.heap.NoLimit) (hg:s₁.gens = #[])
  (ha:s₁.heap.get? a=some {cls:=.type "list",data:=.seq vs.toArray}) (hi:Wh vs ns) (hl:UD ns<=sizeLine) (hr:Room k callerA)
  (F:∀base:Heap,K.In base->base.Ns mainGlobals mg->FnOk P w K mg base CX k fa fd [x] sp) (hbind:∀(s:SB) (u:Su),ZaC s fd ⟨[u],[]⟩ [(x,u)])
  (hsp:∀H:Hp,Ma H->SqL K H a (ns.map V.int)->sp [.ref a] H (λv _=>v=.bl true) λ_ _ _=>False)
  (hCX:∀H e s',CX [] H s₁ (λ_ _ _=>False) e s'->False) :
  codeAny (model P w) callerA (.call (.ref fa) ⟨[.ref a],[]⟩) (λr s'=>r=.ok (.ret (.bool true))/\OldK s₁.heap s'.heap/\s'.os=s₁.os/\YF s'.gens) s₁:=by
 have rv:=qq hi;have lenV:=hi.length
 have core:∀H:Hp,Ma H->SqL K H a (ns.map V.int)->HOk P w H s₁.heap->(∀b,H b≠none->b=a)->(H a≠none->K.lookup a=none) ->
   codeAny (model P w) callerA (.call (.ref fa) ⟨[.ref a],[]⟩) (λr s'=>r=.ok (.ret (.bool true))/\OldK s₁.heap s'.heap/\s'.os=s₁.os/\YF s'.gens) s₁:=by
  intro H hO hS hok hA hK;have base_of:∀{b:Addr} {o:Obj},s₁.heap.get? b=some o->H b=none->(pO s₁.heap H).get? b=some o:=λe n=>G5 e n
  have noA:∀{b:Addr} {o:Obj} {es:Array Yg} {ep:Nat},s₁.heap.get? b=some o->o.data=.dict es ep->H b=none:=λ{b o es ep} e d=>by
   cases q:H b with
   |none=>rfl
   |some u =>
    have e':b=a:=hA b (by rw[q];simp);subst e';rw[ha] at e;cases e;have d':Zb8 vs.toArray _=Data.dict es ep:=d;cases d'
  have nsK:∀{b:Addr} {m:Str->Option Su},s₁.heap.Ns b m->(pO s₁.heap H).Ns b m:=λ{b m} ⟨o,es,ep,e,d,r⟩=>⟨o,es,ep,base_of e (noA e d),d,r⟩
  have hKb:K.In (pO s₁.heap H):=λb o e=>base_of (KX b o e) (by
   cases q:H b with
   |none=>rfl
   |some u =>
    have e':b=a:=hA b (by rw[q];simp)
    subst e'
    rw[hK (by rw[q];simp)] at e;cases e)
  have hM:Mod K mg (pO s₁.heap H):=⟨hKb,nsK hns,⟨mb,nsK hb,hbb⟩,let ⟨mc,h1,h2⟩:=hlim;⟨mc,nsK h1,h2⟩⟩
  have e0:HC P w K mg (pO s₁.heap H) callerA [] s₁ H:=⟨rfl,hM,λb o e=>K9 e,ZaG (Dy _ _),trivial,λb hb=>absurd (show b∈([]:List Addr) from hb) (by simp),hok,.of_eq hg⟩
  refine X9 ((F _ hKb (nsK hns)).run callerA [] s₁ H ⟨[.ref a],[]⟩ [.ref a] [.ref a] _ _ hr e0 (hbind s₁ (.ref a)) (.cons rfl .nil) (hsp H hO hS)) λr s' h=>?_
  cases r with
  |error e=>exact(hCX H e s' h).elim
  |ok fl =>
   cases fl with
   |next=>exact Wf h
   |brk=>exact Wf h
   |cont=>exact Wf h
   |ret u =>
    obtain⟨v,H',os,bare,un,hok',r',q⟩:=h;have q':v=.bl true:=q;subst q';obtain rfl:u=Ze true:=r';refine⟨rfl,OldK.of_keep λb o e=>?_,os,bare⟩;cases q:H b with
    |none=>exact un.keep b o e q (by intro z;exact absurd (show b∈([]:List Addr) from z) (by simp)) (by simp)
    |some u =>
     rcases hO b with z|⟨ob,xs,z⟩
     .rw[q] at z;cases z
     .have z2:=un.frzs b ob _ z;obtain⟨e1,_⟩:=hok b _ z;obtain⟨e2,_⟩:=hok' b _ z2;rw[e] at e1;cases e1;exact e2
 cases hk:K.lookup a with
 |some o =>
  have e:=KX a o hk;rw[ha] at e;cases e;refine core (λ_=>none) (λ_=>.inl rfl) (.inr ⟨_,vs.toArray,_,hk,rfl,rfl,rfl,by rw[SZ,lenV];exact hl,by simpa using rv⟩) (λb u z=>by have z':(none:Option HO)=some u:=z;cases z') (λb z=>absurd rfl z) λz=>absurd rfl z
 |none =>
  refine core (λb=>if b=a then some (.frz {cls:=.type "list",data:=.seq vs.toArray} (.lst (ns.map V.int))) else none) (λb=>?_) (.inl (.inr ⟨{cls:=.type "list",data:=.seq vs.toArray},if_pos rfl⟩)) (λb u z=>?_) (λb z=>?_) λ_=>hk
  .by_cases hb:b=a
   .exact .inr ⟨_,_,if_pos hb⟩
   .exact .inl (if_neg hb)
  .by_cases hb:b=a
   .have z':=(if_pos hb).symm.trans z;cases z';subst hb;exact⟨ha,by rw[Si];exact hl,vs,_,rv,ha⟩
   .have z':=(if_neg hb).symm.trans z;cases z'
  .by_cases hb:b=a
   .exact hb
   .exact absurd (if_neg hb) z
def Jg{l:Zbt}{n:Nat}{XP:(Str->Option Su)->Heap->Prop}{YP:Ub->Heap->Prop}{d:DefRec}{K:Params->Zax}{CX:Ub->sY}{sp:Ub->Sp}{x:Str}
  (hn:l.most=some n) (hn2:n<=sizeLine) (hdf:d.params.defaults=[]) (hr:Room k callerA)
  (hY:∀(w:Ub) (h:Heap),YP w h->(K w.params).In h)
  (F:∀(w:Ub) (mg:Str->Option Su) (fa:Addr) (h:Heap),(K w.params).In h->h.Ns mainGlobals mg->mg d.name=⇑fa ->
   ∃fd:VI,(∀(s:SB) (u:Su),ZaC s fd ⟨[u],[]⟩ [(x,u)]) /\
    ∀base:Heap,(K w.params).In base->base.Ns mainGlobals mg->FnOk l.prog w (K w.params) mg base (CX w) k fa fd [x] (sp w))
  (hsp:∀(w:Ub) (H:Hp) (a:Addr) (ns:List Int),UD ns<=n->Ma H->SqL (K w.params) H a (ns.map V.int)->sp w [.ref a] H (λv _=>v=.bl true) λ_ _ _=>False)
  (hCX:∀(w:Ub) (H:Hp) (s:SB) (e:Su) (s':SB),CX w [] H s (λ_ _ _=>False) e s'->False) :
  Z_ q loose XP YP l.row.toRowW d [] (λf vs=>Zal f vs):=by
 refine Att.vV hn hdf λw s₀ s₁ mg mb fa o pm cd doc a vs ns G Y ho hd hcd hmg hobj hints hlen hg=>?_
 have KX:=hY w _ Y;obtain⟨fd,hb,hF⟩:=F w mg fa _ KX G.T.g hmg;exact GP KX G.T.g G.T.b G.T.builtins G.T.nolimit hg hobj hints (Ta hlen hn2) hr hF hb (λH hO hS=>hsp w H a ns hlen hO hS) λH e s'=>hCX w H s₁ e s'
abbrev du(s:Stmt):Arguments:=match s with
 |.FunctionDef _ a _ _ _ _ _ _ _ _=>a
 |_=>{posonlyargs:=[],args:=[],vararg:=none,kwonlyargs:=[],kw_defaults:=[],kwarg:=none,defaults:=[]}
abbrev cF(s:Stmt):List Stmt:=match s with
 |.FunctionDef _ _ b _ _ _ _ _ _ _=>b
 |_=>[]
abbrev aj(s:Stmt):Scope:=match s with
 |.FunctionDef _ _ _ _ _ _ sc _ _ _=>sc
 |_=>{kind:=.function,names:=[],isGenerator:=false,isCoroutine:=false}
nonrec def ba:sY:=λ_ _ _ _ _ _=>False
nonrec def E0:XK:=λ_ _ _=>False
def QC:qh ba X E0:=λ_ _ _ _ _ _ _ h=>h.elim
structure Fun (K:Fg) (x qual:Str) (st:Stmt) (f:Addr) (fd:VI):Prop where
 ex:∃(oc:Su) (od:Option Addr) (kV doc pm:Su) (an:Option Addr) (cdv ct:Su) (osl:Array (Option Su)),
  fd=Vc x qual (du st) (cF st) (aj st) .none kV doc pm an cdv ct/\K.lookup f=some ⟨oc,od,.func fd,osl⟩/\Wy K cdv qual=true
 kp:V6 K (.ref f)=true
section
variable{P:TK}{w:Ub}{K:Fg}{mg:Str->Option Su}{base:Heap}
def Fun.ok{st:Stmt}{sp:Sp}(F:Fun K x qual st f fd)(S:au N ps (aj st))(len:∀vs H Q E,sp vs H Q E->UD vs=UD ps)
  (hbody:∀(cdv:Su) (A:Uc) (outer:List Env) (s:SB) (H:Hp) (vs:List V) (Q:VK) (E:XK),Room k (A.deeper (envOfC qual (aj st) s.heap.objs.size f cdv))->sp vs H Q E ->
   ∃t,PSs (pZ ba P w K mg base N qual (aj st) f cdv A outer s H E).nox (cF st) t/\t {nx:=λ_ H'=>Q .non H',rt:=Q} (start N vs) H):FnOk P w K mg base ba (k+1) f fd ps sp:=by
 obtain⟨oc,od,kV,doc,pm,an,cdv,ct,osl,rfl,lk,hcd⟩:=F.ex;refine RB lk hcd S len λA outer s H vs Q E hr hsp=>?_
 obtain⟨t,h,q⟩:=hbody cdv A outer s H vs Q E hr hsp;exact⟨t,h.nox,q⟩
def Fun.binds{st:Stmt}{ps:List Str}(F:Fun K x qual st f fd)
  (h:∀(kV doc pm:Su) (an:Option Addr) (cdv ct:Su) (us:List Su),UD us=UD ps->bindArgs (Vc x qual (du st) (cF st) (aj st) .none kV doc pm an cdv ct) ⟨us,[]⟩=pure (ps.zip us)):Binds K fd ps []:=by
 obtain⟨oc,od,kV,doc,pm,an,cdv,ct,osl,rfl,lk,hcd⟩:=F.ex;exact .all (h kV doc pm an cdv ct)
def ID{st:Stmt}{oc:Su}{od:Option Addr}{osl:Array (Option Su)}{kV:Su}(l:K.lookup f=some ⟨oc,od,.func (Vc x qual (du st) (cF st) (aj st) .none kV doc pm an cdv ct),osl⟩)
  (c:Wy K cdv qual=true) (k:V6 K (.ref f)=true):Fun K x qual st f (Vc x qual (du st) (cF st) (aj st) .none kV doc pm an cdv ct):=⟨⟨oc,od,kV,doc,pm,an,cdv,ct,osl,rfl,l,c⟩,k⟩
end
def Rt(hr:Room k A):A.units+1<cLine:=Tk (Z5 (by decide:1<=64) _) hr.units
def am{n:Nat}(h:n<=1000):n<sizeLine:=Tk h (by decide)
section
variable{X:Cx}
def pv(i:Nat) {x:Str}  (hN:X.N[i]?=some x:=by rfl) (hv:P7 X.env.scope x:=by first|exact Or.inl rfl|exact Or.inr (Or.inl rfl)|exact Or.inr (Or.inr rfl)) (hd:(x == ("__debug__":Str))=false:=by decide)
  (hcd:(x == ("__classdict__":Str))=false:=by decide):PE X (.Name x pos) (aa i):=Nz hN hv hd hcd
end
def Dm{A B:Prop}(h:B):if false=true then A else B:=by
 rw[if_neg SX];exact h
def y6{A B:Prop}(h:A):if true=true then A else B:=by
 rw[if_pos rfl];exact h
abbrev Same(H H':Hp):Prop:=∀b o,H b=some o->H' b=some o
def Same.refl(H:Hp):Same H H:=λ_ _ h=>h
def Same.trans(a:Same H H1)(b:Same H1 H2):Same H H2:=λc o h=>b c o (a c o h)
def Same.free(e:Same H H')(h:H' l=Option.none):H l=Option.none:=by
 cases q:H l with
 |none=>rfl
 |some o =>
  rw[e l o q] at h;cases h
def Same.seq{K:Fg}(e:Same H H')(h:SqL K H a xs):SqL K H' a xs:=by
 rcases h with(h|⟨o,h⟩)|h
 .exact .inl (.inl (e _ _ h))
 .exact .inl (.inr ⟨o,e _ _ h⟩)
 .exact .inr h
section
variable{κ:Type}[DecidableEq κ]
abbrev bJ(ab:List (κ×V))(k:κ):Option V:=(ab.find? λkv=>decide (kv.1=k)).map (·.2)
abbrev cA(ab:List (κ×V))(k:κ)(v:V):List (κ×V) :=
 if (ab.any λkv=>decide (kv.1=k))=true then ab.map (λkv=>if kv.1=k then (kv.1,v) else kv) else ab++[(k,v)]
def wk{k:κ}:bJ ([]:List (κ×V)) k=none:=rfl
def bB{p:κ×V}{r:List (κ×V)}{k:κ}(e:p.1=k):bJ (p :: r) k=some p.2:=by simp[bJ,Vi,e]
def bp{p:κ×V}{r:List (κ×V)}{k:κ}(e : ¬ p.1=k):bJ (p :: r) k=bJ r k:=by simp[bJ,Vi,e]
def fC(k:κ):∀ab:List (κ×V),(ab.any λkv=>decide (kv.1=k))=(bJ ab k).isSome
 |[]=>rfl
 |p :: r=>by
  rw[WV];by_cases e:p.1=k
  .simp only[bB e,decide_eq_true e,Bool.true_or,Option.isSome_some]
  .rw[bp e,decide_eq_false e,ZbX];exact fC k r
def wm(k j:κ)(y:V):∀ab:List (κ×V),bJ (ab.map λkv=>if kv.1=k then (kv.1,y) else kv) j=(bJ ab j).map λx=>if j=k then y else x
 |[]=>rfl
 |p :: r=>by
  have ih:=wm k j y r;rw[TM];by_cases h:p.1=k
  .rw[if_pos h];by_cases e:p.1=j
   .rw[bB (p:=(p.1,y)) e,bB e,X1,if_pos (e.symm.trans h)]
   .rw[bp (p:=(p.1,y)) e,bp e,ih]
  .rw[if_neg h];by_cases e:p.1=j
   .rw[bB (p:=p) e,bB e,X1,if_neg (λz=>h (e.trans z))]
   .rw[bp (p:=p) e,bp e,ih]
def qr(k j:κ)(y:V):∀ab:List (κ×V),bJ ab k=none->bJ (ab++[(k,y)]) j=if j=k then some y else bJ ab j
 |[],_=>by
  by_cases e:k=j
  .rw[if_pos e.symm];exact bB (p:=(k,y)) e
  .rw[if_neg (λz=>e z.symm)];exact bp (p:=(k,y)) e
 |p :: r,hn=>by
  rw[YX];have hk : ¬ p.1=k:=λz=>by rw[bB z] at hn;cases hn
  rw[bp hk] at hn;have ih:=qr k j y r hn;by_cases e:p.1=j
  .rw[bB e,bB e,if_neg (λz=>hk (e.trans z))]
  .rw[bp e,bp e,ih]
def nB(ab:List (κ×V))(k j:κ)(y:V):bJ (cA ab k y) j=if j=k then some y else bJ ab j:=by
 unfold cA;by_cases a:(ab.any λkv=>decide (kv.1=k))=true
 .rw[if_pos a,wm];rw[fC] at a;by_cases e:j=k
  .obtain⟨x,hx⟩:=WU.mp a;rw[if_pos e,e,hx,X1,if_pos rfl]
  .rw[if_neg e];cases bJ ab j with
   |none=>rfl
   |some x=>rw[X1,if_neg e]
 .rw[if_neg a];refine qr k j y ab ?_;rw[fC] at a;cases q:bJ ab k with
  |none=>rfl
  |some x=>rw[q] at a;exact(a rfl).elim
def cC(ab:List (κ×V))(k:κ)(v:V):(cA ab k v).length<=UD ab+1:=by
 unfold cA;split
 .rw[Si];lia
 .rw[SC,Tu,WY];lia
def RelO.kE(r:RelO o u):o.isSome=u.isSome:=by
 cases o with
 |none=>cases u with
  |none=>rfl
  |some _=>exact(show False from r).elim
 |some _=>cases u with
  |none=>exact(show False from r).elim
  |some _=>rfl
def RelO.getD(r:RelO o u)(rd:RelV d d'):RelV (o.getD d) (u.getD d'):=by
 cases o with
 |none=>cases u with
  |none=>exact rd
  |some _=>exact(show False from r).elim
 |some _=>cases u with
  |none=>exact(show False from r).elim
  |some _=>exact r
def KV.val{ab:List (κ×V)}{vs:List (κ×Su)}(r:KV ab vs)(k:κ):RelO (bJ ab k) (valueAt vs k):=by
 unfold KV at r
 induction r with
 |nil=>exact V0
 |@cons p q ps qs h t ih =>
  obtain⟨h1,h2⟩:=h;by_cases e:p.1=k
  .have e':q.1=k:=h1.symm.trans e;have b:valueAt (q :: qs) k=some q.2:=by simp[valueAt,Vi,e']
   rw[bB e,b];exact h2
  .have e' : ¬ q.1=k:=λz=>e (h1.trans z)
   have b:valueAt (q :: qs) k=valueAt qs k:=by simp[valueAt,Vi,e']
   rw[bp e,b];exact ih
def KV.any{ab:List (κ×V)}{vs:List (κ×Su)}(r:KV ab vs)(k:κ):(ab.any λkv=>decide (kv.1=k))=vs.any λkv=>decide (kv.1=k):=by
 unfold KV at r
 induction r with
 |nil=>rfl
 |cons h t ih=>rw[WV,WV,ih,h.1]
def KV.repl{ab:List (κ×V)}{vs:List (κ×Su)}(r:KV ab vs)(k:κ)(ry:RelV y u) :
  KV (ab.map λkv=>if kv.1=k then (kv.1,y) else kv) (vs.map λkv=>if kv.1=k then (kv.1,u) else kv):=by
 unfold KV at r ⊢
 induction r with
 |nil=>exact .nil
 |@cons p q ps qs h t ih =>
  rw[TM,TM];refine .cons ?_ ih;obtain⟨h1,h2⟩:=h;by_cases e:p.1=k
  .rw[if_pos e,if_pos (h1.symm.trans e)];exact⟨h1,ry⟩
  .rw[if_neg e,if_neg (λz=>e (h1.trans z))];exact⟨h1,h2⟩
def KV.put{ab:List (κ×V)}{vs:List (κ×Su)}(r:KV ab vs)(k:κ)(ry:RelV y u):KV (cA ab k y) (stored vs k u):=by
 unfold cA stored;rw[r.any k];by_cases e:(vs.any λkv=>decide (kv.1=k))=true
 .rw[if_pos e,if_pos e];exact r.repl k ry
 .rw[if_neg e,if_neg e];exact Paired.snoc r ⟨rfl,ry⟩
def KV.keys{ab:List (κ×V)}{vs:List (κ×Su)}(r:KV ab vs):ab.map (·.1)=vs.map (·.1):=by
 unfold KV at r
 induction r with
 |nil=>rfl
 |cons h t ih=>rw[TM,TM,ih,h.1]
def KV.length{ab:List (κ×V)}{vs:List (κ×Su)}(r:KV ab vs):UD ab=UD vs:=WT r
end
def yZ{k:a9}(r:RelV (kV k) u):(bD P w).is k u=true:=by
 cases k with
 |inl i=>obtain⟨t,e⟩:=(show ∃t,u=WF i t from r);subst e;exact vk P w i t
 |inr x=>obtain⟨t,e⟩:=(show ∃t,u=ZZ x t from r);subst e;exact vj P w x t
def sj{P:TK}{w:Ub}:∀{ks:List a9} {us:List Su},Vals (ks.map kV) us->ItemsAre (bD P w) ks us
 |[],_,r=>by rw[X_] at r;cases r;exact .nil
 |k :: ks,_,r=>by
  rw[TM] at r;cases r with
  |cons h t=>exact .cons (yZ h) (sj t)
nonrec def KT(H:Hp):List (List a9×V)->List (List a9×Addr×Su)->Prop:=Paired λp q=>p.1=q.1/\H q.2.1=some (.tup (p.1.map kV))/\RelV p.2 q.2.2
def KT.val{ab:List (List a9×V)}{xs:List (List a9×Addr×Su)}(r:KT H ab xs)(k:List a9):RelO (bJ ab k) ((atKey xs k).map (·.2)):=by
 induction r with
 |nil=>exact V0
 |@cons p q ps qs h t ih =>
  obtain⟨h1,_,h2⟩:=h;by_cases e:p.1=k
  .have e':q.1=k:=h1.symm.trans e;have b:atKey (q :: qs) k=some q.2:=by simp[atKey,Vi,e']
   rw[bB e,b];exact h2
  .have e' : ¬ q.1=k:=λz=>e (h1.trans z)
   have b:atKey (q :: qs) k=atKey qs k:=by simp[atKey,Vi,e']
   rw[bp e,b];exact ih
def KT.repl{ab:List (List a9×V)}{xs:List (List a9×Addr×Su)}(r:KT H ab xs)(k:List a9)(ry:RelV y u) :
  KT H (ab.map λkv=>if kv.1=k then (kv.1,y) else kv) (xs.map (putAt k u)):=by
 induction r with
 |nil=>exact .nil
 |@cons p q ps qs h t ih =>
  rw[TM,TM];refine .cons ?_ ih;obtain⟨h1,h2,h3⟩:=h;unfold putAt;by_cases e:p.1=k
  .rw[if_pos e,if_pos (h1.symm.trans e)];exact⟨h1,h2,ry⟩
  .rw[if_neg e,if_neg (λz=>e (h1.trans z))];exact⟨h1,h2,h3⟩
def KT.put{ab:List (List a9×V)}{xs:List (List a9×Addr×Su)}(r:KT H ab xs)(k:List a9)(hb:H b=some (.tup (k.map kV)))(ry:RelV y u) :
  KT H (cA ab k y) (storedH xs k b u):=by
 have e:(ab.any λkv=>decide (kv.1=k))=(atKey xs k).isSome:=by
  rw[fC,(r.val k).kE,ZaH]
 unfold cA storedH;rw[e];by_cases q:(atKey xs k).isSome=true
 .rw[if_pos q,if_pos q];exact r.repl k ry
 .rw[if_neg q,if_neg q];exact Paired.snoc r ⟨rfl,hb,ry⟩
def KT.keeps{H':Hp}{ab:List (List a9×V)}{xs:List (List a9×Addr×Su)}(r:KT H ab xs)(ht:∀b ys,H b=some (.tup ys)->H' b=some (.tup ys)):KT H' ab xs :=
 Paired.mapP r λ_ _ z=>⟨z.1,ht _ _ z.2.1,z.2.2⟩
section
variable{P:TK}{w:Ub}{H:Hp}{h:Heap}{a:Addr}
def MV(ok:HOk P w H h)(e:Rd H a u):ca P w H h a u:=e.ok ok
def vJ{ab:List (a9×V)}(ok:HOk P w H h)(e:Rd H a (.dK ab)):UD ab<=sizeLine/\(a == sysModules)=false/\∃vs,KV ab vs/\h.DictOf (bD P w) a vs :=
 show ca P w H h a (.dK ab) from MV ok e
def LW{ab:List (a9×V)}(ok:HOk P w H h)(e:H a=some (.dK ab)):UD ab<=sizeLine/\(a == sysModules)=false/\∃vs,KV ab vs/\h.DictOf (bD P w) a vs:=vJ ok (.inl e)
def sd{ks:List a9}(ok:HOk P w H h)(e:H a=some (.tup (ks.map kV))):(tupleKind (bD P w)).is h ks a:=by
 obtain⟨_,de,r,o,h1,⟨h2,n,h3⟩,_⟩:=(show ca P w H h a (.tup (ks.map kV)) from ok a _ e)
 exact⟨o,de.toArray,n,h1,h2,h3,by simpa using sj r⟩
def zc{ab:List (List a9×V)}(ok:HOk P w H h)(e:Rd H a (.dT ab)):UD ab<=sizeLine/\(a == sysModules)=false /\
  ∃xs,KT H ab xs/\h.DictOfH (tupleKind (bD P w)) a xs:=by
 obtain⟨z,y,xs,r,o,es,ep,h1,h2,h3,h4,h5⟩:=(show ca P w H h a (.dT ab) from MV ok e)
 refine⟨z,y,xs,r,o,es,ep,h1,h2,h3,h4,λx hx=>?_,h5⟩
 have all:∀{l:List (List a9×V)} {m:List (List a9×Addr×Su)},KT H l m->∀x∈m,(tupleKind (bD P w)).is h x.1 x.2.1:=by
  intro l m q
  induction q with
  |nil=>intro x hx;exact nomatch hx
  |@cons p q ps qs hq t ih =>
   intro x hx;rcases S_.mp hx with e|hx
   .subst e;exact sd ok (by rw[<- hq.1];exact hq.2.1)
   .exact ih x hx
 exact all r x hx
def Pb{ab:List (List a9×V)}(ok:HOk P w H h)(e:H a=some (.dT ab)):UD ab<=sizeLine/\(a == sysModules)=false /\
  ∃xs,KT H ab xs/\h.DictOfH (tupleKind (bD P w)) a xs:=zc ok (.inl e)
end
abbrev DGet(H:Hp)(a:Addr)(y:V)(r:Option V):Prop :=
 (∃ab k,Rd H a (.dK ab)/\y=kV k/\r=bJ ab k)\/∃ab k b,Rd H a (.dT ab)/\y=.ref b/\H b=some (.tup (k.map kV))/\r=bJ ab k
abbrev DPut(H:Hp)(a:Addr)(y v:V)(H':Hp):Prop :=
 (∃ab k,H a=some (.dK ab)/\y=kV k/\ab.length<sizeLine/\H'=upd H a (.dK (cA ab k v))) \/
 ∃ab k b,H a=some (.dT ab)/\y=.ref b/\H b=some (.tup (k.map kV))/\ab.length<sizeLine/\H'=upd H a (.dT (cA ab k v))
def DGet.k{H:Hp}{ab:List (a9×V)}{k:a9}(e:H a=some (.dK ab)):DGet H a (kV k) (bJ ab k):=.inl ⟨ab,k,.inl e,rfl,rfl⟩
def DGet.t{H:Hp}{ab:List (List a9×V)}{k:List a9}(e:H a=some (.dT ab))(eb:H b=some (.tup (k.map kV))):DGet H a (.ref b) (bJ ab k):=.inr ⟨ab,k,b,.inl e,rfl,eb,rfl⟩
def DPut.k{H:Hp}{ab:List (a9×V)}{k:a9}(e:H a=some (.dK ab))(hl:UD ab<sizeLine):DPut H a (kV k) v (upd H a (.dK (cA ab k v))):=.inl ⟨ab,k,e,rfl,hl,rfl⟩
def DPut.t{H:Hp}{ab:List (List a9×V)}{k:List a9}(e:H a=some (.dT ab))(eb:H b=some (.tup (k.map kV)))(hl:UD ab<sizeLine) :
  DPut H a (.ref b) v (upd H a (.dT (cA ab k v))):=.inr ⟨ab,k,b,e,rfl,eb,hl,rfl⟩
section
variable{X:Cx}{G:List (Addr×Obj)}{σ:St}{H:Hp}{s:SB}{a:Addr}{y v:V}{u r:Su}{o:Option V}{A:Uc}{E:Su->SB->Prop}
def Inv.big(I:Inv X G σ H s):sysModules<s.heap.objs.size:=by
 have h:mainGlobals<s.heap.objs.size:=(I.mod.glob.keeps I.bk).lt;exact Ut (by decide) h
def D_{Q:Su->SB->Prop}(hu:A.units+1<cLine)(I:Inv X G σ H s)(g:DGet H a y (some v))(ry:RelV y u)(h:∀w' s',Inv X G σ H s'->RelV v w'->Q w' s') :
  wpAny (model X.prog X.w) A (getItem (.ref a) u) Q E s:=by
 rcases g with⟨ab,k,e,ey,l⟩|⟨ab,k,b,e,ey,eb,l⟩
 .subst ey;obtain⟨z,hd,vs,rel,dd⟩:=vJ I.hok e;obtain⟨w',hw,rw'⟩:=RelO.some_of (v:=v) (o:=valueAt vs k) (by rw[l];exact rel.val k);exact wpAny_getItem_of (yZ ry) dd.mapOf hw (h w' _ (I.tok _) rw')
 .subst ey;cases (show u=TU b from ry);obtain⟨z,hd,xs,rel,dd⟩:=zc I.hok e;obtain⟨w',hw,rw'⟩:=RelO.some_of (v:=v) (o:=(atKey xs k).map (·.2)) (by rw[l];exact rel.val k);obtain⟨p,hp,hp2⟩:=SA.mp hw;refine wpAny_getItem_heap (W0 hu) (sd I.hok eb) dd hp ?_;rw[hp2];exact h w' _ (I.tok _) rw'
def LX{Q:Su->SB->Prop}(hu:A.units+1<cLine)(I:Inv X G σ H s)(g:DGet H a y o)(ry:RelV y u)(h:∀s',Inv X G σ H s'->Q (.bool (!o.isSome)) s') :
  wpAny (model X.prog X.w) A (compareOp .NotIn u (.ref a)) Q E s:=by
 rcases g with⟨ab,k,e,ey,l⟩|⟨ab,k,b,e,ey,eb,l⟩
 .subst ey;obtain⟨z,hd,vs,rel,dd⟩:=vJ I.hok e;refine wpAny_notIn_of (yZ ry) hd dd.mapOf ?_;rw[<- (rel.val k).kE,<- l];exact h _ (I.tok _)
 .subst ey;cases (show u=TU b from ry);obtain⟨z,hd,xs,rel,dd⟩:=zc I.hok e;refine wpAny_notIn_heap (W0 hu) (sd I.hok eb) hd dd ?_;have q:=(rel.val k).kE;rw[ZaH] at q;rw[<- q,<- l];exact h _ (I.tok _)
def vL{t':Nat}(I:Inv X G σ H s)(mu:PU (H a))(hs:Vz a s.heap h')(he:∃q,h'.get? a=some q)(new:ca X.prog X.w (upd H a ob) h' a ob) :
  Inv X G σ (upd H a ob) {s with heap:=h',toks:=t'} :=
 I.write (x:=a) (e:=a) mu (.inl rfl) (λb q hb z=>(hs.2 b hb).trans z) he new
def II{h':Heap}{ab:List (a9×V)}{vs:List (a9×Su)}(z:UD ab<=sizeLine)(hd:(a == sysModules)=false)(rel:KV ab vs)(dd:h'.DictOf (bD P w) a vs) :
  ca P w H' h' a (.dK ab):=⟨z,hd,vs,rel,dd⟩
def D9{Q:Unit->SB->Prop}(hu:A.units+1<cLine)(I:Inv X G σ H s)(g:DPut H a y v H')(ry:RelV y u)(rv:RelV v r)(h:∀s',Inv X G σ H' s'->Q () s') :
  wpAny (model X.prog X.w) A (setItem (.ref a) u r) Q E s:=by
 rcases g with⟨ab,k,e,ey,l,eH⟩|⟨ab,k,b,e,ey,eb,l,eH⟩
 .subst ey eH;obtain⟨z,hd,vs,rel,dd⟩:=LW I.hok e;have hz:UD vs<=sizeLine:=by rw[<- rel.length];exact z
  have hl:(cA ab k v).length<=sizeLine:=by have:=cC ab k v;lia
  refine wpAny_setItem_pairs (hsz:=hz) (yZ ry) dd λh' dd' hs=>h _ ?_
  have he:∃q,h'.get? a=some q:=let ⟨q,_,_,hq,_⟩:=dd';⟨q,hq⟩
  exact vL I (by rw[e];exact V0) hs he (II hl hd (rel.put k rv) dd')
 .subst ey eH;cases (show u=TU b from ry);obtain⟨z,hd,xs,rel,dd⟩:=Pb I.hok e;have hz:UD xs<=sizeLine:=by rw[<- WT rel];exact z
  have hl:(cA ab k v).length<=sizeLine:=by have:=cC ab k v;lia
  refine wpAny_setItem_heap (hsz:=hz) (W0 hu) (sd I.hok eb) dd λh' dd' hs=>h _ ?_
  obtain⟨q,es,ep,hq,h2,h3,h4,_,h5⟩:=dd';refine vL I (by rw[e];exact V0) hs ⟨q,hq⟩ ⟨hl,hd,_,(rel.put k eb rv).keeps λc ys ec=>?_,q,es,ep,hq,h2,h3,h4,h5⟩;rw[aB (mf ec e (λz=>nomatch z))];exact ec
end
section
variable{X:Cx}{G:List (Addr×Obj)}{σ:St}{H:Hp}{s:SB}{a:Addr}{ab:List (a9×V)}{k:a9}{u:Su}{A:Uc}{E:Su->SB->Prop}
def RD{Q:Su->SB->Prop} (I:Inv X G σ H s) (e:Rd H a (.dK ab)) (h:∀t s',Inv X G σ H s'->Q (.int (UD ab) t) s'):wpAny (model X.prog X.w) A (call (.builtin "len") [.ref a]) Q E s:=by
 obtain⟨z,hd,vs,rel,dd⟩:=vJ I.hok e;refine call_len_dict hd dd (by rw[<- rel.length];rw[UG] at z;lia) ?_;rw[<- rel.length];exact h _ _ (I.tok _)
end
abbrev PR(i:Expr):Prop:=∀ov iv,subscripted i false ov iv=operate [ov,iv] (getItem ov iv)
def Jx{T id:String}
  (hl:typeLookup (.type T) "__getitem__"=pure (some (.builtin id))) (hs:PR slice)
  (h:wpAny (model prog w) A (eval value env) (λo s₁=>wpAny (model prog w) A (eval slice env) (λi s₂=>s₂.TypeIs o T/\wpAny (model prog w) A (getItem o i) Q E s₂) E s₁) E s) :
  wpAny (model prog w) A (eval (.Subscript value slice pos) env) Q E s:=by
 refine Subscript_ (UK h (λo s₁ h₁=>UK h₁ (λi s₂ h₂=>?_) λ_ _ x=>x) λ_ _ x=>x);obtain⟨hT,h₂⟩:=h₂;unfold subscriptTail;refine Ss ?_;rw[getitemInPython_of_ne hT.not_modules];refine Ss (wpAny_specialOf hT hl ?_)
 have fin:wpAny (model prog w) A (subscripted slice false o i) (λr s₃=>wpAny (model prog w) A (letTemporaryGo value o r >>= λ_=>pure r) Q E s₃) E s₂:=by
  rw[hs o i];exact wpAny_operating (UK h₂ (λr s₃ h₃=>Ss (wpAny_letTemporaryGo (SN h₃))) λ_ _ x=>x)
 first
  |exact SN (Ss fin)
  |exact Ss (SN (Ss fin))
  |exact Ss fin
def vK{H:Hp}     (I:Inv X G σ H s) (g:DGet H a y o):s.TypeIs (.ref a) "dict":=by
 rcases g with⟨ab,k,e,_,_⟩|⟨ab,k,b,e,_,_,_⟩
 .obtain⟨_,_,vs,_,dd⟩:=vJ I.hok e;exact dd.typeIs
 .obtain⟨_,_,xs,_,dd⟩:=zc I.hok e;exact dd.typeIs
abbrev uc(td ty:TE):TE:=λσ H Q=>td σ H λx H1=>ty σ H1 λy H2=>∃a v,x=.ref a/\DGet H2 a y (some v)/\Q v H2
abbrev ub(ty td:TE):TE:=λσ H Q=>ty σ H λy H1=>td σ H1 λx H2=>∃a o,x=.ref a/\DGet H2 a y o/\Q (.bl (!o.isSome)) H2
abbrev qW(td ty tv:TE):TS:=λD σ H=>tv σ H λv H1=>td σ H1 λx H2=>ty σ H2 λy H3=>∃a H4,x=.ref a/\DPut H3 a y v H4/\D.nx σ H4
section
variable{X:Cx}{o i e value:Expr}{pos pos' tpos:Pos}{td ty tv:TE}
def KL(hu:X.A.units+1<cLine)(ho:PE X o td)(hi:PE X i ty)(hs:PR i):PE X (.Subscript o i pos) (uc td ty):=by
 intro G s σ H Q I h;refine Jx PySem.F.slot_dict_getitem.lookup hs (a_ (ho G s σ H _ I h) λu s1 ⟨x,H1,I1,rx,q1⟩=>a_ (hi G s1 σ H1 _ I1 q1) λiv s2 ω=>?_);obtain⟨y,H2,I2,ry,a,v,ex,g,q2⟩:=ω;subst ex;obtain rfl:u=TU a:=rx;exact⟨vK I2 g,D_ hu I2 g ry λw' s3 I3 rw'=>⟨v,H2,I3,rw',q2⟩⟩
def Cp(hu:X.A.units+1<cLine)(hi:PE X i ty)(ho:PE X o td):PC X .NotIn i o (ub ty td):=by
 intro G s σ H Q I h;refine a_ (hi G s σ H _ I h) λiv s1 ⟨y,H1,I1,ry,q1⟩=>a_ (ho G s1 σ H1 _ I1 q1) λu s2 ω=>?_;obtain⟨x,H2,I2,rx,a,ov,ex,g,q2⟩:=ω
 subst ex;obtain rfl:u=TU a:=rx;exact LX hu I2 g ry λs3 I3=>⟨.bl (!ov.isSome),H2,I3,rfl,q2⟩
def Kx(hu:X.A.units+1<cLine)(ho:PE X o td)(hi:PE X i ty)(hv:PE X value tv)(hs:swapsWith value (some (.Subscript o i pos')) pos.line X.env=pure false) :
  PS X (.Assign [.Subscript o i pos'] value pos) (qW td ty tv):=by
 intro G s σ H D I h;refine wpAny_Assign_Subscript (a_ (hv G s σ H _ I h) λr s1 ⟨v,H1,I1,rv,q1⟩=>a_ (ho G s1 σ H1 _ I1 q1) λu s2 ⟨x,H2,I2,rx,q2⟩=>a_ (hi G s2 σ H2 _ I2 q2) λiv s3 ω=>?_) hs;obtain⟨y,H3,I3,ry,a,H4,ex,g,q3⟩:=ω;subst ex;obtain rfl:u=TU a:=rx;exact D9 hu I3 g ry rv λs4 I4=>⟨σ,H4,I4,q3⟩
end
def xJ(h:Heap) (hb:sysModules<h.objs.size):ca P w H (h.push {cls:=.type "dict",data:=.dict #[]}) h.objs.size (.dK []) :=
 ⟨TV _,beq_eq_false_iff_ne.mpr (YG (TN hb)),[],.nil,Heap.DictOf.new h⟩
def Hj(h:Heap) (hb:sysModules<h.objs.size):ca P w H (h.push {cls:=.type "dict",data:=.dict #[]}) h.objs.size (.dT []) :=
 ⟨TV _,beq_eq_false_iff_ne.mpr (YG (TN hb)),[],.nil,_,#[],0,Th _ rfl,⟨rfl,rfl,rfl⟩,rfl,rfl,VJ⟩
abbrev HN:TE:=λ_ H Q=>∀p,H p=none->Q (.ref p) (upd H p (.dK []))
abbrev AB:TE:=λ_ H Q=>∀p,H p=none->Q (.ref p) (upd H p (.dT []))
section
variable{X:Cx}{pos:Pos}
def Gr:PE X (.Dict [] [] pos) HN:=λG s σ H Q I h =>
 wpAny_Dict_empty ⟨.ref s.heap.objs.size,_,I.laid (a:=s.heap.objs.size) (o:=.dK []) (t':=s.toks) (λ_ _ q=>Sy _ q) (Sx _) (xJ s.heap I.big),rfl,h _ (I.hok.fresh (Sx _))⟩
def Gq:PE X (.Dict [] [] pos) AB:=λG s σ H Q I h =>
 wpAny_Dict_empty ⟨.ref s.heap.objs.size,_,I.laid (a:=s.heap.objs.size) (o:=.dT []) (t':=s.toks) (λ_ _ q=>Sy _ q) (Sx _) (Hj s.heap I.big),rfl,h _ (I.hok.fresh (Sx _))⟩
end
abbrev jR:List (TE×TE)->St->Hp->(List (V×V)->Hp->Prop)->Prop
 |[],_,H,Q=>Q [] H
 |(tk,tv) :: r,σ,H,Q=>tk σ H λx H1=>tv σ H1 λy H2=>jR r σ H2 λps H3=>Q ((x,y) :: ps) H3
nonrec def VV:List (V×V)->List (Su×Su)->Prop:=Paired λp q=>RelV p.1 q.1/\RelV p.2 q.2
abbrev PQ(X:Cx)(pos:Pos)(keys:List (Option Expr))(values:List Expr)(trs:List (TE×TE)):Prop :=
 ∀(G:List (Addr×Obj)) (s:SB) (σ:St) (H:Hp) (Q:List (V×V)->Hp->Prop),Inv X G σ H s->jR trs σ H Q ->
  wpAny (model X.prog X.w) X.A (evalPairs (pairTrees keys values X.env pos)) (λvs s'=>∃ps H',Inv X G σ H' s'/\VV ps vs/\Q ps H') X.xe s
def KA:PQ X pos [] [] []:=λG s σ H Q I h=>pairTrees_nil_walk ⟨[],H,I,.nil,h⟩
def Gj{vs:List Expr}{tk:TE}(hk:PE X k tk)(hv:PE X v tv)(hr:PQ X pos ks vs trs) :
  PQ X pos (some k :: ks) (v :: vs) ((tk,tv) :: trs):=λG s σ H Q I h =>
 pairTrees_cons_walk (a_ (hk G s σ H _ I h) λu s1 ⟨x,H1,I1,rx,q1⟩=>a_ (hv G s1 σ H1 _ I1 q1) λw2 s2 ⟨y,H2,I2,ry,q2⟩ =>
  a_ (hr G s2 σ H2 _ I2 q2) (by rintro ws s3 ⟨ps,H3,I3,rel,q3⟩;exact ⟨(x,y) :: ps,H3,I3,.cons ⟨rx,ry⟩ rel,q3⟩))
abbrev d_(ab more:List (a9×V)):List (a9×V):=more.foldl (λacc kv=>cA acc kv.1 kv.2) ab
def KV.merge:∀{more:List (a9×V)} {rs:List (a9×Su)} {ab:List (a9×V)} {vs:List (a9×Su)},KV more rs->KV ab vs->KV (d_ ab more) (merged vs rs):=by
 intro more rs ab vs r;unfold KV at r
 induction r generalizing ab vs with
 |nil=>intro q;exact q
 |@cons p q ps qs h t ih =>
  intro r0
  have e:KV (cA ab p.1 p.2) (stored vs q.1 q.2):=by
   have:=r0.put p.1 h.2
   rw[<- h.1];exact this
  exact ih e
def gQ:∀(more ab:List (a9×V)),(d_ ab more).length<=UD ab+UD more
 |[],ab=>by show (UD ab)<=UD ab+0;lia
 |p :: r,ab=>by
  have h1:=gQ r (cA ab p.1 p.2);have h2:=cC ab p.1 p.2;show(d_ (cA ab p.1 p.2) r).length<=_;rw[Tu];lia
def mY{P:TK}{w:Ub}:∀{ab:List (a9×V)} {ws:List (Su×Su)},VV (ab.map λkv=>(kV kv.1,kv.2)) ws->∃rs,Carries (bD P w) ws rs/\KV ab rs
 |[],_,r=>by rw[X_] at r;cases r;exact⟨[],V0,.nil⟩
 |p :: ab,_,r=>by
  rw[TM] at r;cases r with
  |@cons a b as bs h t =>
   obtain⟨rs,c,q⟩:=mY (P:=P) (w:=w) t;obtain⟨b1,b2⟩:=b;exact⟨(p.1,b2) :: rs,⟨yZ h.1,rfl,c⟩,.cons ⟨rfl,h.2⟩ q⟩
abbrev Ju(trs:List (TE×TE)):TE:=λσ H Q=>∀p,H p=none->jR trs σ (upd H p (.dK [])) λps H2=>H2 p=some (.dK [])/\∃ab:List (a9×V),ps=ab.map (λkv=>(kV kv.1,kv.2))/\ab.length<=15/\Q (.ref p) (upd H2 p (.dK (d_ [] ab)))
def KJ(h:PQ X pos keys values trs)(hall:keys.all (·.isSome)=true)(hl:UD keys=UD values)(h0:keys≠[])
  (h15:UD keys<=15):PE X (.Dict keys values pos) (Ju trs):=by
 intro G s σ H Q I q;have hn:=I.hok.fresh (Sx s.heap.objs.size);have I1:=I.laid (a:=s.heap.objs.size) (o:=.dK []) (h':=s.heap.push {cls:=.type "dict",data:=.dict #[]}) (t':=s.toks) (λ_ _ q=>Sy _ q) (Sx _) (xJ s.heap I.big);refine wpAny_Dict_walk (knd:=bD X.prog X.w) hall hl h0 h15 (a_ (h G _ σ _ _ I1 (q _ hn)) λws s2 ω=>?_);obtain⟨ps,H2,I2,rel,e,ab,ep,lk,q2⟩:=ω;subst ep;obtain⟨rs,c,rk⟩:=mY (P:=X.prog) (w:=X.w) rel;obtain⟨z,hd,vs0,r0,dd⟩:=LW I2.hok e;cases r0;refine⟨rs,c,dd,λh' dd' hs=>⟨.ref s.heap.objs.size,_,?_,rfl,q2⟩⟩
 have hz:(d_ [] ab).length<=sizeLine:=by
  have h1:=gQ ab [];rw[WY] at h1;rw[UG];lia
 have he:∃q,h'.get? s.heap.objs.size=some q:=let ⟨q,_,_,hq,_⟩:=dd';⟨q,hq⟩
 exact vL I2 (by rw[e];exact V0) hs he (II hz hd (rk.merge .nil) dd')
structure M1 (X:Cx) (o:Expr) (m:Str) (apos:Pos) (e:Expr) (cpos:Pos):Prop where
 base:attributeBase o m X.env (eval o X.env)=eval o X.env
 few:((backTo cpos (starEach [e] X.env)).all (λx=>!x.1) && (backToKw cpos (keywordEach [] X.env)).all (λx=>x.1.isSome)
  && decide (([e]:List Expr).length+([]:List ZbD).length+(if ([]:List ZbD).isEmpty then 0 else 1)<30))=true
 line:(apos.endLine == cpos.line)=true
 trees:backTo cpos (starEach [e] X.env)=[(false,eval e X.env)]
abbrev RP(H:Hp)(a:Addr):Prop:=(∃ab,Rd H a (.dK ab))\/∃ab,Rd H a (.dT ab)
def O2{H:Hp}(I:Inv X G σ H s)(d:RP H a) :
  s.TypeIs (.ref a) "dict"/\(∀b,TU a=.ref b->∃ob,s.heap.get? b=some ob/\ob.dict=none)/\(a == sysModules)=false:=by
 rcases d with⟨ab,e⟩|⟨ab,e⟩
 .obtain⟨_,hd,vs,_,dd⟩:=vJ I.hok e;refine⟨dd.typeIs,λb q=>?_,hd⟩;cases q;obtain⟨ob,_,_,h1,h2,_⟩:=dd;exact⟨ob,h1,h2.2.1⟩
 .obtain⟨_,hd,xs,_,dd⟩:=zc I.hok e;refine⟨dd.typeIs,λb q=>?_,hd⟩;cases q;obtain⟨ob,_,_,h1,h2,_⟩:=dd;exact⟨ob,h1,h2.2.1⟩
section
variable{X:Cx}{G:List (Addr×Obj)}{σ:St}{H:Hp}{s:SB}{a:Addr}{y d:V}{u r:Su}{o:Option V}{A:Uc}{E:Su->SB->Prop}
def Pc{Q:Su->SB->Prop}(hu:A.units+1<cLine)(I:Inv X G σ H s)(g:DGet H a y o)(ry:RelV y u)(h:∀w' s',Inv X G σ H s'->RelV (o.getD .non) w'->Q w' s') :
  wpAny (model X.prog X.w) A (call (.builtin "dict.get") [.ref a,u]) Q E s:=by
 rcases g with⟨ab,k,e,ey,l⟩|⟨ab,k,b,e,ey,eb,l⟩
 .subst ey;obtain⟨z,hd,vs,rel,dd⟩:=vJ I.hok e;refine call_meetsIn Xv dd.typeIs Zk (Y3 _ _) (meets_dict_get (bD X.prog X.w) a (yZ ry) hd) ⟨_,dd.mapOf,h _ _ (I.tok _) ?_⟩;rw[l];exact(rel.val k).getD rfl
 .subst ey;cases (show u=TU b from ry);obtain⟨z,hd,xs,rel,dd⟩:=zc I.hok e;refine call_meetsIn Xv dd.typeIs Zk (Y3 _ _) (meetsH_dict_get (tupleKind (bD X.prog X.w)) a b hd) ⟨W0 hu,k,xs,sd I.hok eb,dd,h _ _ (I.tok _) ?_⟩;rw[l];exact(rel.val k).getD rfl
end
abbrev AD(td ty:TE):TE:=λσ H Q=>td σ H λx H1=>∃a,x=.ref a/\RP H1 a/\ty σ H1 λy H2=>∃o,DGet H2 a y o/\Q (o.getD .non) H2
section
variable{X:Cx}{o e f:Expr}{apos cpos:Pos}{td ty tx:TE}
def Gs(hu:X.A.units+1<cLine) (ho:PE X o td) (he:PE X e ty) (m:M1 X o "get" apos e cpos):PE X (.Call (.Attribute o "get" apos) [e] [] cpos) (AD td ty):=by
 intro G s σ H Q I h;refine wpAny_Call_method m.base m.few m.line PySem.F.plainAttrs_dict Xv PySem.F.type_dict_get (a_ (ho G s σ H _ I h) λu s1 ω=>?_);obtain⟨x,H1,I1,rx,a,ex,d,q1⟩:=ω;subst ex;obtain rfl:u=TU a:=rx;obtain⟨t1,t2,_⟩:=O2 I1 d;refine⟨t1,t2,?_⟩;rw[m.trees];refine Xi rfl (ZI (Vl (a_ (he G s1 σ H1 _ I1 q1) λiv s2 ⟨y,H2,I2,ry,ov,g,q2⟩=>Vt ?_)));exact Pc hu I2 g ry λw' s3 I3 rw'=>⟨_,H2,I3,rw',q2⟩
end
section
variable{X:Cx}
def Ek:ff X (.builtin "len") (λxs H Q=>∃a ab,xs=[V.ref a]/\H a=some (.dK ab)/\Q (.int (UD ab)) H):=by
 intro G s σ H xs us Q I r h;obtain⟨a,ab,rfl,ha,q⟩:=h;obtain⟨u,rfl,ru⟩:=vals1 r;cases ru;exact RD I (.inl ha) λt s' I'=>⟨.int (UD ab),H,I',⟨t,rfl⟩,q⟩
end
open PySem PySem.W
abbrev RX(K:Frag):List Str->Prop
 |[]=>True
 |n :: r=>nsIn K mainGlobals n=some none/\RX K r
end L2
namespace K97H
open PySem PySem.Spec PyProof.Rows L2
abbrev top(i:Nat):Stmt:=PW97.main.body.getD i (.Pass ⟨0,0,0,0⟩)
abbrev spLaw(K:Fg):Sp:=λvs H Q _=>∃(a:Addr) (ns:List Int),vs=[.ref a]/\SqL K H a (ns.map V.int)/\ns.length<=63/\∀H',Q (.bl true) H'
abbrev Mf(K:Fg)(n:Str)(st:Stmt):Prop:=∃(f:Addr) (od an:Option Addr) (sl:Array (Option Su)) (oc kV dc pm cd ct:Su),Yb K mainGlobals n=some (⇑f)/\K.lookup f=some ⟨oc,od,.func (Vc n n (du st) (cF st) (aj st) .none kV dc pm an cd ct),sl⟩/\Wy K cd n=true/\V6 K (.ref f)=true
def fnIn{K:Fg}{st:Stmt}{od:Option Addr}{sl:Array (Option Su)}{oc kV:Su}(a:Yb K mainGlobals n=some (⇑f))(l:K.lookup f=some ⟨oc,od,.func (Vc n n (du st) (cF st) (aj st) .none kV dc pm an cd ct),sl⟩)(c:Wy K cd n=true)(k:V6 K (.ref f)=true):Mf K n st:=⟨f,od,an,sl,oc,kV,dc,pm,cd,ct,a,l,c,k⟩
local macro_rules | `(tactic| fail "f")=>`(tactic| (refine' fnIn ?a ?l ?c ?k;(case a=>k_is);(case l=>k_is);(case c=>k_is);(case k=>k_is)))
abbrev zh(K:Fg):List (Str×Nat)->Prop
 |[]=>True
 |(n,i) :: r=>Mf K n (top i)/\zh K r
local macro_rules | `(tactic| walk_at "all")=>`(tactic| repeat' first|exact trivial|(refine And.intro ?_ ?_)|k_is|k_exc|fail "f"|exact rfl|decide)
def walk{l:Zbt}{XP:(Str->Option Su)->Heap->Prop}{YP:Ub->Heap->Prop}{d:DefRec}{K:Params->Zax}(hn:l.most=some 63)(hdf:d.params.defaults=[])
  (hY:∀(w:Ub) (h:Heap),YP w h->(K w.params).In h)
  (F:∀(w:Ub) (mg:Str->Option Su) (fa:Addr) (h:Heap),(K w.params).In h->h.Ns mainGlobals mg->mg d.name=⇑fa ->
   ∃fd:VI,(∀(s:SB) (u:Su),ZaC s fd ⟨[u],[]⟩ [("_law_script",u)])/\∀base:Heap,(K w.params).In base->base.Ns mainGlobals mg->FnOk l.prog w (K w.params) mg base ba 10 fa fd ["_law_script"] (spLaw (K w.params))) :
  Z_ q loose XP YP l.row.toRowW d [] (λf vs=>Zal f vs) :=
 L2.Jg (n:=63) (k:=10) (x:="_law_script") (CX:=λ_=>ba) (sp:=λw=>spLaw (K w.params)) hn (by decide) hdf ⟨rfl,by decide,by decide⟩ hY F (λ_ _ a ns hl _ hS=>⟨a,ns,rfl,hS,hl,λ_=>rfl⟩) λ_ _ _ _ _ z=>z
open PySem.W in
def headed(hW:∀{w:Ub} {K:Fg} {h:Heap} {mg:Str->Option Su} {fa:Addr} (X:K.In h) (G:h.Ns mainGlobals mg) (hfa:mg "law"=⇑fa)
  (P0:zh K [("whole",6),("greatest_divisor",7),("least_multiple",8),("fraction",9),("plus",10),("times",11),("column",13),("crossed",14),("first_place",15),("unit_row",16),("unit_rows",17),("opposite",18),("opposites",19),("common_divisor",20),("lowest",21),("cleared",22),("sifted",23),("free_places",24),("nought_makers",25),("heaps_of",28)]) (P20:zh K [("heaps",29),("turning_at",30),("change",31),("changes",32),("free",34),("heap_numbers",36),("places_of",37),("lots",38),("check_heap",39),("road",40),("first_astray",41),("lack",43),("lot_marks",44),("lack_rows",45),("first_board",47),("short_line",48),("place_below_nought",49),("line_without",50),("passed_on",51),("numbers_on",52)]) (P40:zh K [("settled",53),("balanced",54),("sets_of",56),("has_some",57),("is_drain",58),("is_trap",59),("lies_within",60),("least_of",61),("drains",62),("traps",63),("taken_out",65),("split",66),("place_with_divisor",67),("apart",68),("turnings_from",71),("picks",72),("is_tree",73),("pace_product",74),("tree_weight",75),("tree_weights",76)]) (P60:zh K [("weight_powers",78),("even",79),("sheltered",81),("keeping",82),("returning",83),("_law_cell_at",85),("_law_mixed",86),("_law_divisor",87),("_law_lowest",88),("_law_words",89),("_law_heap",90),("_law_pool",91),("_law_pairs",92),("_law_pace",93),("_law_vessel",94),("_law_heaps",95),("_law_ends",96),("_law_zero_lack",100),("_law_reach",102),("_law_told",103)]) (P80:zh K [("law",104)]) (Z:RX K ["len","abs","range","isinstance","int","bool","tuple","list","str","zip","set","all","any","min","max","sum","sorted","enumerate","reversed","dict","ord","divmod"])
  {tn0 tn1 to0 to1:Tok} {nq oq:Addr} {nqd oqd:Option Addr} {nqn oqn:Nat} {nqs oqs:Array (Option Su)}
  (hcnN:Yb K mainGlobals "NOUGHT"=some (⇑nq))
  (hcnL:K.lookup nq=some ⟨.type "tuple",nqd,.seq #[.int 0 tn0,.int 1 tn1] nqn,nqs⟩)
  (hcnO:Yb K mainGlobals "ONE"=some (⇑oq))
  (hcnM:K.lookup oq=some ⟨.type "tuple",oqd,.seq #[.int 1 to0,.int 1 to1] oqn,oqs⟩)
  ,∃fd:VI,(∀(s:SB) (v:Su),ZaC s fd ⟨[v],[]⟩ [("_law_script",v)])/\∀base:Heap,K.In base->base.Ns mainGlobals mg->FnOk PySem.Challenge.rw_vesselhall_k97_whole_no_lack_whatever_th.prog w K mg base ba 10 fa fd ["_law_script"] (spLaw K)):PySem.Challenge.rw_vesselhall_k97_whole_no_lack_whatever_th.Holds:=by
 refine said ?_
 w_on
 refine Zaj (q:=qv) (loose:=[]) (Xt:=λs=>Xe qv [] s && WR [] s) (XP:=ZbG qv []) (Yf:=Za3 (XI pre.heap_1 asl asl_ok)) (Ya:=Za4 (XI pre.heap_1 asl asl_ok)) (YP:=Zaz (XI pre.heap_1 asl asl_ok)) (N:=7054) hooks (Zbs (XI pre.heap_1 asl asl_ok)) (Zak (XI pre.heap_1 asl asl_ok)) (λs e=>ZbU s (Ww.mp e).1) Za5 (by rfl) (by rfl) (by rfl) (λs e=>Z4 (Ww.mp e).2) (by rfl) (by first|assumption|decide +kernel) (by decide +kernel) ⟨rfl,rfl,rfl,rfl,rfl,by decide +kernel⟩ ?_ ?_
 .clear hW;w_witness2
 k_fill
 refine walk (l:=PySem.Challenge.rw_vesselhall_k97_whole_no_lack_whatever_th) rfl rfl (λw h Y=>PySem.W.kIn_of Y) ?F
 case F =>
  intro w mg fa h KX G hmg;refine' hW KX G hmg ?_ ?_ ?_ ?_ ?_ ?_ ?_ ?_ ?_ ?_
  all_goals try walk_at "all"
end K97H
namespace L2
open PySem PySem.Spec PyProof.Rows
section
variable{X:Cx}{a b c:Expr}{ta tb tc:TE}{pos:Pos}
abbrev P4(_ j:Int):Prop:=j≠0/\j.natAbs<2 ^ 9000
def Gz:fe X (binaryOp .FloorDiv) (rI P4 λi j=>.int (i.fdiv j)):=KZ λi j _ _ _ _ _ hc q=>by
 have h0:j.natAbs≠0:=by have:=hc.1;lia
 exact floordiv_int hc.1 q (.inl (PyProof.noPylong_of_log2 ((Zbn h0).mpr hc.2)))
abbrev EH(i j:Int):Prop:=i.natAbs<2 ^ 20000/\j.natAbs<2 ^ 20000
def EH.ok(h:EH i j):IntMulOk i j:=by
 have h1:=Y4 h.1;have h2:=Y4 h.2;unfold IntMulOk
 have e:Zz ((Z6 i:Int)+(Z6 j:Int))=false:=by
  unfold Zz;refine decide_eq_false ?_
  have:(40000:Int)<=bitsLine:=by decide
  lia
 intro q;rw[e] at q;simp at q
def KS:fe X (binaryOp .Mult) (rI EH λi j=>.int (i*j)):=KZ λ_ _ _ _ _ _ _ hc q=>mul_int q hc.ok
def Ht:ff X (.builtin "isinstance") (λxs H Q=>∃x n t b,xs=[x,.ty n]/\TyOf X.K H x t/\Xg X.K t (.type n)=some b/\Q (.bl b) H):=by
 intro G s σ H xs us Q I r h;obtain⟨x,n,t,b,rfl,ty,e,q⟩:=h;obtain⟨u,u',rfl,rx,ry⟩:=vals2 r;obtain rfl:u'=Yh n:=ry;exact Do I rx ty e λtk=>⟨.bl b,H,I.tok tk,rfl,q⟩
end
structure FnC (P:TK) (w:Ub) (K:Fg) (mg:Str->Option Su) (base:Heap) (CX:sY) (k:Nat) (x:Str) (ps:List Str) (sp:Sp):Prop where
 ex:∃(f:Addr) (fd:VI),FnOk P w K mg base CX k f fd ps sp/\mg x=⇑f/\V6 K (.ref f)=true/\Binds K fd ps []
structure aE (K:Fg) (mg:Str->Option Su) (x:Str) (st:Stmt) (ps:List Str):Prop where
 ex:∃(f:Addr) (fd:VI),Fun K x x st f fd/\mg x=⇑f/\Binds K fd ps []
section
variable{P:TK}{w:Ub}{K:Fg}{mg:Str->Option Su}{base:Heap}{CX:sY}
def Ha{st:Stmt}{ps:List Str}{oc:Su}{od:Option Addr}{osl:Array (Option Su)}{kV:Su}(X:K.In h)(G:h.Ns mainGlobals mg)
  (a:Yb K mainGlobals x=some (⇑f)) (l:K.lookup f=some ⟨oc,od,.func (Vc x x (du st) (cF st) (aj st) .none kV doc pm an cdv ct),osl⟩)
  (c:Wy K cdv x=true) (k:V6 K (.ref f)=true)
  (hb:∀(kV doc pm:Su) (an:Option Addr) (cdv ct:Su) (us:List Su),UD us=UD ps->bindArgs (Vc x x (du st) (cF st) (aj st) .none kV doc pm an cdv ct) ⟨us,[]⟩=pure (ps.zip us)) :
  aE K mg x st ps:=by
 have F:=ID (K:=K) (x:=x) (qual:=x) (st:=st) l c k;exact⟨f,_,F,YR X G a,F.binds hb⟩
def FnC.mono{k:Nat}(F:FnC P w K mg base CX j x ps sp)(h:j<=k):FnC P w K mg base CX k x ps sp :=
 let ⟨f,fd,G,r⟩:=F.ex
 ⟨f,fd,G.mono h,r⟩
def aE.ok{st:Stmt}{sp:Sp}(F:aE K mg x st ps)(S:au N ps (aj st))(len:∀vs H Q E,sp vs H Q E->UD vs=UD ps)
  (hbody:∀(f:Addr) (cdv:Su) (A:Uc) (outer:List Env) (s:SB) (H:Hp) (vs:List V) (Q:VK) (E:XK),Room k (A.deeper (envOfC x (aj st) s.heap.objs.size f cdv))->sp vs H Q E ->
   ∃t,PSs (pZ ba P w K mg base N x (aj st) f cdv A outer s H E).nox (cF st) t/\t {nx:=λ_ H'=>Q .non H',rt:=Q} (start N vs) H):FnC P w K mg base ba (k+1) x ps sp:=by
 obtain⟨f,fd,G,hm,hb⟩:=F.ex;exact⟨f,fd,G.ok S len (hbody f),hm,G.kp,hb⟩
end
section
variable{X:Cx}{CX:sY}{k:Nat}{ps:List Str}{sp:Sp}{E:XK}{x:Str}{p pos:Pos}{e:Expr}{es:List Expr}{t:TA}
def Gv(F:FnC X.prog X.w X.K X.mg X.base CX k x ps sp)(hr:Room k X.A)(hg:Gl X x)(hx:qh CX X E)(ha:PA X (e :: es) t)
  (hdb:(x == ("__debug__":Str))=false:=by decide) (he:starEach (e :: es) X.env=(false,eval e X.env) :: starEach es X.env:=by rfl) (hpl:(backTo pos (starEach es X.env)).any (·.1)=false:=by rfl) :
  PE X (.Call (.Name x p) (e :: es) [] pos) (aw sp [] E t):=by
 obtain⟨f,fd,G,hm,kp,hb⟩:=F.ex;exact KM G hr hg hm kp hb .nil hx ha hdb he hpl
def Gw(F:FnC X.prog X.w X.K X.mg X.base ba k x ps sp)(hr:Room k X.A)(hg:Gl X x)(ha:PA X (e :: es) t)
  (hdb:(x == ("__debug__":Str))=false:=by decide) (he:starEach (e :: es) X.env=(false,eval e X.env) :: starEach es X.env:=by rfl) (hpl:(backTo pos (starEach es X.env)).any (·.1)=false:=by rfl) :
  PE X (.Call (.Name x p) (e :: es) [] pos) (aw sp [] E0 t):=Gv F hr hg QC ha hdb he hpl
end
def ai{H:Hp}(h:H p=none)(o:HO):Same H (upd H p o):=λb u q=>by rw[aB (aq q h)];exact q
def Same.seqT{K:Fg}(e:Same H H')(h:SqT K H a xs):SqT K H' a xs:=by
 rcases h with(h|⟨o,h⟩)|h
 .exact .inl (.inl (e _ _ h))
 .exact .inl (.inr ⟨o,e _ _ h⟩)
 .exact .inr h
structure bw (mg:Str->Option Su):Prop where
 len:mg "len"=none
 abs:mg "abs"=none
 range:mg "range"=none
 isinstance:mg "isinstance"=none
 int:mg "int"=none
 bool:mg "bool"=none
 tuple:mg "tuple"=none
 list:mg "list"=none
 str:mg "str"=none
 zip:mg "zip"=none
 set:mg "set"=none
 all:mg "all"=none
 any:mg "any"=none
 min:mg "min"=none
 max:mg "max"=none
 sum:mg "sum"=none
 sorted:mg "sorted"=none
 enumerate:mg "enumerate"=none
 reversed:mg "reversed"=none
 dict:mg "dict"=none
 ord:mg "ord"=none
 divmod:mg "divmod"=none
def Pq:bootBuiltins "len"=some (.builtin "len"):=by decide +kernel
def Pu:bootBuiltins "abs"=some (.builtin "abs"):=by decide +kernel
def qd:bootBuiltins "isinstance"=some (.builtin "isinstance"):=by decide +kernel
def IT:bootBuiltins "int"=some (.type "int"):=by decide +kernel
def L4:bootBuiltins "bool"=some (.type "bool"):=by decide +kernel
def Hy:bootBuiltins "tuple"=some (.type "tuple"):=by decide +kernel
def vU:bootBuiltins "list"=some (.type "list"):=by decide +kernel
def O0{y z:Int}{A B:Prop}(h1:y≠z->A)(h2:y=z->B):if (!decide (V.int y=V.int z))=true then A else B:=by
 by_cases h:y=z
 .subst h;rw[decide_eq_true rfl];exact Dm (h2 rfl)
 .rw[decide_eq_false (λq=>h (V.int.inj q))];exact y6 (h1 h)
def O1[Decidable c]{A B:Prop}(h1:c->A)(h2 : ¬ c->B):if decide c=true then A else B:=by
 by_cases h:c
 .rw[decide_eq_true h];exact y6 (h1 h)
 .rw[decide_eq_false h];exact Dm (h2 h)
nonrec def bc:R2:=yK λi j=>.int (i+j)
nonrec def kf:R2:=yK λi j=>.int (i-j)
nonrec def ik:R2:=rI EH λi j=>.int (i*j)
nonrec def cI:R2:=rI Mh λi j=>.int (i / j)
nonrec def jb:R2:=rI P4 λi j=>.int (i.fdiv j)
nonrec def a6:R2:=rI (λ_ j=>0<j) λi j=>.int (i % j)
nonrec def Km:R2:=rI (λ_ j=>j≠0) λi j=>.int (i.fmod j)
nonrec def Kj:R2:=rI P3 λi j=>.int (i ^ j.toNat)
nonrec def yJ:R2:=yK λi j=>.bl (decide (i<j))
nonrec def RS:R2:=yK λi j=>.bl (decide (i<=j))
nonrec def zm:R2:=yK λi j=>.bl (decide (j<i))
nonrec def BO:R2:=λx y H Q=>y=.non/\Q (.bl (decide (x=.non))) H
nonrec def Kl:R2:=λx y H Q=>y=.non/\Q (.bl (!decide (x=.non))) H
nonrec def Ks:R2:=λx y H Q=>∃i j,x=.str i/\y=.str j/\i.length+j.length<=sizeLine/\Q (.str (i++j)) H
nonrec def M8:List V->Hp->VK->Prop:=λxs H Q=>∃i,xs=[.int i]/\Q (.int (if i<0 then -i else i)) H
nonrec def bz(K:Fg):List V->Hp->VK->Prop:=λxs H Q=>∃p ys,xs=[.ref p]/\(SqL K H p ys\/SqT K H p ys)/\Q (.int (UD ys)) H
nonrec def M6(K:Fg):List V->Hp->VK->Prop:=λxs H Q=>∃x n t b,xs=[x,.ty n]/\TyOf K H x t/\Xg K t (.type n)=some b/\Q (.bl b) H
nonrec def Kr:List V->Hp->VK->Prop:=λxs H Q=>(∃i,xs=[.int i]/\Q (.int i) H)\/∃k,xs=[.bl k]/\Q (.int (if k then 1 else 0)) H
nonrec def eT(K:Fg):List V->Hp->VK->Prop:=λxs H Q=>∃p ys,xs=[.ref p]/\((SqL K H p ys/\∀l,H l=none->Q (.ref l) (upd H l (.tup ys)))\/(SqT K H p ys/\Q (.ref p) H))
nonrec def eU(K:Fg):List V->Hp->VK->Prop:=λxs H Q=>∃p ys,xs=[.ref p]/\(SqL K H p ys\/SqT K H p ys)/\∀l,H l=none->Q (.ref l) (upd H l (.lst ys))
def Om{K:Fg}:Xg K (.type "int") (.type "int")=some true:=by rfl
def On{K:Fg}:Xg K (.type "int") (.type "bool")=some false:=by
 show ZbM K (.type "int") (.type "bool")=some false;unfold ZbM
 kernel_rfl
structure RN (X:Cx):Prop where
 stk:X.stack=X.env :: X.outer
 iQ:X.env.frame=some X.env.locals
 exs:X.ex=[]
section
variable{P:TK}{w:Ub}{K:Fg}{mg:Str->Option Su}{base:Heap}{x:Str}{st:Stmt}{N ps:List Str}{k:Nat}{sp:Sp}
def JI:0<=sizeLine:=by decide
def cT:1<=sizeLine:=by decide
def aR:2<=sizeLine:=by decide
def gg:3<=sizeLine:=by decide
def JH:6<=sizeLine:=by decide
def aI{N:List Str}{n:Nat}(hN:UD N=n)(vs:List V):L2.start N vs=vs.map some++SR (n-UD vs) none:=by
 subst hN;rfl
def aE.okN(F:aE K mg x st ps)(S:au N ps (aj st))(len:∀vs H Q E,sp vs H Q E->UD vs=UD ps)
  (hbody:∀(f:Addr) (cdv:Su) (A:Uc) (outer:List Env) (s:SB) (H:Hp) (vs:List V) (Q:VK) (E:XK),N.Nodup->Room k (A.deeper (envOfC x (aj st) s.heap.objs.size f cdv))->(A.deeper (envOfC x (aj st) s.heap.objs.size f cdv)).units+64<cLine->(A.deeper (envOfC x (aj st) s.heap.objs.size f cdv)).units+1<cLine->(∀{M:Model} {A:Uc} {env:Env},PassesOwn M A env λ_ _=>False)->RN (pZ ba P w K mg base N x (aj st) f cdv A outer s H E).nox->sp vs H Q E ->
   ∃t,PSs (pZ ba P w K mg base N x (aj st) f cdv A outer s H E).nox (cF st) t/\t {nx:=λ_ H'=>Q .non H',rt:=Q} (start N vs) H):FnC P w K mg base ba (k+1) x ps sp :=
 F.ok S len λf cdv A outer s H vs Q E hr h=>hbody f cdv A outer s H vs Q E S.nd hr hr.units (Tk (Z5 (by decide:1<=64) _) hr.units) Zbu ⟨rfl,rfl,rfl⟩ h
end
open PySem PySem.Spec PyProof.Rows PySem.W Builtin Builtin.ObjectAttr Builtin.Getset_descriptor
open PySem PySem.Spec PyProof.Rows PySem.W
open PySem.W (Dat kqdP kqdPs kqdOk)
mutual
inductive Rep (K:Fg) (H:Hp):V->Dat->Prop
 |non:Rep K H .non .none
 |bl (b:Bool):Rep K H (.bl b) (.bool b)
 |int (i:Int):Rep K H (.int i) (.int i)
 |str (x:Str):Rep K H (.str x) (.str x)
 |tup {a:Addr} {xs:List V} {ds:List Dat}:SqT K H a xs->RepL K H xs ds->Rep K H (.ref a) (.tuple ds)
 |lst {a:Addr} {xs:List V} {ds:List Dat}:SqL K H a xs->RepL K H xs ds->Rep K H (.ref a) (.list ds)
inductive RepL (K:Fg) (H:Hp):List V->List Dat->Prop
 |nil:RepL K H [] []
 |cons {v:V} {d:Dat} {vs:List V} {ds:List Dat}:Rep K H v d->RepL K H vs ds->RepL K H (v :: vs) (d :: ds)
end
section
variable{X:Cx}{G:List (Addr×Obj)}{σ:St}{H:Hp}{s:SB}
mutual
def Rep.reads(I:Inv X G σ H s):∀{v:V} {d:Dat} {u:Su},Rep X.K H v d->RelV v u->∃as,Reads s.heap u (kqdP d) as
 |_,_,u,.non,r=>by
  cases (show u=U8 from r);exact⟨_,Reads.none⟩
 |_,_,u,.bl b,r=>by
  cases (show u=Ze b from r);exact⟨_,Reads.bool b⟩
 |_,_,u,.int i,r=>by
  obtain⟨t,e⟩:=(show ∃t,u=WF i t from r)
  cases e;exact⟨_,Reads.int i t⟩
 |_,_,u,.str x,r=>by
  obtain⟨t,e⟩:=(show ∃t,u=ZZ x t from r)
  cases e;exact⟨_,Reads.str x t⟩
 |_,_,u,@Rep.tup _ _ a xs ds h q,r=>by
  cases (show u=TU a from r);obtain⟨de,rv,⟨o,e,c,n,dd⟩,_⟩:=I.tuple h;obtain⟨as,p⟩:=RepL.reads I q rv;rw[kqdP];exact⟨_,Reads.tuple e c dd (by simpa using p)⟩
 |_,_,u,@Rep.lst _ _ a xs ds h q,r=>by
  cases (show u=TU a from r);obtain⟨de,rv,⟨o,n,e,c,_,dd⟩,_⟩:=I.list h;obtain⟨as,p⟩:=RepL.reads I q rv;rw[kqdP];exact⟨_,Reads.list e c dd (by simpa using p)⟩
def RepL.reads(I:Inv X G σ H s):∀{vs:List V} {ds:List Dat} {us:List Su},RepL X.K H vs ds->Vals vs us->∃as,ReadsAll s.heap us (kqdPs ds) as
 |_,_,_,.nil,.nil=>by
  rw[kqdPs];exact⟨_,ReadsAll.nil⟩
 |_,_,_,.cons h q,.cons r rr=>by
  obtain⟨as,p⟩:=Rep.reads I h r;obtain⟨bs,p'⟩:=RepL.reads I q rr;rw[kqdPs];exact⟨_,ReadsAll.cons p p'⟩
end
open Classical in
def vZ{ds:List Dat}(ha:∀e∈ds,kqdOk 8 e=true)(hd:kqdOk 8 d=true):((kqdPs ds).any λy=>W1 y (kqdP d))=decide (d∈ds):=by
 by_cases z:d∈ds
 .rw[decide_eq_true z];exact(Zbv ds d ha hd).mpr z
 .rw[decide_eq_false z];exact Bool.eq_false_iff.mpr λy=>z ((Zbv ds d ha hd).mp y)
open Classical in
abbrev i_(K:Fg)(di:Bool):R2:=λx y H Q=>∃d ds,Rep K H x d/\Rep K H y (.list ds)/\(∀e∈ds,kqdOk 8 e=true)/\kqdOk 8 d=true/\Q (.bl (if di then !decide (d∈ds) else decide (d∈ds))) H
def Dr{A:Uc}(hd:kqdOk 8 d=true)(hu:A.units+64<cLine):A.units+1+min (X2 (kqdPs ds)) (kqdP d).depth<cLine:=by
 have l:=(Wm 8 d hd).2
 have:=XB (X2 (kqdPs ds)) (kqdP d).depth
 lia
def NZ(hu:X.A.units+64<cLine):fe X (compareOp .In) (i_ X.K false):=by
 intro G s σ H x y v u Q I rx ry h;obtain⟨d,ds,hd,he,ka,kd,q⟩:=h;obtain⟨as,ra⟩:=Rep.reads I hd rx;obtain⟨bs,rb⟩:=Rep.reads I he ry;rw[kqdP] at rb;exact SeqAt.in_list_reads rb ra (Y5 ka).1 (Wm 8 d kd).1 (Dr kd hu) ⟨_,H,I,(by rw[vZ ka kd];rfl),q⟩
def Cu(hu:X.A.units+64<cLine):fe X (compareOp .NotIn) (i_ X.K true):=by
 intro G s σ H x y v u Q I rx ry h;obtain⟨d,ds,hd,he,ka,kd,q⟩:=h;obtain⟨as,ra⟩:=Rep.reads I hd rx;obtain⟨bs,rb⟩:=Rep.reads I he ry;rw[kqdP] at rb;exact SeqAt.notIn_list_reads rb ra (Y5 ka).1 (Wm 8 d kd).1 (Dr kd hu) ⟨_,H,I,(by rw[vZ ka kd];rfl),q⟩
end
abbrev aQ(X:Cx)(ys M:List Str)(scope:Scope)(cl:List (Str×Addr))(C:Addr)(s:SB)(H:Hp)(fp:List Addr)(G:List (Addr×Obj)):Cx where
 prog:=X.prog
 w:=X.w
 K:=X.K
 mg:=X.mg
 base:=X.base
 A:=X.A
 N:=ys++M
 s₀:=s
 H₀:=H
 env:=compEnvC scope cl C X.env
 outer:=X.stack
 stack:=X.stack
 ex:=fp
 fn:=λ_=>false
 calm:=X.calm
 pn:=X.pn++G
 xe:=λ_ _=>False
structure iT (X:Cx) (ys M:List Str) (scope:Scope) (cl:List (Str×Addr)):Prop where
 kind:scope.kind=.function
 nocell:∀y∈scope.names,y.2≠.cell
 names:∀y∈scope.names,y.2=.local->scope.names.lookup y.1=some .local
 own:∀y∈ys,scope.names.lookup y=some .local
 clos:closureFor scope X.env=pure cl
 nd:(ys++M).Nodup
 len:UD M=X.N.length
 same:∀p∈M.zip X.N,p.1=p.2\/(relabel scope X.env).names.lookup p.1=none
 apart:∀y∈M,(relabel scope X.env).names.lookup y≠some .local
 cells:∀y c,cl.lookup y=some c->X.env.cells.lookup y=some c/\(X.env.scope.names.lookup y=some .cell\/X.env.scope.names.lookup y=some .free)
 has:∀y,((relabel scope X.env).names.lookup y=some .cell\/(relabel scope X.env).names.lookup y=some .free)->∃c,cl.lookup y=some c
section
variable{X:Cx}{ys M:List Str}{scope:Scope}{cl:List (Str×Addr)}{C:Addr}{s:SB}{H:Hp}{fp:List Addr}{G:List (Addr×Obj)}{σ:St}
def GY{h1:Heap}{tk:Nat}(I:Inv X G σ H s)(c:iT X ys M scope cl)(eC:C=s.heap.objs.size)(hns:h1.Ns C (λ_=>none))(hsb:Vz C (s.heap.push o) h1)
  (fk:∀b∈fp,iC X G H b/\∃o,s.heap.get? b=some o):Inv (aQ X ys M scope cl C s H fp G) [] (SR (UD ys) none ++ σ) H {s with heap:=h1,toks:=tk}:=by
 have keep:∀b u,s.heap.get? b=some u->h1.get? b=some u:=λb u e=>hsb.extBut b u (by rw[eC];exact TN (Td e)) (Sy _ e)
 have neC:∀b u,s.heap.get? b=some u->b≠C:=λb u e=>by rw[eC];exact TN (Td e)
 have out:∀{b:Addr},b≠X.env.locals->b∉X.fs->b∉zt X.stack:=λh1 h2 z=>(S_.mp (I.AI _ z)).elim h1 h2
 refine⟨⟨I.ok.mod,c.kind,I.ok.glob,I.ok.blt,by rw[eC];exact Sx _,λy z a h1 h2=>I.ok.inj y z a (c.cells y a h1).1 (c.cells z a h2).1,c.has,λy a z _=>Y6 z,I.ok.hd,I.ok.frames,.inl rfl,λb hb=>?_,I.bs,Ta I.ok.bsz I.sz,λb u e hb=>?_,λb hb=>?_,I.stack,I.AJ⟩,
  rfl,I.bare,Un.kept keep,⟨_,hns,λi y v e1 e2 e3=>?_⟩,λy a e=>?_,I.hok.fresh (by rw[eC];exact Sx _),λy a e=>I.freeC y a (c.cells y a e).1,λp hp=>?_,I.hok.kept keep,?_⟩
 .obtain⟨⟨_,_,_,_,f5,_⟩,u,e⟩:=fk b hb;exact⟨neC b u e,λy a q=>f5 y a (c.cells y a q).1⟩
 .obtain⟨⟨_,_,_,f4,_,_⟩,_⟩:=fk b hb;rcases f4 with z|z
  .exact I.ok.noex b u e z
  .exact absurd (Tf (Td (I.ok.bs b u e).1) z) (VZ _)
 .obtain⟨⟨_,f2,f3,_,_,_⟩,_⟩:=fk b hb;exact out f2 f3
 .by_cases lt:i<UD ys
  .have e2':(SR (UD ys) (none:Option V) ++ σ)[i]?=some (some v):=e2;rw[Tx (by simpa using lt),Wa lt] at e2';cases e2'
  .have e0:M[i-UD ys]?=some y:=by
    have e1':(ys++M)[i]?=some y:=e1
    rwa [TH ∅] at e1'
   have e2':σ[i-UD ys]?=some (some v):=by
    have e2':(SR (UD ys) (none:Option V) ++ σ)[i]?=some (some v):=e2
    rwa [TH (by simpa using lt),Uh] at e2'
   have hy:y∈M:=Sq e0
   have vis0:(relabel scope X.env).names.lookup y≠none:=by
    rcases e3 with z|z|z <;> (intro q;have q':=(show(relabel scope X.env).names.lookup y=some _ from z).symm.trans q;cases q')
   have e1':X.N[i-UD ys]?=some y:=by
    have Ds:i-UD ys<X.N.length:=by rw[<- c.len];exact(Sn.mp e0).1
    have hz:(y,X.N[i-UD ys])∈M.zip X.N:=by
     refine Sq (i:=i-UD ys) ?_;rw[List.getElem?_zip_eq_some];exact⟨e0,Sk Ds⟩
    rcases c.same _ hz with q|q
    .rw[Sk Ds];exact congrArg some q.symm
    .exact absurd q vis0
   have e3':(relabel scope X.env).names.lookup y=some .cell\/(relabel scope X.env).names.lookup y=some .free:=by
    rcases e3 with z|z|z
    .exact absurd z (c.apart y hy)
    .exact .inl z
    .exact .inr z
   obtain⟨a,ea⟩:=c.has y e3';obtain⟨q1,q2⟩:=c.cells y a ea;obtain⟨m,_,hl⟩:=I.loc;have vis:P7 X.env.scope y:=.inr q2;obtain⟨u,ru,lu⟩:=hl (i-UD ys) y v e1' e2' vis;refine⟨u,ru,.inr ⟨e3',a,ea,?_⟩⟩;rcases lu with⟨z,_⟩|⟨_,a',ea',⟨oc,hoc,hd⟩⟩
   .have z':X.env.scope.names.lookup y=some .local:=z;rcases q2 with q2|q2 <;> (rw[z'] at q2;cases q2)
   .rw[q1] at ea';cases ea';exact⟨oc,keep _ _ hoc,hd⟩
 .obtain⟨v,oc,hoc,hd⟩:=I.cell y a (c.cells y a e).1;exact⟨v,oc,keep _ _ hoc,hd⟩
 .have hp':p∈X.pn++G:=by simpa[aQ] using hp
  obtain⟨q1,q2,q3,q4,q5⟩:=I.pin p hp';exact⟨keep _ _ q1,q2,neC _ _ q1,out q3 q4,q5⟩
 .show(SR (UD ys) none ++ σ).length=(ys++M).length;rw[SC,SC,Uh,I.len,c.len]
def y8(I:Inv X G σ H s)(fk:∀b∈fp,iC X G H b/\∃o,s.heap.get? b=some o)(I':Inv (aQ X ys M scope cl C s H fp G) pins' σ' H' s1):Inv X G σ H' s1 :=
 I.call' (ch:=fp) I'.os I'.base I'.hok I'.bare λb hb=>let ⟨⟨_,f2,_,f4,f5,f6⟩,_⟩:=fk b hb;⟨f4,f2,f5,f6⟩
abbrev we(J:It)(n:Nat)(g:TG)(te:TE)(σ:St)(Q:VK)(H1:Hp):Prop:=∀D,H1 D=none->∃W:Nat->Nat->Hp->Prop,(∃m,W 0 m (upd H1 D (.lst [])))/\∀i m H,W i m H ->
 (J.stop i H/\Q (.ref D) H)\/(J.go i H/\∀v H',J.yld i H v H'->∀us:St,UD us=n->g v (us ++ σ) H' λσ2 H2=>(∃us':St,UD us'=n/\σ2=us' ++ σ)/\te σ2 H2 λy H3=>∃xs,H3 D=some (.lst xs)/\xs.length<sizeLine/\∃m',m'<m/\W (i+1) m' (upd H3 D (.lst (xs++[y]))))
abbrev c5(wi:TI)(n:Nat)(g:TG)(te:TE):TE:=λσ H Q=>wi σ H λJ H1=>we J n g te σ Q H1
abbrev cy(J:It)(te:TE)(σ:St)(Q:VK)(H1:Hp):Prop:=∀D,H1 D=none->∃W:Nat->Nat->Hp->Prop,(∃m,W 0 m (upd H1 D (.lst [])))/\∀i m H,W i m H ->
 (J.stop i H/\Q (.ref D) H)\/(J.go i H/\∀v H',J.yld i H v H'->te (some v :: σ) H' λy H2=>∃xs,H2 D=some (.lst xs)/\xs.length<sizeLine/\∃m',m'<m/\W (i+1) m' (upd H2 D (.lst (xs++[y]))))
abbrev ck(wi:TI)(te:TE):TE:=λσ H Q=>wi σ H λJ H1=>cy J te σ Q H1
def xL{σ:St}{Q:VK}(h:cy J te σ Q H1):we J 1 (ak 0) te σ Q H1:=by
 intro D nD;obtain⟨W,h0,hs⟩:=h D nD;refine⟨W,h0,λi m H w=>?_⟩;rcases hs i m H w with q|⟨go,st⟩
 .exact .inl q
 .refine .inr ⟨go,λv H' y us hu=>?_⟩;obtain⟨u,rfl⟩:∃u,us=[u]:=US.mp hu;exact⟨⟨[some v],rfl,rfl⟩,st v H' y⟩
abbrev P1(J:It)(n:Nat)(g:TG)(tc:TT)(te:TE)(σ:St)(QQ:Addr->Hp->Prop)(H1:Hp):Prop:=∀D,H1 D=none->∃W:Nat->Nat->Hp->Prop,(∃m,W 0 m (upd H1 D (.lst [])))/\∀i m H,W i m H ->
 (J.stop i H/\QQ D H)\/(J.go i H/\∀v H',J.yld i H v H'->∀us:St,UD us=n->g v (us ++ σ) H' λσ2 H2=>(∃us':St,UD us'=n/\σ2=us' ++ σ)/\tc σ2 H2 λb H3 =>
  if b=true then te σ2 H3 λy H4=>∃xs,H4 D=some (.lst xs)/\xs.length<sizeLine/\∃m',m'<m/\W (i+1) m' (upd H4 D (.lst (xs++[y]))) else ∃m',m'<m/\W (i+1) m' H3)
nonrec def EA(J:It)(n:Nat)(g:TG)(tc:TT)(te:TE)(σ:St)(Q:VK)(H1:Hp):Prop:=P1 J n g tc te σ (λD H=>Q (.ref D) H) H1
abbrev d5(wi:TI)(n:Nat)(g:TG)(tc:TT)(te:TE):TE:=λσ H Q=>wi σ H λJ H1=>EA J n g tc te σ Q H1
nonrec def Mt(ifs:List Expr)(env:Env):Sem Bool:=forIn ifs true λc r=>if r=true then (do let ok <- isTrue c env (eval c env);pure (X3 ok)) else pure (X3 r)
abbrev PN(X:Cx)(ifs:List Expr)(tc:TT):Prop:=∀(G:List (Addr×Obj)) (s:SB) (σ:St) (H:Hp) (Q:Bool->Hp->Prop),Inv X G σ H s->tc σ H Q->wpAny (model X.prog X.w) X.A (Mt ifs X.env) (λb s'=>∃H',Inv X G σ H' s'/\Q b H') X.xe s
nonrec def Jw:TT:=λ_ H Q=>Q true H
def BR{X:Cx}:PN X [] Jw:=λ_ _ _ H _ I h=>wpAny_tests_nil ⟨H,I,h⟩
def BQ{X:Cx}(h:PT X c tc):PN X [c] tc:=λG s σ H Q I q=>wpAny_tests_one (h G s σ H Q I q)
def Ec{R:Za7->SB->Prop}{s:SB}{iter:Expr}{scope:Scope}{acc:Su}(I:Nat->SB->Prop)
  (turn:∀n s,I n s->wpAny (model prog w) A (pyNext it) (λr s1=>match r with
   |none=>R (.ok .next) s1
   |some v=>wpAny (model prog w) A (letOwnedTupleGo target it v) (λ_ s2=>wpAny (model prog w) A (assign target env v) (λ_ s3=>wpAny (model prog w) A (Mt ifs env) (λok s4 =>
     if ok=true then wpAny (model prog w) A (eval elt env) (λx s5=>wpAny (model prog w) A (call (.builtin "list.append") [acc,x]) (λ_ s6=>∃m,m<n/\I m s6) (λ_ _=>False) s5) (λ_ _=>False) s4
     else ∃m,m<n/\I m s4) (λ_ _=>False) s3) (λ_ _=>False) s2) (λ_ _=>False) s1) (λ_ _=>False) s) (n:Nat) (h:I n s) :
  codeAny (model prog w) A (.compLoop (.ListComp elt [⟨target,iter,ifs,0⟩] scope pos) 0 it acc env) R s:=by
 refine codeAny_loop rfl I (λk s1 hI=>?_) n h;have no:∀{α:Type} {t:Sem α} {P:α->SB->Prop} {E:Su->SB->Prop} {z:SB},wpAny (model prog w) A t P (λ_ _=>False) z->wpAny (model prog w) A t P E z:=λq=>UK q (λ_ _ z=>z) λ_ _ z=>z.elim
 show wpAny _ _ ((compTurn (.ListComp elt [⟨target,iter,ifs,0⟩] scope pos) 0 it acc env).onRaise _) _ _ s1;refine wpAny_noted ?_;rw[compTurn_list];refine Ss (YO (Ss (no (UK (turn k s1 hI) (λr s2 h2=>?_) λ_ _ z=>z))));cases r with
 |none=>exact SN h2
 |some v =>
  refine Ss (no (UK h2 (λ_ s3 h3=>?_) λ_ _ z=>z));refine Ss (no (UK h3 (λ_ s4 h4=>?_) λ_ _ z=>z));refine Ss (no (UK h4 (λok s5 h5=>?_) λ_ _ z=>z));cases ok with
  |true =>
   rw[if_pos rfl] at h5;refine Ss (Ss (no (UK h5 (λx s6 h6=>?_) λ_ _ z=>z)));exact Ss (no (UK h6 (λ_ s7 h7=>SN (SN ⟨rfl,h7⟩)) λ_ _ z=>z))
  |false =>
   rw[if_neg SX] at h5;exact SN ⟨rfl,h5⟩
def sC{iter:Expr}{E:Su->SB->Prop}{QQ:Addr->Hp->Prop}{RR:Su->Addr->Za7->SB->Prop}(I:Inv X G σ H s)(c:iT X ys M scope cl)(hc:X.calm=true)
  (hg:∀C s₀ H₀ fp G,PG (aQ X ys M scope cl C s₀ H₀ fp G) tg g) (ht:∀C s₀ H₀ fp G,PN (aQ X ys M scope cl C s₀ H₀ fp G) ifs tc) (he:∀C s₀ H₀ fp G,PE (aQ X ys M scope cl C s₀ H₀ fp G) elt te) (T:wc X.prog X.w X.K tg J fp it tn) (st:tn 0 s.heap) (fk:∀b∈fp,iC X G H b)
  (h:P1 J (UD ys) g tc te σ QQ H)
  (fin:∀D C H' s',s.heap.objs.size<=C->s'.heap.get? C≠none->(∃m,s'.heap.Ns C m)->H' C=none->Inv X G σ H' s'->QQ D H'->RR (.ref D) C (.ok .next) s') :
  wpAny (model X.prog X.w) X.A (newList []) (λacc s₃=>wpAny (model X.prog X.w) X.A (newFunctionEnv scope X.env.globals cl [] X.env.qual none .none (some X.env)) (λcenv s₄ =>
   codeAny (model X.prog X.w) X.A (.compStart (.ListComp elt [⟨tg,iter,ifs,0⟩] scope pos) 0 (.ref it) acc {cenv with scope:=relabel scope X.env}) (RR acc cenv.locals) s₄) E s₃) E s:=by
 refine UI (wpAny_newFunctionEnv c.nocell (by intro y hy;simp at hy) (λh1 hns hsb=>?_) c.kind);dsimp only at hns hsb ⊢;have hf:H s.heap.objs.size=none:=I.hok.fresh (Sx _)
 have I3:Inv X G σ (upd H s.heap.objs.size (.lst [])) {s with heap:=s.heap.push {cls:=.type "list",dict:=none,data:=.seq ([]:List Su).toArray}} :=
  I.laid (t':=s.toks) (λb u e=>Sy _ e) (Sx _) ⟨by decide,[],_,.nil,Th _ rfl⟩
 have eD:∀b u,s.heap.get? b=some u->b≠s.heap.objs.size:=λb u e=>TN (Td e)
 have fk3:∀b∈fp,iC X G (upd H s.heap.objs.size (.lst [])) b/\∃o,(s.heap.push {cls:=.type "list",dict:=none,data:=.seq ([]:List Su).toArray}).get? b=some o:=λb hb=>by
  obtain⟨o,eo,_⟩:=T.obj 0 _ st b hb;obtain⟨f1,f2⟩:=fk b hb;exact⟨⟨by rw[aB (eD b o eo)];exact f1,f2⟩,o,Sy _ eo⟩
 have I4:=GY (tk:=s.toks+([]:List (Str×Su)).length) I3 c rfl hns hsb fk3;obtain⟨W,⟨m0,w0⟩,turn⟩:=h _ hf
 have st4:tn 0 h1:=T.keep 0 _ _ st λb hb o e=>by
  have e2:=Sy {cls:=.type "list",dict:=none,data:=.seq ([]:List Su).toArray} e;exact hsb.extBut b o (TN (Td e2)) (Sy _ e2)
 have stat:∀{H':Hp},(∀b∈fp,H' b=none)->∀b∈fp,iC (aQ X ys M scope cl (s.heap.push {cls:=.type "list",dict:=none,data:=.seq ([]:List Su).toArray}).objs.size {s with heap:=s.heap.push {cls:=.type "list",dict:=none,data:=.seq ([]:List Su).toArray}} (upd H s.heap.objs.size (.lst [])) fp G) [] H' b :=
  λhn b hb=>⟨hn b hb,(I4.ok.exf b hb).1,I4.ok.exfs b hb,.inl hb,(I4.ok.exf b hb).2,λp hp=>(fk3 b hb).1.2.2.2.2.2 p (by simpa[aQ] using hp)⟩
 have loop:∀s4:SB,s4 = {s with heap:=h1,toks:=s.toks+([]:List (Str×Su)).length} ->
   codeAny (model X.prog X.w) X.A (.compLoop (.ListComp elt [⟨tg,iter,ifs,0⟩] scope pos) 0 (.ref it) (.ref s.heap.objs.size) (compEnvC scope cl (s.heap.push {cls:=.type "list",dict:=none,data:=.seq ([]:List Su).toArray}).objs.size X.env))
    (RR (.ref s.heap.objs.size) (s.heap.push {cls:=.type "list",dict:=none,data:=.seq ([]:List Su).toArray}).objs.size) s4:=by
  rintro s4 rfl
  refine Ec (λn s'=>∃(i:Nat) (us:St) (H':Hp),UD us=(UD ys)/\Inv (aQ X ys M scope cl (s.heap.push {cls:=.type "list",dict:=none,data:=.seq ([]:List Su).toArray}).objs.size {s with heap:=s.heap.push {cls:=.type "list",dict:=none,data:=.seq ([]:List Su).toArray}} (upd H s.heap.objs.size (.lst [])) fp G) [] (us ++ σ) H' s'/\tn i s'.heap/\(∀b∈fp,H' b=none)/\W i n H')
   ?_ m0 ⟨0,_,_,Uh,I4,st4,λb hb=>(fk3 b hb).1.1,w0⟩
  rintro n s5 ⟨i,us,H5,lu,I5,st5,fr5,w5⟩;rcases turn i n H5 w5 with⟨stop,q⟩|⟨go,step⟩
  .refine a_ (T.done (aQ X ys M scope cl _ _ _ _ _) rfl rfl rfl hc i [] s5 _ H5 _ I5 (stat fr5) st5 stop) λr s6 ω=>?_;obtain⟨er,I6⟩:=ω
   subst er;obtain⟨m,hn6,_⟩:=id I6.loc;obtain⟨o6,_,_,ho6,_⟩:=id hn6;exact fin _ _ H5 s6 (by rw[VL];exact XQ _) (λz=>by have z':=ho6.symm.trans z;cases z') ⟨m,hn6⟩ I6.free (y8 I3 fk3 I6) q
  .refine a_ (T.item (aQ X ys M scope cl _ _ _ _ _) rfl rfl rfl hc i [] s5 _ H5 _ I5 (stat fr5) st5 go) λr s6 ω=>?_;obtain⟨u,er,h6⟩:=ω
   subst er;refine a_ h6 λ_ s7 ω=>?_;obtain⟨v',H7,I7,r7,y7,st7,fr7⟩:=ω
   have I7':=I7.pinned (stat fr7) (T.obj _ _ st7);refine UK (hg _ _ _ _ _ _ s7 _ H7 v' u _ I7' r7 (step v' H7 y7 us lu)) (λ_ s8 ω=>?_) λ_ _ z=>z.elim;obtain⟨σ8,H8,I8,⟨us',lu',e8⟩,q8⟩:=ω
   refine UK (ht _ _ _ _ _ _ s8 _ H8 _ I8 q8) (λok s9 ω=>?_) λ_ _ z=>z.elim;obtain⟨H9,I9,q9⟩:=ω
   subst e8;cases ok with
   |true =>
    rw[if_pos rfl] at q9 ⊢;refine UK (he _ _ _ _ _ _ s9 _ H9 _ I9 q9) (λy s10 ω=>?_) λ_ _ z=>z.elim;obtain⟨yv,H10,I10,ry,xs,hxs,hlen,m',hm,w10⟩:=ω
    refine UK (rT (X:=aQ X ys M scope cl _ _ _ _ _) _ s10 _ H10 (.ref s.heap.objs.size) [yv] (.ref s.heap.objs.size) [y] (λ_ H11=>H11=upd H10 s.heap.objs.size (.lst (xs++[yv]))) I10 rfl (.cons ry .nil) ⟨_,xs,yv,rfl,rfl,hxs,hlen,rfl⟩) (λ_ s11 ω=>?_) λ_ _ z=>z.elim;obtain⟨z,H11,I11,rz,q11⟩:=ω
    subst q11;refine⟨m',hm,i+1,us',_,lu',I11.gE (G:=[]),T.keep _ _ _ st7 λb hb o e=>(I11.pin (b,o) (SW _ (SW _ (cR hb e)))).1,λb hb=>?_,w10⟩;obtain⟨o,e,_⟩:=T.obj _ _ st7 b hb;exact(I11.pin (b,o) (SW _ (SW _ (cR hb e)))).2.1
   |false =>
    rw[if_neg SX] at q9 ⊢;obtain⟨m',hm,w9⟩:=q9;refine⟨m',hm,i+1,us',_,lu',I9.gE (G:=[]),T.keep _ _ _ st7 λb hb o e=>(I9.pin (b,o) (SW _ (SW _ (cR hb e)))).1,λb hb=>?_,w9⟩;obtain⟨o,e,_⟩:=T.obj _ _ st7 b hb;exact(I9.pin (b,o) (SW _ (SW _ (cR hb e)))).2.1
 exact codeAny_compStart_list (loop _ rfl) (T.self _ 0 _ _ _ st4 (loop _ rfl))
end
section
variable{X:Cx}{ys M:List Str}{x:Str}{scope:Scope}{cl:List (Str×Addr)}
def wR{iter:Expr}(c:iT X ys M scope cl)(hc:X.calm=true)(hi:PI X tg iter wi)(hg:∀C s₀ H₀ fp G,PG (aQ X ys M scope cl C s₀ H₀ fp G) tg g)(ht:∀C s₀ H₀ fp G,PN (aQ X ys M scope cl C s₀ H₀ fp G) ifs tc)(he:∀C s₀ H₀ fp G,PE (aQ X ys M scope cl C s₀ H₀ fp G) elt te)
  (hs:∀v,foldedSetIterable iter X.env v=pure v:=by intro _;rfl):PE X (.ListComp elt [⟨tg,iter,ifs,0⟩] scope pos) (d5 wi (UD ys) g tc te):=by
 intro G s σ H Q I h;rw[eval_ListComp];refine YS (use:=none) rfl hs c.clos c.kind c.names (a_ (hi G s σ H _ I h) λv s1 h1=>a_ h1 λitv s2 h2=>?_);obtain⟨it,fp,tn,J,H2,rfl,I2,T,st2,fk2,h3⟩:=h2;refine sC (E:=X.xe) (QQ:=λD H'=>Q (.ref D) H') I2 c hc hg ht he T st2 fk2 h3 λD C H' s' hC hl ns fr I' q=>?_
 obtain⟨m,hn⟩:=ns;refine⟨m,hn,λh' hs'=>?_⟩;have sz:=I2.sz;exact⟨.ref D,H',I'.turned (t':=s'.toks) (λb o hb e=>(hs'.2 b hb).trans e) fr (I2.fpOk hC fr).2.1 (I2.fpOk hC fr).2.2.2.1 (I2.fpOk hC fr).2.2.2.2.1 (I2.fpOk hC fr).2.2.2.2.2,rfl,q⟩
def wO{iter:Expr}{sp:Pos}{i:Nat}{y:Str}(hy:X.N[i]?=some y)(ly:X.env.scope.names.lookup y=some .local)(c:iT X ys M scope cl)(hN:X.N.Nodup)(hc:X.calm=true)(hi:PI X tg iter wi)
  (hg:∀C s₀ H₀ fp G,PG (aQ X ys M scope cl C s₀ H₀ fp G) tg g) (ht:∀C s₀ H₀ fp G,PN (aQ X ys M scope cl C s₀ H₀ fp G) ifs tc) (he:∀C s₀ H₀ fp G,PE (aQ X ys M scope cl C s₀ H₀ fp G) elt te)
  (hsw:swapsWith (.ListComp elt [⟨tg,iter,ifs,0⟩] scope pos) (some (.Name y py)) sp.line X.env=pure true:=by rfl) (hs:∀v,foldedSetIterable iter X.env v=pure v:=by intro _;rfl) :
  PS X (.Assign [.Name y py] (.ListComp elt [⟨tg,iter,ifs,0⟩] scope pos) sp) (ay (d5 wi (UD ys) g tc te) (ak i)):=by
 intro G s σ H D I h;rw[exec_Assign_Name_used _ _ _ _ hsw];refine Ss (YO (Ss ?_));show wpAny _ X.A (do let _ <- comprehension (.ListComp elt [⟨tg,iter,ifs,0⟩] scope pos) scope X.env _ (newList []) false (eval iter X.env) (some (assign (.Name y py) X.env))) _ _ s;refine Ss (UK (YS (use:=some (assign (.Name y py) X.env)) (Q:=λ_ s'=>SP X G D .next s') rfl hs c.clos c.kind c.names (a_ (hi G s σ H _ I h) λv s1 h1=>a_ h1 λitv s2 h2=>?_)) (λ_ s' hq=>SN (SN hq)) λ_ _ z=>z);obtain⟨it,fp,tn,J,H2,rfl,I2,T,st2,fk2,h3⟩:=h2;refine sC (E:=X.xe) (QQ:=λDa H'=>D.nx (σ.set i (⇑Da)) H') I2 c hc hg ht he T st2 fk2 h3 λDa C H' s' hC hl ns fr I' q=>?_
 obtain⟨m,hn⟩:=ns;refine wpAny_assign_Name (qA I' hN hy (.inl ly) (v:=.ref Da) rfl (λs3 I3 ω=>?_) (.inr ly));obtain⟨a,hsa,ha⟩:=ω
 have nC:C≠a:=by
  rcases ha with z|z
  .rw[z];exact(I2.fpOk hC fr).2.1
  .exact λw'=>(I2.fpOk hC fr).2.2.2.2.1 y a z w'.symm
 refine⟨m,hn.sameBut hsa nC,λh' hs'=>⟨_,H',I3.turned (t':=s3.toks) (λb o hb e=>(hs'.2 b hb).trans e) fr (I2.fpOk hC fr).2.1 (I2.fpOk hC fr).2.2.2.1 (I2.fpOk hC fr).2.2.2.2.1 (I2.fpOk hC fr).2.2.2.2.2,q⟩⟩
def wQ{iter:Expr}(c:iT X ys M scope cl)(hc:X.calm=true)(hi:PI X tg iter wi)(hg:∀C s₀ H₀ fp G,PG (aQ X ys M scope cl C s₀ H₀ fp G) tg g)(he:∀C s₀ H₀ fp G,PE (aQ X ys M scope cl C s₀ H₀ fp G) elt te)
  (hs:∀v,foldedSetIterable iter X.env v=pure v:=by intro _;rfl):PE X (.ListComp elt [⟨tg,iter,[],0⟩] scope pos) (c5 wi (UD ys) g te):=wR (tc:=Jw) c hc hi hg (λ_ _ _ _ _=>BR) he hs
def wN{iter:Expr}{sp:Pos}{i:Nat}{y:Str}(hy:X.N[i]?=some y)(ly:X.env.scope.names.lookup y=some .local)(c:iT X ys M scope cl)(hN:X.N.Nodup)(hc:X.calm=true)(hi:PI X tg iter wi)
  (hg:∀C s₀ H₀ fp G,PG (aQ X ys M scope cl C s₀ H₀ fp G) tg g) (he:∀C s₀ H₀ fp G,PE (aQ X ys M scope cl C s₀ H₀ fp G) elt te)
  (hsw:swapsWith (.ListComp elt [⟨tg,iter,[],0⟩] scope pos) (some (.Name y py)) sp.line X.env=pure true:=by rfl) (hs:∀v,foldedSetIterable iter X.env v=pure v:=by intro _;rfl) :
  PS X (.Assign [.Name y py] (.ListComp elt [⟨tg,iter,[],0⟩] scope pos) sp) (ay (c5 wi (UD ys) g te) (ak i)):=wO (tc:=Jw) hy ly c hN hc hi hg (λ_ _ _ _ _=>BR) he hsw hs
def Ij(c:iT X [x] M scope cl)(C:Addr)(s₀:SB)(H₀:Hp)(fp:List Addr)(G:List (Addr×Obj)):PG (aQ X [x] M scope cl C s₀ H₀ fp G) (.Name x px) (ak 0):=by
 have hx:(relabel scope X.env).names.lookup x=some .local:=lookup_relabel_local (c.own x (by simp));exact Ci (X:=aQ X [x] M scope cl C s₀ H₀ fp G) (i:=0) c.nd rfl (.inl hx) (.inr hx)
end
abbrev FH(scope sc:Scope):List (Str×Y0):=scope.names.map λ(n,k)=>if (k == .free && sc.kind == .function && sc.names.lookup n == some .cell) then (n,.cell) else (n,k)
abbrev dZ(scope:Scope)(cells:List (Str×Addr)):List (Str×Addr):=((scope.names.filter λn=>n.2 == .free).map λn=>(n.1,(cells.lookup n.1).getD 0)).reverse
structure jr (sc:Scope) (N M ys:List Str) (scope:Scope):Prop where
 kind:scope.kind=.function
 nocell:∀y∈scope.names,y.2≠.cell
 names:∀y∈scope.names,y.2=.local->scope.names.lookup y.1=some .local
 own:∀y∈ys,scope.names.lookup y=some .local
 nd:(ys++M).Nodup
 len:UD M=UD N
 same:∀p∈M.zip N,p.1=p.2\/(FH scope sc).lookup p.1=none
 apart:∀y∈M,(FH scope sc).lookup y≠some .local
 free:∀n∈scope.names,n.2=.free->sc.names.lookup n.1=some .cell
def iO{g:Str->Addr}:∀{l:List (Str×Addr)} {y:Str},(∀n∈l,n.2=g n.1)->∀{c:Addr},l.lookup y=some c->c=g y/\∃n∈l,n.1=y
 |[],_,_,_,h=>by simp at h
 |(n,a) :: r,y,hg,c,h=>by
  by_cases e:y=n
  .subst e;rw[VF,beq_self_eq_true] at h;have h':a=c:=SU h;exact⟨by rw[<- h'];exact hg (y,a) Sv,_,Sv,rfl⟩
  .have e':(y == n)=false:=beq_eq_false_iff_ne.mpr e;rw[VF,e'] at h;obtain⟨h1,m,hm,h2⟩:=iO (λn hn=>hg n (Sw _ hn)) h;exact⟨h1,m,Sw _ hm,h2⟩
def vq{l:List (Str×Addr)}{y:Str}:(∃n∈l,n.1=y)->∃c,l.lookup y=some c:=by
 induction l with
 |nil=>rintro⟨n,hn,_⟩;cases hn
 |cons a r ih =>
  rintro⟨n,hn,e⟩;obtain⟨m,b⟩:=a;by_cases e':y=m
  .subst e';exact⟨b,by rw[VF,beq_self_eq_true]⟩
  .have e2:(y == m)=false:=beq_eq_false_iff_ne.mpr e';rw[VF,e2];refine ih ?_;rcases S_.mp hn with z|z
   .rw[z] at e;exact absurd e.symm e'
   .exact⟨n,z,e⟩
def qa{n:Str×Addr}:n∈dZ scope cells↔∃m∈scope.names,m.2=.free/\n=(m.1,(cells.lookup m.1).getD 0):=by
 unfold dZ;rw[List.mem_reverse,SE];constructor
 .rintro⟨m,hm,rfl⟩;rw[Tt] at hm;exact⟨m,hm.1,beq_iff_eq.mp hm.2,rfl⟩
 .rintro⟨m,hm,hk,rfl⟩;exact⟨m,Tt.mpr ⟨hm,beq_iff_eq.mpr hk⟩,rfl⟩
def mX{env:Env}:∀(names:List (Str×Y0)) (acc:List (Str×Addr)),(∀n∈names,n.2=.free->∃c,env.cells.lookup n.1=some c) ->
  (forIn names acc λx r=>do
   let (name,kind):=x
   if kind == .free then do
    let c <- cellOf env name
    pure (X3 ((name,c) :: r))
   else pure (X3 r):Sem (List (Str×Addr)))=pure (((names.filter λn=>n.2 == .free).map λn=>(n.1,(env.cells.lookup n.1).getD 0)).reverse++acc)
 |[],acc,_=>rfl
 |(n,k) :: r,acc,h=>by
  have ih:=λacc=>mX r acc λm hm=>h m (Sw _ hm)
  rw[List.forIn_cons];by_cases hk:k=.free
  .subst hk;obtain⟨c,hc⟩:=h (n,.free) Sv rfl;have e1:cellOf env n=pure c:=by unfold cellOf;rw[hc]
   simp only[beq_self_eq_true,if_true,e1,pure_bind,Za_,TM,List.reverse_cons,Ur,Xw];rw[hc];exact ih _
  .have hb:(k == ZbY)=false:=beq_eq_false_iff_ne.mpr hk;simp only[hb,Wi,if_false,pure_bind,Za_];exact ih _
def jr.sc{X:Cx}(c:jr X.env.scope X.N M ys scope)(ok:X.Ok):iT X ys M scope (dZ scope X.env.cells):=by
 have hfc:∀n∈scope.names,n.2=.free->∃a,X.env.cells.lookup n.1=some a:=λn hn hk=>ok.has n.1 (.inl (c.free n hn hk))
 refine⟨c.kind,c.nocell,c.names,c.own,?_,c.nd,c.len,c.same,c.apart,λy a h=>?_,λy h=>?_⟩
 .have z:=mX (env:=X.env) scope.names [] hfc;rw[Vy] at z;exact(congrArg (λm:Sem (List (Str×Addr))=>m >>= λcs=>pure cs) z).trans rfl
 .obtain⟨h1,n,hn,e⟩:=iO (g:=λz=>(X.env.cells.lookup z).getD 0) (λn hn=>by obtain⟨m,_,_,rfl⟩:=qa.mp hn;rfl) h;obtain⟨m,hm,hk,e2⟩:=qa.mp hn;have ey:m.1=y:=by rw[<- e,e2]
  obtain⟨a',ha'⟩:=hfc m hm hk;rw[ey] at ha';refine⟨?_,.inl (by rw[<- ey];exact c.free m hm hk)⟩;rw[h1,ha'];rfl
 .have hm:∃m∈scope.names,m.1=y/\m.2=.free:=by
   have go:∀names:List (Str×Y0),(∀z∈names,z.2≠.cell)->((names.map λ(n,k)=>if (k == .free && X.env.scope.kind == .function && X.env.kindOf n == some .cell) then (n,YT) else (n,k)).lookup y=some .cell\/(names.map λ(n,k)=>if (k == .free && X.env.scope.kind == .function && X.env.kindOf n == some .cell) then (n,YT) else (n,k)).lookup y=some .free)->∃m∈names,m.1=y/\m.2=.free:=by
    intro names
    induction names with
    |nil=>intro _ h;simp at h
    |cons a r ih =>
     intro nc h;obtain⟨n,k⟩:=a;by_cases e:y=n
     .subst e;refine⟨_,Sv,rfl,?_⟩;have nk:k≠.cell:=nc (y,k) Sv;by_cases hk:k=.free
      .exact hk
      .have hb:(k == ZbY)=false:=beq_eq_false_iff_ne.mpr hk;simp only[TM,hb,ZbI,Wi,if_false,VF,beq_self_eq_true] at h;rcases h with z|z
       .exact absurd (SU z) nk
       .exact absurd (SU z) hk
     .have e':(y == n)=false:=beq_eq_false_iff_ne.mpr e
      have h':(r.map λ(n,k)=>if (k == .free && X.env.scope.kind == .function && X.env.kindOf n == some .cell) then (n,YT) else (n,k)).lookup y=some .cell\/(r.map λ(n,k)=>if (k == .free && X.env.scope.kind == .function && X.env.kindOf n == some .cell) then (n,YT) else (n,k)).lookup y=some .free:=by
       by_cases hb:(k == .free && X.env.scope.kind == .function && X.env.kindOf n == some .cell)=true
       .simpa only[TM,hb,if_true,VF,e'] using h
       .simpa only[TM,hb,Wi,if_false,VF,e'] using h
      obtain⟨m,hm,r1⟩:=ih (λz hz=>nc z (Sw _ hz)) h';exact⟨m,Sw _ hm,r1⟩
   exact go scope.names c.nocell h
  obtain⟨m,hm,e,hk⟩:=hm;exact vq ⟨_,qa.mpr ⟨m,hm,hk,rfl⟩,e⟩
section
variable{X:Cx}{x:Str}{ys M:List Str}{scope:Scope}
def NH{iter:Expr}(c:jr X.env.scope X.N M ys scope)(hc:X.calm=true)(hi:PI X tg iter wi)(hg:∀C s₀ H₀ fp G,PG (aQ X ys M scope (dZ scope X.env.cells) C s₀ H₀ fp G) tg g)(he:∀C s₀ H₀ fp G,PE (aQ X ys M scope (dZ scope X.env.cells) C s₀ H₀ fp G) elt te)
  (hs:∀v,foldedSetIterable iter X.env v=pure v:=by intro _;rfl):PE X (.ListComp elt [⟨tg,iter,[],0⟩] scope pos) (c5 wi (UD ys) g te):=λG s σ H Q I h=>wQ (c.sc I.ok) hc hi hg he hs G s σ H Q I h
def No{iter:Expr}{sp:Pos}{i:Nat}{y:Str}(hN:X.N.Nodup)(hy:X.N[i]?=some y)(ly:X.env.scope.names.lookup y=some .local)(c:jr X.env.scope X.N M ys scope)(hc:X.calm=true)(hi:PI X tg iter wi)
  (hg:∀C s₀ H₀ fp G,PG (aQ X ys M scope (dZ scope X.env.cells) C s₀ H₀ fp G) tg g) (he:∀C s₀ H₀ fp G,PE (aQ X ys M scope (dZ scope X.env.cells) C s₀ H₀ fp G) elt te)
  (hsw:swapsWith (.ListComp elt [⟨tg,iter,[],0⟩] scope pos) (some (.Name y py)) sp.line X.env=pure true:=by rfl) (hs:∀v,foldedSetIterable iter X.env v=pure v:=by intro _;rfl) :
  PS X (.Assign [.Name y py] (.ListComp elt [⟨tg,iter,[],0⟩] scope pos) sp) (ay (c5 wi (UD ys) g te) (ak i)):=λG s σ H D I h=>wN hy ly (c.sc I.ok) hN hc hi hg he hsw hs G s σ H D I h
def NJ{elt iter:Expr}{px pos:Pos}{wi:TI}{te:TE}(c:jr X.env.scope X.N M [x] scope)(hN:X.N.Nodup)(hc:X.calm=true)(hi:PI X (.Name x px) iter wi)(he:∀C s₀ H₀ fp G,PE (aQ X [x] M scope (dZ scope X.env.cells) C s₀ H₀ fp G) elt te)
  (hs:∀v,foldedSetIterable iter X.env v=pure v:=by intro _;rfl):PE X (.ListComp elt [⟨.Name x px,iter,[],0⟩] scope pos) (ck wi te):=by
 intro G s σ H Q I h
 have hi':PI X (.Name x px) iter (λσ H R=>∃R',(∀J H1,R' J H1->R J H1)/\wi σ H R'):=by
  intro G s σ H R I ⟨R',hR,hw⟩;refine a_ (hi G s σ H R' I hw) λv s1 h1=>a_ h1 (by rintro itv s2 ⟨it,fp,tn,J,H',e,I',T,t0,fk,r⟩;exact ⟨it,fp,tn,J,H',e,I',T,t0,fk,hR J H' r⟩)
 exact wQ (c.sc I.ok) hc hi' (λC s₀ H₀ fp G=>Ij (c.sc I.ok) C s₀ H₀ fp G) he hs G s σ H Q I ⟨_,λJ H1 q=>xL q,h⟩
def Qt{elt iter:Expr}{px pos py sp:Pos}{wi:TI}{te:TE}{i:Nat}{y:Str}(hN:X.N.Nodup)(hy:X.N[i]?=some y)(ly:X.env.scope.names.lookup y=some .local)(c:jr X.env.scope X.N M [x] scope)(hc:X.calm=true)(hi:PI X (.Name x px) iter wi)(he:∀C s₀ H₀ fp G,PE (aQ X [x] M scope (dZ scope X.env.cells) C s₀ H₀ fp G) elt te)
  (hsw:swapsWith (.ListComp elt [⟨.Name x px,iter,[],0⟩] scope pos) (some (.Name y py)) sp.line X.env=pure true:=by rfl) (hs:∀v,foldedSetIterable iter X.env v=pure v:=by intro _;rfl) :
  PS X (.Assign [.Name y py] (.ListComp elt [⟨.Name x px,iter,[],0⟩] scope pos) sp) (ay (ck wi te) (ak i)):=by
 intro G s σ H D I h
 have hi':PI X (.Name x px) iter (λσ H R=>∃R',(∀J H1,R' J H1->R J H1)/\wi σ H R'):=by
  intro G s σ H R I ⟨R',hR,hw⟩;refine a_ (hi G s σ H R' I hw) λv s1 h1=>a_ h1 (by rintro itv s2 ⟨it,fp,tn,J,H',e,I',T,t0,fk,r⟩;exact ⟨it,fp,tn,J,H',e,I',T,t0,fk,hR J H' r⟩)
 exact wN hy ly (c.sc I.ok) hN hc hi' (λC s₀ H₀ fp G=>Ij (c.sc I.ok) C s₀ H₀ fp G) he hsw hs G s σ H D I ⟨_,λJ H1 q=>xL q,h⟩
end
abbrev L9(D:Addr)(Pv:Hp->Prop):VK:=λy H2=>∃xs,H2 D=some (.lst xs)/\xs.length<sizeLine/\Pv (upd H2 D (.lst (xs++[y])))
section
variable{K:Fg}{te:TE}{σ:St}{Q:VK}{H:Hp}
abbrev jq(D:Addr)(n i:Nat)(Pv:Nat->Hp->Prop):VK:=λy H2=>∃xs,H2 D=some (.lst xs)/\xs.length<sizeLine/\∃m',m'<n-i/\m'=n-(i+1)/\i+1<=n/\Pv (i+1) (upd H2 D (.lst (xs++[y])))
abbrev PZ(te:TE)(σ:St)(v:V)(H:Hp)(D:Addr)(n i:Nat)(Pv:Nat->Hp->Prop):Prop:=te (some v :: σ) H (jq D n i Pv)
def aH{n i:Nat}{Pv:Nat->Hp->Prop}(hi:i<n)(h:L9 D (Pv (i+1)) y H2):jq D n i Pv y H2:=by
 obtain⟨xs,h1,h2,h3⟩:=h;exact⟨xs,h1,h2,n-(i+1),∅,rfl,hi,h3⟩
def bU{lo:Int}{n:Nat}(h:∀D,H D=none->∃Pv:Nat->Hp->Prop,Pv 0 (upd H D (.lst []))/\(∀i H2,i<n->Pv i H2->PZ te σ (.int (lo+i)) H2 D n i Pv)/\∀H2,Pv n H2->Q (.ref D) H2):cy (sQ lo n) te σ Q H:=by
 intro D nD;obtain⟨Pv,h0,hs,hd⟩:=h D nD;refine⟨λi m H=>m=n-i/\i<=n/\Pv i H,⟨n,by simp,TV _,h0⟩,?_⟩;rintro i m H ⟨rfl,hi,p⟩;by_cases Ds:i<n
 .refine .inr ⟨Ds,λv H' y=>?_⟩;obtain⟨e,y⟩:=y;subst e y;exact hs i _ Ds p
 .have e:i=n:=by lia
  subst e;exact .inl ⟨Sx _,hd H p⟩
def bZ{xs:List V}(h:∀D,H D=none->∃Pv:Nat->Hp->Prop,Pv 0 (upd H D (.lst []))/\(∀i H2,i<=UD xs->Pv i H2->SqL K H2 a xs)/\(∀i x H2,xs[i]?=some x->Pv i H2->PZ te σ x H2 D (UD xs) i Pv)/\∀H2,Pv (UD xs) H2->Q (.ref D) H2):cy (sR K a) te σ Q H:=by
 intro D nD;obtain⟨Pv,h0,hl,hs,hd⟩:=h D nD;refine⟨λi m H=>m=UD xs-i/\i<=(UD xs)/\Pv i H,⟨(UD xs),by simp,TV _,h0⟩,?_⟩;rintro i m H ⟨rfl,hi,p⟩;have q:=hl i H hi p;by_cases Ds:i<UD xs
 .refine .inr ⟨⟨xs,xs[i],q,by simp[Ds]⟩,λv H' y=>?_⟩;obtain⟨e,y⟩:=y;subst e;exact hs i v _ (y xs q) p
 .have e:i=UD xs:=by lia
  subst e;exact .inl ⟨⟨xs,q,Sx _⟩,hd H p⟩
def fJ{xs:List V}(h:∀D,H D=none->∃Pv:Nat->Hp->Prop,Pv 0 (upd H D (.lst []))/\(∀i H2,i<=UD xs->Pv i H2->SqT K H2 a xs)/\(∀i x H2,xs[i]?=some x->Pv i H2->PZ te σ x H2 D (UD xs) i Pv)/\∀H2,Pv (UD xs) H2->Q (.ref D) H2):cy (tm K a) te σ Q H:=by
 intro D nD;obtain⟨Pv,h0,hl,hs,hd⟩:=h D nD;refine⟨λi m H=>m=UD xs-i/\i<=(UD xs)/\Pv i H,⟨(UD xs),by simp,TV _,h0⟩,?_⟩;rintro i m H ⟨rfl,hi,p⟩;have q:=hl i H hi p;by_cases Ds:i<UD xs
 .refine .inr ⟨⟨xs,xs[i],q,by simp[Ds]⟩,λv H' y=>?_⟩;obtain⟨e,y⟩:=y;subst e;exact hs i v _ (y xs q) p
 .have e:i=UD xs:=by lia
  subst e;exact .inl ⟨⟨xs,q,Sx _⟩,hd H p⟩
end
open PySem.W (Dat kqdOk)
section
variable{K:Fg}{σ:St}{H:Hp}{Q:VK}{D:cr}{ta tb tc te:TE}{t u:TS}{c:TT}{QB:Bool->Hp->Prop}{QA:List V->Hp->Prop}{QS:St->Hp->Prop}
def QW(h:t {D with nx:=u D} σ H):ao t u D σ H:=h
def OG(h:D.nx σ H):be D σ H:=h
def LB(h:te σ H λ_ H1=>D.nx σ H1):bF te D σ H:=h
def QX(h:te σ H D.rt):aA te D σ H:=h
def Rc(h:c σ H λb H1=>if b=true then t D σ H1 else u D σ H1):a4 c t u D σ H:=h
def OT{g:TG}(h:te σ H λx H1=>g x σ H1 D.nx):ay te g D σ H:=h
def Dg{v:V}(h:QS (σ.set i (some v)) H):ak i v σ H QS:=h
def yX{i:Nat}{v:V}(e:σ[i]?=some (some v))(h:Q v H):aa i σ H Q:=⟨v,e,h⟩
def Sc(h:Q v H):tC v σ H Q:=h
def Q6{r:R2}(h:ta σ H λx H1=>tb σ H1 λy H2=>r x y H2 Q):ar r ta tb σ H Q:=h
def QP{r:V->Hp->VK->Prop}(h:ta σ H λx H1=>r x H1 Q):Az r ta σ H Q:=h
def OA{g:Int->V}(h:Q (g i) H):rU g (.int i) H Q:=⟨i,rfl,h⟩
def QY{g:Int->Int->V}(h:Q (g i j) H):yK g (.int i) (.int j) H Q:=⟨i,j,rfl,rfl,h⟩
def vx{C:Int->Int->Prop}{g:Int->Int->V}(hc:C i j)(h:Q (g i j) H):rI C g (.int i) (.int j) H Q:=⟨i,j,rfl,rfl,hc,h⟩
def Rg{i j:Int}(h:Q (.bl (decide (i=j))) H):ja (.int i) (.int j) H Q:=⟨rfl,by
 have e:decide (V.int i=V.int j)=decide (i=j):=by
  by_cases z:i=j
  .subst z;simp
  .simp[z]
 rw[e];exact h⟩
def Q7{i j:Int}(h:Q (.bl (!decide (i=j))) H):HV (.int i) (.int j) H Q:=⟨rfl,by
 have e:decide (V.int i=V.int j)=decide (i=j):=by
  by_cases z:i=j
  .subst z;simp
  .simp[z]
 rw[e];exact h⟩
def Q_{x:V}(h:Q (.bl (decide (x=.non))) H):BO x .non H Q:=⟨rfl,h⟩
def OE{x:V}(h:Q (.bl (!decide (x=.non))) H):Kl x .non H Q:=⟨rfl,h⟩
def Ou(h:te σ H λx H'=>∃k,x=.bl k/\QB k H'):aK te σ H QB:=h
def QT(h:te σ H λx H'=>∃k,x=.bl k/\QB k H'):tB te σ H QB:=h
def Ro{P:Bool->Prop}(h:P b):∃k,V.bl b=.bl k/\P k:=⟨b,rfl,h⟩
def OF(h:c σ H λb H1=>QB (!b) H1):oz c σ H QB:=h
def Rq{c':TT}(h:c σ H λb H1=>if b=true then c' σ H1 QB else QB false H1):oA c c' σ H QB:=h
def Q5{c':TT}(h:c σ H λb H1=>if b=true then QB true H1 else c' σ H1 QB):HM c c' σ H QB:=h
def OV(h:ta σ H λx H1=>∃k,x=.bl k/\if k=true then tb σ H1 Q else Q (.bl false) H1):AE ta tb σ H Q:=h
def Q4(h:ta σ H λx H1=>∃k,x=.bl k/\if k=true then Q (.bl true) H1 else tb σ H1 Q):Fj ta tb σ H Q:=h
def OD(h:ta σ H λx H1=>∃k,x=.bl k/\Q (.bl (!k)) H1):AA ta σ H Q:=h
def Re(h:c σ H λb H1=>if b=true then ta σ H1 Q else tb σ H1 Q):Mj c ta tb σ H Q:=h
def LG{r r':R2}(h:ta σ H λx H1=>tb σ H1 λy H2=>r x y H2 λz H3=>∃k,z=.bl k/\(if k=true then tc σ H3 λw' H4=>r' y w' H4 Q else Q (.bl false) H3)):wn r r' ta tb tc σ H Q:=h
def GU(h:QA [] H):ae σ H QA:=h
def OQ{tr:TA}(h:ta σ H λx H1=>tr σ H1 λxs H2=>QA (x :: xs) H2):ac ta tr σ H QA:=h
def OS{sp:Sp}{eI:List V}{ts:TA}(h:ts σ H λvs H1=>sp (vs++eI) H1 Q E):aw sp eI E ts σ H Q:=h
def Ri{r:List V->Hp->VK->Prop}{ts:TA}(h:ts σ H λvs H1=>r vs H1 Q):bO r ts σ H Q:=h
def QR{ts:TA}(h:ts σ H λxs H1=>UD xs<=sizeLine/\∀p,H1 p=none->Q (.ref p) (upd H1 p (.tup xs))):bC ts σ H Q:=h
def Q8{ts:TA}(h:ts σ H λxs H1=>UD xs<=sizeLine/\∀p,H1 p=none->Q (.ref p) (upd H1 p (.lst xs))):bK ts σ H Q:=h
def QU{r:V->Option Int->Option Int->Hp->VK->Prop}{tl th:TO}(h:te σ H λx H1=>tl σ H1 λl H2=>th σ H2 λu H3=>r x l u H3 Q):HL r te tl th σ H Q:=h
def GT{QO:Option Int->Hp->Prop}(h:QO none H):f9 σ H QO:=h
def OC{QO:Option Int->Hp->Prop}(h:te σ H λx H1=>∃i,x=.int i/\QO (some i) H1):ot te σ H QO:=h
def Ra{P:Int->Prop}(h:P i):∃j,V.int i=.int j/\P j:=⟨i,rfl,h⟩
def aZ[Decidable p]{A B:Prop}(h1:p->A)(h2 : ¬ p->B):if decide p=true then A else B:=O1 h1 h2
def fU[Decidable p]{A B:Prop}(h1 : ¬ p->A)(h2:p->B):if (!decide p)=true then A else B:=by
 by_cases h:p
 .rw[decide_eq_true h];exact Dm (h2 h)
 .rw[decide_eq_false h];exact y6 (h1 h)
def Lw{A B:Prop}(h:A):if (!false)=true then A else B:=y6 h
def Lv{A B:Prop}(h:B):if (!true)=true then A else B:=Dm h
def Lx{b:Bool}{A B:Prop}(e:b=true)(h:A):if b=true then A else B:=by rw[if_pos e];exact h
def Ly{b:Bool}{A B:Prop}(e:b=false)(h:B):if b=true then A else B:=by rw[if_neg (by rw[e];exact SX)];exact h
abbrev zv(J:It)(g:TG)(tb:TS)(D:cr)(σ:St)(H1:Hp):Prop:=∃W:Nat->Nat->St->Hp->Prop,(∃m,W 0 m σ H1)/\∀i m σ H,W i m σ H ->
 (J.stop i H/\D.nx σ H)\/(J.go i H/\∃N:St->Hp->Prop,(∀σ' H',N σ' H'->∃m',m'<m/\W (i+1) m' σ' H')/\∀x H',J.yld i H x H'->g x σ H' λσ2 H2=>tb {D with nx:=N,ct:=N,bk:=D.nx} σ2 H2)
def Rf{wi:TI}{tb:TS}(h:wi σ H λJ H1=>zv J g tb D σ H1):bo wi g tb D σ H:=h
def OR{wi:TI}(h:wi σ H λJ H1=>cy J te σ Q H1):ck wi te σ H Q:=h
def Ox{ts:TA}{R:It->Hp->Prop}(h:ts σ H λvs H1=>∃j:Int,vs=[.int j]/\-(2 ^ 62)<=j/\j<2 ^ 62/\R (sQ 0 j.toNat) H1):cZ ts σ H R:=h
def Ow{ts:TA}{R:It->Hp->Prop}(h:ts σ H λvs H1=>∃i j:Int,vs=[.int i,.int j]/\(-(2 ^ 62)<=i/\i<2 ^ 62/\-(2 ^ 62)<=j/\j<2 ^ 62)/\R (sQ i (j-i).toNat) H1):LK ts σ H R:=h
def Q2{tb:TS}{j:Int}(h0 : -(2 ^ 62)<=j/\j<2 ^ 62)(h:zv (sQ 0 j.toNat) g tb D σ H):∃i:Int,[V.int j]=[.int i]/\-(2 ^ 62)<=i/\i<2 ^ 62/\zv (sQ 0 i.toNat) g tb D σ H:=⟨j,rfl,h0.1,h0.2,h⟩
def Q3{j:Int}(h0 : -(2 ^ 62)<=j/\j<2 ^ 62)(h:cy (sQ 0 j.toNat) te σ Q H):∃i:Int,[V.int j]=[.int i]/\-(2 ^ 62)<=i/\i<2 ^ 62/\cy (sQ 0 i.toNat) te σ Q H:=⟨j,rfl,h0.1,h0.2,h⟩
def QZ{i j:Int}(h0 : -(2 ^ 62)<=i/\i<2 ^ 62/\-(2 ^ 62)<=j/\j<2 ^ 62)(h:cy (sQ i (j-i).toNat) te σ Q H):∃i' j':Int,[V.int i,V.int j]=[.int i',.int j']/\(-(2 ^ 62)<=i'/\i'<2 ^ 62/\-(2 ^ 62)<=j'/\j'<2 ^ 62)/\cy (sQ i' (j'-i').toNat) te σ Q H:=⟨i,j,rfl,h0,h⟩
def Lz{R:It->Hp->Prop}(h:te σ H λx H1=>∃a,x=.ref a/\(∃xs,SqL K H1 a xs)/\R (sR K a) H1):bY K te σ H R:=h
def OJ{R:It->Hp->Prop}(h:te σ H λx H1=>∃a,x=.ref a/\(∃xs,SqT K H1 a xs)/\R (tm K a) H1):mr K te σ H R:=h
def fO{tb:TS}(e:SqL K H a xs)(h:zv (sR K a) g tb D σ H):∃b,V.ref a=.ref b/\(∃xs,SqL K H b xs)/\zv (sR K b) g tb D σ H:=⟨a,rfl,⟨xs,e⟩,h⟩
def mn(e:SqL K H a xs)(h:cy (sR K a) te σ Q H):∃b,V.ref a=.ref b/\(∃xs,SqL K H b xs)/\cy (sR K b) te σ Q H:=⟨a,rfl,⟨xs,e⟩,h⟩
def Ov{tb:TS}(e:SqT K H a xs)(h:zv (tm K a) g tb D σ H):∃b,V.ref a=.ref b/\(∃xs,SqT K H b xs)/\zv (tm K b) g tb D σ H:=⟨a,rfl,⟨xs,e⟩,h⟩
def yY(e:SqT K H a xs)(h:cy (tm K a) te σ Q H):∃b,V.ref a=.ref b/\(∃xs,SqT K H b xs)/\cy (tm K b) te σ Q H:=⟨a,rfl,⟨xs,e⟩,h⟩
def bR{lo:Int}{n:Nat}{g:TG}{tb:TS}(Pv:Nat->St->Hp->Prop)(h0:Pv 0 σ H)
  (hs:∀i σ H,i<n->Pv i σ H->g (.int (lo+i)) σ H λσ2 H2=>tb {D with nx:=Pv (i+1),ct:=Pv (i+1),bk:=D.nx} σ2 H2) (hd:∀σ H,Pv n σ H->D.nx σ H):zv (sQ lo n) g tb D σ H:=DP Pv h0 hs hd
def bg{xs:List V}{g:TG}{tb:TS}(Pv:Nat->St->Hp->Prop)(h0:Pv 0 σ H)(hl:∀i σ H,i<=UD xs->Pv i σ H->SqL K H a xs)
  (hs:∀i x σ H,xs[i]?=some x->Pv i σ H->g x σ H λσ2 H2=>tb {D with nx:=Pv (i+1),ct:=Pv (i+1),bk:=D.nx} σ2 H2) (hd:∀σ H,Pv (UD xs) σ H->D.nx σ H):zv (sR K a) g tb D σ H:=Hd Pv h0 hl hs hd
def DQ{xs:List V}{g:TG}{tb:TS}(Pv:Nat->St->Hp->Prop)(h0:Pv 0 σ H)(hl:∀i σ H,i<=UD xs->Pv i σ H->SqT K H a xs)
  (hs:∀i x σ H,xs[i]?=some x->Pv i σ H->g x σ H λσ2 H2=>tb {D with nx:=Pv (i+1),ct:=Pv (i+1),bk:=D.nx} σ2 H2) (hd:∀σ H,Pv (UD xs) σ H->D.nx σ H):zv (tm K a) g tb D σ H:=LR Pv h0 hl hs hd
def Rh{v:V}{D:Addr}(h:te (some v :: σ) H (jq D n i Pv)):PZ te σ v H D n i Pv:=h
def bu{n:Nat}{ts:HA}(e:SqT K H a xs)(l:UD xs=n)(h:ts xs σ H QS):cf K n ts (.ref a) σ H QS:=⟨a,xs,rfl,e,l,h⟩
def LA{tg:TG}{ts:HA}(h:tg v σ H λσ' H'=>ts r σ' H' QS):aS tg ts (v :: r) σ H QS:=⟨v,r,rfl,h⟩
def OL(h:QS σ H):cj [] σ H QS:=⟨rfl,h⟩
def bH(e:SqL K H p xs)(h:Q (.int (UD xs)) H):bz K [.ref p] H Q:=⟨p,xs,rfl,.inl e,h⟩
def fT(e:SqT K H p xs)(h:Q (.int (UD xs)) H):bz K [.ref p] H Q:=⟨p,xs,rfl,.inr e,h⟩
def bX{v:V}(e:SqL K H p xs)(a:qe xs i=some v)(h:Q v H):bP K (.ref p) (.int i) H Q:=⟨p,xs,i,v,rfl,rfl,e,a,h⟩
def aG{v:V}(e:SqT K H p xs)(a:qe xs i=some v)(h:Q v H):aD K (.ref p) (.int i) H Q:=⟨p,xs,i,v,rfl,rfl,e,a,h⟩
def Q9{z:Str}{c:Nat}(e:z.length<=sizeLine)(a:qe z.cps.toList i=some c)(h:Q (.str ⟨#[c]⟩) H):Ko (.str z) (.int i) H Q:=⟨z,i,c,rfl,rfl,e,a,h⟩
def iP(e:SqL K H p xs)(h:∀l,H l=none->Q (.ref l) (upd H l (.tup xs))):eT K [.ref p] H Q:=⟨p,xs,rfl,.inl ⟨e,h⟩⟩
def vz(e:SqL K H p xs)(h:∀l,H l=none->Q (.ref l) (upd H l (.lst xs))):eU K [.ref p] H Q:=⟨p,xs,rfl,.inl e,h⟩
def Dd(e:SqT K H p xs)(h:∀l,H l=none->Q (.ref l) (upd H l (.lst xs))):eU K [.ref p] H Q:=⟨p,xs,rfl,.inr e,h⟩
def Rm{T:String}{r:V->List V->Hp->VK->Prop}{to:TE}{ts:TA}(h:to σ H λx H1=>HH K T x H1/\ts σ H1 λxs H2=>r x xs H2 Q):dJ K T r to ts σ H Q:=h
def Rj{T:String}{r:V->List V->Hp->VK->Prop}{to:TE}(h:to σ H λx H1=>HH K T x H1/\r x [] H1 Q):Jv K T r to σ H Q:=h
def vw(e:H p=some (.lst xs)):HH K "list" (.ref p) H:=.inl ⟨rfl,xs,SqL.of e⟩
def GW{y:V}(e:H l=some (.lst xs))(n:UD xs<sizeLine)(h:Q .non (upd H l (.lst (xs++[y])))):aJ (.ref l) [y] H Q:=⟨l,xs,y,rfl,rfl,e,n,h⟩
def OH{b:Bool}(h:Q (.int (if b then 1 else 0)) H):Kr [.bl b] H Q:=.inr ⟨b,rfl,h⟩
def Ix{i j:Str}(n:i.length+j.length<=sizeLine)(h:Q (.str (i++j)) H):Ks (.str i) (.str j) H Q:=⟨i,j,rfl,rfl,n,h⟩
end
mutual
inductive Rp (K:Fg) (S:Addr->Prop) (H:Hp):V->Dat->Prop
 |non:Rp K S H .non .none
 |bl (b:Bool):Rp K S H (.bl b) (.bool b)
 |int (i:Int):Rp K S H (.int i) (.int i)
 |str (x:Str):Rp K S H (.str x) (.str x)
 |tup {a:Addr} {xs:List V} {ds:List Dat}:H a=some (.tup xs)->RpL K S H xs ds->Rp K S H (.ref a) (.tuple ds)
 |lst {a:Addr} {xs:List V} {ds:List Dat}:S a->H a=some (.lst xs)->RpL K S H xs ds->Rp K S H (.ref a) (.list ds)
inductive RpL (K:Fg) (S:Addr->Prop) (H:Hp):List V->List Dat->Prop
 |nil:RpL K S H [] []
 |cons {v:V} {d:Dat} {vs:List V} {ds:List Dat}:Rp K S H v d->RpL K S H vs ds->RpL K S H (v :: vs) (d :: ds)
end
structure Agr (S:Addr->Prop) (H H':Hp):Prop where
 tup:∀a xs,H a=some (.tup xs)->H' a=some (.tup xs)
 lst:∀a xs,S a->H a=some (.lst xs)->H' a=some (.lst xs)
section
variable{K:Fg}{S S':Addr->Prop}{H H':Hp}
def Agr.of_same(e:Same H H'):Agr S H H':=⟨λa xs h=>e _ _ h,λa xs _ h=>e _ _ h⟩
def Agr.dD(hl:H l=some (.lst ys))(ns : ¬ S l):Agr S H (upd H l o):=by
 refine⟨λa xs h=>?_,λa xs s h=>?_⟩
 .have ne:a≠l:=by
   rintro rfl;rw[hl] at h;cases h
  rw[aB ne];exact h
 .have ne:a≠l:=by
   rintro rfl;exact ns s
  rw[aB ne];exact h
mutual
def Rp.agr(e:Agr S H H'):∀{v:V} {d:Dat},Rp K S H v d->Rp K S H' v d
 |_,_,.non=>.non
 |_,_,.bl b=>.bl b
 |_,_,.int i=>.int i
 |_,_,.str x=>.str x
 |_,_,.tup h r=>.tup (e.tup _ _ h) (RpL.agr e r)
 |_,_,.lst s h r=>.lst s (e.lst _ _ s h) (RpL.agr e r)
def RpL.agr(e:Agr S H H'):∀{vs:List V} {ds:List Dat},RpL K S H vs ds->RpL K S H' vs ds
 |_,_,.nil=>.nil
 |_,_,.cons h r=>.cons (Rp.agr e h) (RpL.agr e r)
end
mutual
def Rp.mono(e:∀a,S a->S' a):∀{v:V} {d:Dat},Rp K S H v d->Rp K S' H v d
 |_,_,.non=>.non
 |_,_,.bl b=>.bl b
 |_,_,.int i=>.int i
 |_,_,.str x=>.str x
 |_,_,.tup h r=>.tup h (RpL.mono e r)
 |_,_,.lst s h r=>.lst (e _ s) h (RpL.mono e r)
def RpL.mono(e:∀a,S a->S' a):∀{vs:List V} {ds:List Dat},RpL K S H vs ds->RpL K S' H vs ds
 |_,_,.nil=>.nil
 |_,_,.cons h r=>.cons (Rp.mono e h) (RpL.mono e r)
end
mutual
def Rp.rep:∀{v:V} {d:Dat},Rp K S H v d->Rep K H v d
 |_,_,.non=>.non
 |_,_,.bl b=>.bl b
 |_,_,.int i=>.int i
 |_,_,.str x=>.str x
 |_,_,.tup h r=>.tup (SqT.of h) (RpL.rep r)
 |_,_,.lst _ h r=>.lst (SqL.of h) (RpL.rep r)
def RpL.rep:∀{vs:List V} {ds:List Dat},RpL K S H vs ds->RepL K H vs ds
 |_,_,.nil=>.nil
 |_,_,.cons h r=>.cons (Rp.rep h) (RpL.rep r)
end
def Rp.same(e:Same H H')(h:Rp K S H v d):Rp K S H' v d:=h.agr (Agr.of_same e)
def RpL.same(e:Same H H'){vs:List V}(h:RpL K S H vs ds):RpL K S H' vs ds:=h.agr (Agr.of_same e)
def RpL.length:∀{vs:List V} {ds:List Dat},RpL K S H vs ds->UD vs=UD ds
 |_,_,.nil=>rfl
 |_,_,.cons _ r=>congrArg (· + 1) (RpL.length r)
def RpL.get:∀{vs:List V} {ds:List Dat} {i:Nat} {v:V},RpL K S H vs ds->vs[i]?=some v->∃d,ds[i]?=some d/\Rp K S H v d
 |_,_,_,_,.nil,e=>by simp at e
 |_,_,0,_,.cons h _,e=>by simp at e;subst e;exact⟨_,rfl,h⟩
 |_,_,i+1,v,.cons _ r,e=>by
  obtain⟨d,h1,h2⟩:=RpL.get (i:=i) (v:=v) r (by simpa using e);exact⟨d,by simpa using h1,h2⟩
def RpL.get':∀{vs:List V} {ds:List Dat} {i:Nat} {d:Dat},RpL K S H vs ds->ds[i]?=some d->∃v,vs[i]?=some v/\Rp K S H v d
 |_,_,_,_,.nil,e=>by simp at e
 |_,_,0,_,.cons h _,e=>by simp at e;subst e;exact⟨_,rfl,h⟩
 |_,_,i+1,v,.cons _ r,e=>by
  obtain⟨d,h1,h2⟩:=RpL.get' (i:=i) (d:=v) r (by simpa using e);exact⟨d,by simpa using h1,h2⟩
def RpL.append:∀{vs ws:List V} {ds es:List Dat},RpL K S H vs ds->RpL K S H ws es->RpL K S H (vs++ws) (ds++es)
 |_,_,_,_,.nil,s=>s
 |_,_,_,_,.cons h r,s=>.cons h (RpL.append r s)
def RpL.ints:∀ns:List Int,RpL K S H (ns.map V.int) (ns.map TF)
 |[]=>.nil
 |n :: ns=>.cons (.int n) (RpL.ints ns)
def RpL.strs:∀ns:List Str,RpL K S H (ns.map V.str) (ns.map Z2)
 |[]=>.nil
 |n :: ns=>.cons (.str n) (RpL.strs ns)
def RpL.ints_of:∀{vs:List V} {ns:List Int},RpL K S H vs (ns.map TF)->vs=ns.map V.int
 |_,[],.nil=>rfl
 |_,n :: ns,.cons h r=>by cases h;rw[RpL.ints_of r];rfl
def RpL.AH:∀{vs:List V} {ns:List Str},RpL K S H vs (ns.map Z2)->vs=ns.map V.str
 |_,[],.nil=>rfl
 |_,n :: ns,.cons h r=>by cases h;rw[RpL.AH r];rfl
def Rp.Ms(h:Rp K S H v (.tuple ds)):∃a xs,v=.ref a/\SqT K H a xs/\RpL K S H xs ds:=by
 cases h with
 |tup h r=>exact⟨_,_,rfl,SqT.of h,r⟩
def Rp.bM(h:Rp K S H v (.tuple ds)):∃a xs,v=.ref a/\H a=some (.tup xs)/\RpL K S H xs ds:=by
 cases h with
 |tup h r=>exact⟨_,_,rfl,h,r⟩
def Rp.kB(h:Rp K S H v (.list ds)):∃a xs,v=.ref a/\S a/\H a=some (.lst xs)/\RpL K S H xs ds:=by
 cases h with
 |lst s h r=>exact⟨_,_,rfl,s,h,r⟩
end
abbrev F0:Addr->Prop:=λ_=>False
nonrec def Rz(K:Fg)(H:Hp):V->Dat->Prop:=Rp K F0 H
nonrec def RzL(K:Fg)(H:Hp):List V->List Dat->Prop:=RpL K F0 H
section
variable{K:Fg}{S:Addr->Prop}{H H':Hp}
def RpL.z{vs:List V}(h:RzL K H vs ds):RpL K S H vs ds:=h.mono λ_ z=>z.elim
def Rz.upd(h:Rz K H v d)(hl:H l=some (.lst ys)):Rz K (L2.upd H l o) v d:=h.agr (Agr.dD hl λz=>z)
def RzL.upd(h:RzL K H v d)(hl:H l=some (.lst ys)):RzL K (L2.upd H l o) v d:=h.agr (Agr.dD hl λz=>z)
end
structure Acc (K:Fg) (H0:Hp) (l:Addr) (H:Hp) (ds:List Dat):Prop where
 same:Same H0 H
 new:H0 l=none
 at_:∃xs,H l=some (.lst xs)/\RpL K (λa=>H0 a=none/\a≠l) H xs ds
section
variable{K:Fg}{H0 H H':Hp}{l:Addr}{ds:List Dat}
def Acc.start(n:H0 l=none):Acc K H0 l (upd H0 l (.lst [])) []:=⟨ai n _,n,[],ag,.nil⟩
def Acc.on(A:Acc K H0 l H ds)(e:Same H H'):Acc K H0 l H' ds:=by
 obtain⟨xs,h1,h2⟩:=A.at_;exact⟨A.same.trans e,A.new,xs,e _ _ h1,h2.same e⟩
def Acc.ref(A:Acc K H0 l H ds):Rp K (λa=>H0 a=none) H (.ref l) (.list ds):=by
 obtain⟨xs,h1,h2⟩:=A.at_;exact .lst A.new h1 (h2.mono λ_ z=>z.1)
def Acc.push(A:Acc K H0 l H ds)(r:Rp K S H y d)(hS:∀a,S a->H0 a=none/\a≠l):∃xs,H l=some (.lst xs)/\xs.length=ds.length/\Acc K H0 l (upd H l (.lst (xs++[y]))) (ds++[d]):=by
 obtain⟨xs,h1,h2⟩:=A.at_;refine⟨xs,h1,h2.length,⟨λb o q=>?_,A.new,xs++[y],ag,?_⟩⟩
 .rw[aB (aq q A.new)];exact A.same b o q
 .exact(h2.append (.cons (r.mono hS) .nil)).agr (Agr.dD h1 λz=>z.2 rfl)
def Acc.Qq(A:Acc K H0 l H ds)(e:Same H H')(r:Rp K (λa=>H a=none) H' y d):∃xs,H' l=some (.lst xs)/\xs.length=ds.length/\Acc K H0 l (upd H' l (.lst (xs++[y]))) (ds++[d]) :=
 (A.on e).push r λa z=>⟨A.same.free z,λq=>by obtain⟨xs,h1,_⟩:=A.at_;rw[q,h1] at z;cases z⟩
def Acc.bG(A:Acc K H0 l H ds)(e:Same H H')(r:Rp K (λa=>H a=none) H' y d)(n:UD ds<sizeLine){Pv:Hp->Prop}(h:∀H2,Acc K H0 l H2 (ds++[d])->Pv H2):L9 l Pv y H':=by
 obtain⟨xs,h1,h2,h3⟩:=A.Qq e r;exact⟨xs,h1,by rw[h2];exact n,h _ h3⟩
end
def Acc.ty{K:Fg}    (A:Acc K H0 l H ds):HH K "list" (.ref l) H:=by
 obtain⟨xs,h1,_⟩:=A.at_;exact vw h1
structure AccZ (K:Fg) (H0:Hp) (l:Addr) (H:Hp) (ds:List Dat):Prop where
 same:Same H0 H
 new:H0 l=none
 at_:∃xs,H l=some (.lst xs)/\RzL K H xs ds
section
variable{K:Fg}{H0 H H':Hp}{l m:Addr}{ds:List Dat}
def AccZ.start(e:Same H0 H)(n:H l=none):AccZ K H0 l (upd H l (.lst [])) []:=⟨e.trans (ai n _),e.free n,[],ag,.nil⟩
def AccZ.on(A:AccZ K H0 l H ds)(e:Same H H'):AccZ K H0 l H' ds:=by
 obtain⟨xs,h1,h2⟩:=A.at_;exact⟨A.same.trans e,A.new,xs,e _ _ h1,h2.same e⟩
def AccZ.ref(A:AccZ K H0 l H ds):Rp K (λa=>H0 a=none) H (.ref l) (.list ds):=by
 obtain⟨xs,h1,h2⟩:=A.at_;exact .lst A.new h1 h2.z
def AccZ.rep(A:AccZ K H0 l H ds):Rep K H (.ref l) (.list ds):=A.ref.rep
def AccZ.ty(A:AccZ K H0 l H ds):HH K "list" (.ref l) H:=by
 obtain⟨xs,h1,_⟩:=A.at_;exact vw h1
def AccZ.sq(A:AccZ K H0 l H ds):∃xs,SqL K H l xs/\xs.length=ds.length/\RzL K H xs ds:=by
 obtain⟨xs,h1,h2⟩:=A.at_;exact⟨xs,SqL.of h1,h2.length,h2⟩
def AccZ.ag(A:AccZ K H0 l H ds):Same H0 (L2.upd H l o):=λb u q=>by
 rw[L2.aB (aq q A.new)];exact A.same b u q
def AccZ.other(A:AccZ K H0 l H ds)(ne:l≠m)(n:H0 m=none)(h:H m=some (.lst ys)):AccZ K H0 l (upd H m o) ds:=by
 obtain⟨xs,h1,h2⟩:=A.at_;refine⟨λb u q=>?_,A.new,xs,by rw[aB ne];exact h1,h2.upd h⟩;rw[aB (aq q n)];exact A.same b u q
end
def cx{K:Fg}{Q:VK}(A:AccZ K H0 l H ds)(r:Rz K H y d)(n:UD ds<sizeLine)
  (h:∀H2,AccZ K H0 l H2 (ds++[d])->(∀{v:V} {e:Dat},Rz K H v e->Rz K H2 v e)->(∀b,b≠l->H2 b=H b)->(∀{m:Addr} {es:List Dat},m≠l->AccZ K H0 m H es->AccZ K H0 m H2 es)->Q .non H2):aJ (.ref l) [y] H Q:=by
 obtain⟨xs,h1,h2⟩:=A.at_;refine⟨l,xs,y,rfl,rfl,h1,by rw[h2.length];exact n,h _ ⟨A.ag,A.new,xs++[y],ag,?_⟩ (λq=>Rz.upd q h1) (λb nb=>aB nb) λne B=>B.other ne A.new h1⟩;exact RzL.upd (h2.append (.cons r .nil)) h1
section
variable{K:Fg}{H:Hp}{Q:VK}{x y:V}{d e:Dat}{ds:List Dat}
open Classical in
def gR(hd:Rep K H x d)(he:Rep K H y (.list ds))(ka:∀e∈ds,kqdOk 8 e=true)(kd:kqdOk 8 d=true)(h1:d∉ds->Q (.bl true) H)(h2:d∈ds->Q (.bl false) H):i_ K true x y H Q:=by
 refine⟨d,ds,hd,he,ka,kd,?_⟩;by_cases z:d∈ds
 .have q:=h2 z;simpa[z] using q
 .have q:=h1 z;simpa[z] using q
open Classical in
def OI(hd:Rep K H x d)(he:Rep K H y (.list ds))(ka:∀e∈ds,kqdOk 8 e=true)(kd:kqdOk 8 d=true)(h1:d∈ds->Q (.bl true) H)(h2:d∉ds->Q (.bl false) H):i_ K false x y H Q:=by
 refine⟨d,ds,hd,he,ka,kd,?_⟩;by_cases z:d∈ds
 .have q:=h1 z;simpa[z] using q
 .have q:=h2 z;simpa[z] using q
end
abbrev G6(n:Nat):Option Int->Nat
 |none=>n
 |some j=>min j.toNat n
abbrev LM(l:List Nat):Option Int->List Nat
 |none=>l
 |some j=>l.take j.toNat
def Iz(n:Nat)(hi:Option Int):G6 n hi<=n:=by
 cases hi with
 |none=>exact Sx _
 |some j=>exact XB _ _
abbrev lF(z:Str)(lo hi:Option Int):Str:=⟨((LM z.cps.toList hi).drop (lo.getD 0).toNat).toArray⟩
abbrev NN:Option Int->Prop
 |none=>True
 |some i=>0<=i
def Qj{lo:Option Int}(n:Nat)(hl:NN lo)(hh:NN hi):Ui lo hi 1 n=(SJ (G6 n hi-min (lo.getD 0).toNat n)).map (λk=>min (lo.getD 0).toNat n+k):=by
 have core:∀(a b:Nat),a<=n->b<=n->sliceRange (a:Int) (b:Int) 1=(SJ (b-a)).map (λk=>a+k):=by
  intro a b ha hb;simp only[sliceRange,show((1:Int) > 0)=True from by simp,if_true];by_cases Ds:(a:Int)<b
  .have e3:(((b:Int)-a+1-1) / 1).toNat=b-a:=by rw[Int.ediv_one];lia
   simp only[Ds,if_true,e3];refine UV λk _=>?_
   lia
  .have:b-a=0:=by lia
   simp[Ds,this]
 have clip:∀i:Int,0<=i->max (0:Int) (min (if i<0 then i+n else i) n)=((min i.toNat n:Nat):Int):=by
  intro i hi;rw[if_neg ∅];lia
 cases lo with
 |none =>
  cases hi with
  |none =>
   have:=core 0 n ∅ ∅
   simpa[Ui,G6] using this
  |some j =>
   have:=core 0 (min j.toNat n) ∅ ∅
   simp only[Ui,show((1:Int) > 0)=True from by simp,if_true];rw[clip j hh];simpa[G6] using this
 |some i =>
  cases hi with
  |none =>
   have:=core (min i.toNat n) n ∅ ∅
   simp only[Ui,show((1:Int) > 0)=True from by simp,if_true];rw[clip i hl];simpa[G6] using this
  |some j =>
   have:=core (min i.toNat n) (min j.toNat n) ∅ ∅
   simp only[Ui,show((1:Int) > 0)=True from by simp,if_true];rw[clip i hl,clip j hh];simpa[G6] using this
def Fv(z:Str){lo:Option Int}(hl:NN lo)(hh:NN hi):Zb3 z lo hi=lF z lo hi:=by
 have len:z.cps.toList.length=z.length:=by simp[ZbK]
 have e:=Qj z.length hl hh;have p:=StrLaws.picks z.cps.toList (G6 z.length hi-min (lo.getD 0).toNat z.length) (min (lo.getD 0).toNat z.length) (by have:=Iz z.length hi;rw[len];lia)
 have q:(z.cps.toList.drop (min (lo.getD 0).toNat z.length)).take (G6 z.length hi-min (lo.getD 0).toNat z.length)=(LM z.cps.toList hi).drop (lo.getD 0).toNat:=by
  generalize (lo.getD 0).toNat=a;cases hi with
  |none =>
   show W9 (z.length-min a z.length) (Z3 (min a z.length) z.cps.toList)=Z3 a z.cps.toList;by_cases ha:a<=z.length
   .rw[X4 ha,SD (by rw[Ux,len];exact Sx _)]
   .rw[XC ∅,Vd (by rw[len];exact Sx _),Vd (by rw[len];lia)];simp
  |some j =>
   show W9 (min j.toNat z.length-min a z.length) (Z3 (min a z.length) z.cps.toList)=Z3 a (z.cps.toList.take j.toNat);rw[List.drop_take];generalize j.toNat=b;by_cases ha:a<=z.length
   .rw[X4 ha];by_cases hb:b<=z.length
    .rw[X4 hb]
    .rw[XC ∅,SD (by rw[Ux,len];exact Sx _),SD (by rw[Ux,len];lia)]
   .rw[XC (by lia:z.length<=a),Vd (by rw[len];exact Sx _),Vd (by rw[len];lia)];simp
 have r:(Ui lo hi 1 z.length).filterMap (z.cps[·]?)=(LM z.cps.toList hi).drop (lo.getD 0).toNat:=by
  rw[<- q,<- p,e];simp
 unfold Zb3 lF;split
 .rename_i c;have c':(Ui lo hi 1 z.length).length=z.length:=by simpa using c
  rw[e,Si,SV] at c'
  have w:(z.cps.toList.drop (min (lo.getD 0).toNat z.length)).take (G6 z.length hi-min (lo.getD 0).toNat z.length)=z.cps.toList:=by
   have b:=Iz z.length hi;by_cases h0:z.length=0
   .have:z.cps.toList=[]:=T0.mp (by rw[len];exact h0)
    rw[this];simp
   .have a0:min (lo.getD 0).toNat z.length=0:=by lia
    rw[a0,ZJ,SD (by rw[len];lia)]
  rw[<- q,w]
 .rw[r]
abbrev M2:V->Option Int->Option Int->Hp->VK->Prop:=λx lo hi H Q=>∃z,x=.str z/\z.length<=sizeLine/\NN lo/\NN hi/\Q (.str (lF z lo hi)) H
abbrev Qm:List V->Hp->VK->Prop:=λxs H Q=>∃i j,xs=[.int i,.int j]/\Q (.int (if j<i then j else i)) H
section
variable{X:Cx}
def MN:Qb X M2:=by
 intro G s σ H x v vl vu lo hi sl Q I rx hs pl pu h;obtain⟨z,rfl,hz,hl,hh,q⟩:=h;obtain⟨t,rfl⟩:=rx;refine⟨"str",_,F.slot_str_getitem.lookup,typeIs_str _ _ _,?_⟩
 have fin:∀(l u:Option (Int×Tok)),l.map (·.1)=lo->u.map (·.1)=hi->(sliceMade z t l u none).post (EP X G σ Q) s:=by
  intro l u el eu
  have e:sliceMade z t l u none=if ((1:Int) == 1 && (Ui lo hi 1 z.length).length == z.length)=true then Made.val (.str z t) else .str ⟨((Ui lo hi 1 z.length).filterMap (z.cps[·]?)).toArray⟩:=by
   unfold sliceMade slicePicked;rw[el,eu];rfl
  rw[e];have lt:=Txt.slice_le z lo hi;have eq:=Fv z hl hh;unfold Zb3 at lt eq;refine post_val_or_str ⟨Ta lt hz,λt' k=>⟨.str (lF z lo hi),H,I.tok k,⟨t',?_⟩,q⟩⟩;rw[eq]
 cases pl with
 |none =>
  cases pu with
  |none=>exact V7 (l:=none) (u:=none) (st:=none) hs rfl (fin none none rfl rfl)
  |int j tj=>exact V7 (l:=none) (u:=some (j,tj)) (st:=none) hs rfl (fin none (some (j,tj)) rfl rfl)
 |int i ti =>
  cases pu with
  |none=>exact V7 (l:=some (i,ti)) (u:=none) (st:=none) hs rfl (fin (some (i,ti)) none rfl rfl)
  |int j tj=>exact V7 (l:=some (i,ti)) (u:=some (j,tj)) (st:=none) hs rfl (fin (some (i,ti)) (some (j,tj)) rfl rfl)
end
abbrev RawD(h:Heap)(d:Addr)(es:Array Yg)(ep:Nat):Prop:=∃o,h.get? d=some o/\o.ExactDict/\o.data=.dict es ep
section
variable{prog:TK}{w:Ub}{A:Uc}{E:Su->SB->Prop}{s:SB}{d it:Addr}{es:Array Yg}{ep i:Nat}
def RawD.ty(m:RawD s.heap d es ep):s.TypeIs (.ref d) "dict":=by
 obtain⟨o,a,b,_⟩:=m;exact⟨o,a,b.1⟩
def RawD.at{h':Heap}(m:RawD h d es ep)(k:∀o,h.get? d=some o->h'.get? d=some o):RawD h' d es ep:=by
 obtain⟨o,a,b⟩:=m;exact⟨o,k o a,b⟩
def Ga{Q:Su->SB->Prop} (lo:(d == sysModules)=false) (m:RawD s.heap d es ep) (q:Q (.ref s.heap.objs.size) {s with heap:=s.heap.push {cls:=.type "dict_keyiterator",data:=.fields #[.ref d,.int 0 0,.int es.size 0,.int ep 0]}}) :
  wpAny (model prog w) A (pyIter (.ref d)) Q E s:=by
 have ty:=m.ty;obtain⟨o,ho,_,dt⟩:=m;refine YH ty Zba (UT Zba ty F.entry_dict_iter ?_ (F.args_dict_iter_1 _));unfold Vr.«dict.__iter__» Vr.Dict.dictSlotNone;refine Ss (Ss (wpAny_notOrdered_dict ty ?_));show wpAny _ _ (pure (TU d)) _ _ s;refine SN ?_;show wpAny _ _ (ZA d >>= _) _ _ s;unfold ZA;rw[if_neg (λz=>by rw[lo] at z;cases z)];refine Ss (SN (Ss (YI ho dt (Ss (Zv ho dt ?_)))));refine Ss (UI (SN ⟨_,rfl,"dict_keyiterator",_,⟨_,Th _ rfl,rfl⟩,U4.lookup,?_⟩));simpa[rawInt] using q
def wK{Q:Option Su->SB->Prop}(ki:s.heap.IsKeyIter it d i es.size ep)(m:RawD s.heap d es ep) :
  (∀e,es[i]?=some e->(∀h',h'.IsKeyIter it d (i+1) es.size ep->Vz it s.heap h'->Q (some e.key) {s with heap:=h'})->wpAny (model prog w) A (pyNext (.ref it)) Q E s) /\
  (A.handled=none->es[i]?=none->(∀h',Zbo it s.heap h'->Q none {s with heap:=h'})->wpAny (model prog w) A (pyNext (.ref it)) Q E s):=by
 obtain⟨o,ho,oc,od⟩:=id ki;obtain⟨dd,hd,_,dt⟩:=id m;have own:Vr.Dict_items.ownsTuple "dict_keyiterator"=false:=by decide
 have nn : ¬ ((TU d == U8)=true):=SX;constructor
 .intro e he hq;unfold pyNext;refine Ss (XJ (U_ (name:=Xk "__next__") ki.typeIs U4 (UT U4 ki.typeIs XR ?_ (XD _))));refine Ss (SN (Ss (Ss (Ss (Vp ki.typeIs (SN (Ss (Yn ho od ?_))))))));simp only[own,Wi,if_false];show wpAny _ _ (if (TU d == U8)=true then _ else _) _ _ s;rw[if_neg nn];refine Ss (SN (Ss (YI hd dt ?_)));rw[if_neg (by simp)];refine Ss (SN (Ss (Zv hd dt ?_)));rw[if_neg (by simp)];refine SN ?_;simp only[show ¬ ((i:Int)<0) from by lia,if_false,TW,he];refine Ss (Ss (Vp ki.typeIs (SN (Ss (ZB ki.typeIs ?_)))));show wpAny _ _ (setField (.ref it) 1 (rawInt ((i:Int)+1)) >>= _) _ _ s;refine Ss (V8 ho od (by simp) ?_);have k2:(s.heap.update it (VC (·.setIfInBounds 1 (rawInt ((i:Int)+1))))).IsKeyIter it d (i+1) es.size ep:=⟨_,UH _ ho (Wr (U9 od _)),(Xl ..).trans oc,by rw[U9 od];simp[rawInt]⟩
  refine Ss (VB (Ss (ZB (s:={s with heap:=s.heap.update it (VC (·.setIfInBounds 1 (rawInt ((i:Int)+1))))}) k2.typeIs ?_)));show wpAny _ _ (pure e.key) _ _ _;exact SN (SN ⟨_,rfl,SN (hq _ k2 (Uu ..))⟩)
 .intro hh he hq;unfold pyNext;refine Ss (XJ (U_ (name:=Xk "__next__") ki.typeIs U4 (UT U4 ki.typeIs XR ?_ (XD _))));refine Ss (SN (Ss (Ss (Ss (Vp ki.typeIs (SN (Ss (Yn ho od ?_))))))));simp only[own,Wi,if_false];show wpAny _ _ (if (TU d == U8)=true then _ else _) _ _ s;rw[if_neg nn];refine Ss (SN (Ss (YI hd dt ?_)));rw[if_neg (by simp)];refine Ss (SN (Ss (Zv hd dt ?_)));rw[if_neg (by simp)];refine SN ?_;simp only[show ¬ ((i:Int)<0) from by lia,if_false,TW,he];refine Ss (Ss (Vp ki.typeIs (SN ?_)));show wpAny _ _ (setField (.ref it) 0 .none >>= _) _ _ s;refine Ss (V8 ho od (by simp) ?_);show wpAny _ _ (newExc (.type "StopIteration") [] >>= _) _ _ _;refine Ss ?_;simp only[newExc,newTuple];refine Ss (UI ?_ (by size_fits));refine Ss (m:=firstArgMember _ _) (YJ (a:=U8) (by simp only[firstArgMember];rfl) (UI ?_ (by size_fits)));simp only[raiseNew];refine Ss (Zab ?_);rw[show A.in1.handled=none from hh];refine Ss (SN (Zbp ?_));refine Ss (XE (T:="StopIteration") (b:=true) ⟨_,Th _ rfl,rfl⟩ ZK ?_);exact SN (hq _ (((Uu ..).extBut.push _).push _))
def BJ(hh:A.handled=none)(I d:Addr)(ne:d≠I)(es:Array Yg)(ep:Nat):Zbj prog w A I [I,d] [I] es.size (λi v=>∃e,es[i]?=some e/\v=e.key) (λi h=>h.IsKeyIter I d i es.size ep/\RawD h d es ep) where
 sub:=λb hb=>by rw[SO.mp hb];simp
 frame:=λ_ _ _ st hk=>⟨st.1.at λo e=>hk I (by simp) o e,st.2.at λo e=>hk d (by simp) o e⟩
 item:=λi s Q E hi st hq=>by
  refine(wK st.1 st.2).1 es[i] (by simp[hi]) λh' k1 k2=>?_
  exact hq _ h' s.toks ⟨es[i],by simp[hi],rfl⟩ ⟨k1,st.2.at λo e=>k2.extBut d o ne e⟩ λb o hb e=>k2.extBut b o (λz=>hb (by simp[z])) e
 done:=λs Q E st hq=>(wK st.1 st.2).2 hh (by simp) λh' k=>hq h' s.toks λb o hb e=>k b o (λz=>hb (by simp[z])) e
 self:=λ_ _ _ _ st hq=>wpAny_pyIter_keyiter st.1 hq
def BK(lo:(d == sysModules)=false):ZbN prog w "dict" d d es.size (λi v=>∃e,es[i]?=some e/\v=e.key) (λh=>RawD h d es ep) where
 type:=λ_ m=>m.ty
 there:=(by rintro _ ⟨_,e,_⟩;exact ⟨Td e,Td e⟩)
 keep:=λ_ _ m hk=>m.at λo e=>hk d (.inl rfl) o e
 notList:=by decide
 notTuple:=by decide
 hint:=λ_ _ _ _ m q=>PySem.W.kdl_hint_dict m.ty q
 iter:=λ_ _ hh m=>⟨_,_,(λ_ _ q=>Ga lo m q),BJ hh _ d (by obtain⟨_,e,_⟩:=m;exact TN (Td e)) es ep,⟨⟨_,Th _ rfl,rfl,rfl⟩,m.at λ_ e=>Sy _ e⟩⟩
end
def qZ:∀ys:List (List a9×Addr×Su),Vals (ys.map (V.ref∘λy=>y.2.1)) (ys.map λy=>TU y.2.1)
 |[]=>.nil
 |_ :: ys=>.cons rfl (qZ ys)
def Ls{ab:List (List a9×V)}{ys:List (List a9×Addr×Su)}(r:KT H ab ys):Paired (λ(p:List a9×V) b=>H b=some (.tup (p.1.map kV))) ab (ys.map λy=>y.2.1):=by
 induction r with
 |nil=>exact .nil
 |cons h t ih=>exact .cons h.2.1 ih
abbrev HW:List V->Hp->VK->Prop:=λxs H Q=>∃a ab,xs=[.ref a]/\H a=some (.dT ab)/\∀(l:Addr) (bs:List Addr),H l=none->Paired (λ(p:List a9×V) b=>H b=some (.tup (p.1.map kV))) ab bs->Q (.ref l) (upd H l (.lst (bs.map V.ref)))
def zf{X:Cx} (hc:X.calm=true):ff X (.type "list") HW:=by
 intro G s σ H xs us Q I r h;obtain⟨a,ab,rfl,ha,q⟩:=h;obtain⟨u,rfl,ru⟩:=vals1 r;cases ru;obtain⟨z,lo,ys,kt,o,es,ep,ho,ex,dt,he,_,_⟩:=Pb I.hok ha;have sz:es.size=UD ab:=by rw[<- Tq,he,Si];exact(WT kt).symm
 refine Zbb (BK (es:=es) (ep:=ep) lo) (I.ok.hd hc) ⟨o,ho,ex,dt⟩ (by rw[sz];exact z) λh' tk acc c kp hl hit=>?_
 have acc_eq:acc.toList=ys.map λy=>TU y.2.1:=by
  refine YK λj=>?_
  by_cases lt:j<es.size
  .have hj:j<acc.toList.length:=by rw[Tq];rw[hit.1];exact lt
   have e1:acc.toList[j]?=some acc.toList[j]:=Sk hj;obtain⟨e,ee,ev⟩:=hit.2 j acc.toList[j] (by rw[<- Ts];exact e1);rw[e1,ev];rw[<- Ts,he,So] at ee;obtain⟨y,hy1,hy2⟩:=SA.mp ee;rw[So,hy1,<- hy2];rfl
  .rw[Tj (by rw[Tq,hit.1];lia),Tj];rw[Si]
   have:=WT kt
   lia
 have vals:Vals ((ys.map λy=>y.2.1).map V.ref) acc.toList:=by
  rw[acc_eq,TY];exact qZ ys
 have cb:Paired (λ(p:List a9×V) b=>H b=some (.tup (p.1.map kV))) ab (ys.map λy=>y.2.1):=by
  exact Ls kt
 refine⟨.ref s.heap.objs.size,_,I.laid (t':=tk) kp (Sx _) (show ca X.prog X.w _ h' _ (.lst ((ys.map λy=>y.2.1).map V.ref)) from⟨?_,acc.toList,c,vals,by rw[Wz];exact hl⟩),rfl,q _ _ (I.hok.fresh (Sx _)) cb⟩;rw[Si,Si,<- WT kt];exact z
section
variable{X:Cx}{G:List (Addr×Obj)}{σ:St}{H:Hp}{s:SB}{h':Heap}
def Inv.nK{t':Nat}{fp:List Addr}(I:Inv X G σ H s)(k:∀b o,b∉fp->s.heap.get? b=some o->h'.get? b=some o)(hf:∀b∈fp,iC X G H b):Inv X G σ H {s with heap:=h',toks:=t'}:=by
 have nit:∀b u,H b=some u->b∉fp:=λb u e z=>by
  have q:=(hf b z).1;rw[q] at e;cases e
 refine I.step (g':=s.gens) (d':=s.drawn) (ch:=fp) (λb hb=>⟨(hf b hb).2.2.2.1,(hf b hb).2.1,(hf b hb).2.2.2.2.1,(hf b hb).2.2.2.2.2⟩) (λb o _ _ hc e _=>k b o hc e) (λb o _ _ hc e _=>⟨o.slots,k b o hc e⟩) (λ_ _ _ _ n=>n)
  (λb o hc e=>⟨o,k b o hc e⟩) (λ_ _ e=>e) (λ_ _ _ e=>e) (λb ps e=>⟨#[],by rw[e,Zah]⟩) (λm hm=>?_) (λb u e=>?_) I.bare
 .obtain⟨o,es,ep,ho,r⟩:=hm;exact⟨o,es,ep,k _ o (λz=>(hf _ z).2.1 rfl) ho,r⟩
 .refine(I.hok b u e).stay (λc v hc q=>k c v ?_ q) (λ_ q=>q) λ_ _ q=>q
  rcases hc with z|z
  .rw[z];exact nit b u e
  .exact nit c _ z
end
end L2
local macro_rules | `(tactic| walk_at "zo")=>`(tactic| first|omega|(show(_:Nat)≠_;omega))
namespace L2
open PySem PySem.Spec PyProof.Rows
inductive Kn|L|T
abbrev Kn.sq(k:Kn)(K:Fg)(H:Hp)(a:Addr)(xs:List V):Prop:=match k with
 |.L=>SqL K H a xs
 |.T=>SqT K H a xs
abbrev Kn.it(k:Kn)(h:Heap)(i l:Addr)(j:Nat):Prop:=match k with
 |.L=>h.IsListIter i l j
 |.T=>h.IsTupleIter i l j
abbrev Kn.seq(k:Kn)(h:Heap)(l:Addr)(xs:Array Su):Prop:=match k with
 |.L=>h.IsList l xs
 |.T=>h.IsTuple l xs
abbrev Kn.obj(k:Kn)(l:Addr):Obj:=match k with
 |.L=>{cls:=.type "list_iterator",data:=.fields #[.ref l,.int 0 0]}
 |.T=>{cls:=.type "tuple_iterator",data:=.fields #[.ref l,.int 0 0]}
def Kn.itAt(k:Kn){h':Heap}{it:Addr}(t:k.it h it l j)(e:∀o,h.get? it=some o->h'.get? it=some o):k.it h' it l j:=by
 cases k
 .exact Heap.IsListIter.at t e
 .exact Heap.IsTupleIter.at t e
def Kn.Rr(k:Kn){it:Addr}(t:k.it h it l j):∃o,h.get? it=some o/\∀v,o.data≠.cell v:=by
 cases k <;> (obtain⟨o,e,_,d⟩:=t;exact⟨o,e,λv z=>by rw[d] at z;cases z⟩)
def Kn.Fu(k:Kn){h':Heap}(t:k.seq h l xs)(e:∀o,h.get? l=some o->h'.get? l=some o):k.seq h' l xs:=by
 cases k
 .exact Heap.IsList.at t e
 .obtain⟨o,a,b⟩:=t;exact⟨o,e o a,b⟩
def Kn.lt(k:Kn)(t:k.seq h l xs):l<h.objs.size:=by
 cases k <;> (obtain⟨o,a,_⟩:=t;exact Td a)
def Kn.inv{H:Hp}(k:Kn)(I:Inv X G σ H s)(q:k.sq X.K H a xs):∃de:List Su,Vals xs de/\k.seq s.heap a de.toArray:=by
 cases k
 .obtain⟨de,r,p,_⟩:=I.list q;exact⟨de,r,p.isList⟩
 .obtain⟨de,r,p,_⟩:=I.tuple q;exact⟨de,r,p⟩
def Kn.inj{H:Hp}(k:Kn)(I:Inv X G σ H s)(q:k.sq X.K H a xs)(r:k.sq X.K H a ys):xs=ys:=by
 cases k
 .exact I.pJ q r
 .exact I.qu q r
section
variable{prog:TK}{w:Ub}{A:Uc}{E:Su->SB->Prop}{s:SB}
def Kn.iter(k:Kn){Q:Su->SB->Prop}(t:k.seq s.heap l xs)(q:Q (.ref s.heap.objs.size) {s with heap:=s.heap.push (k.obj l)}):wpAny (model prog w) A (pyIter (.ref l)) Q E s:=by
 cases k
 .exact Xf t q
 .exact Yk t q
def Kn.it0(k:Kn)(h:Heap)(l:Addr):k.it (h.push (k.obj l)) h.objs.size l 0:=by
 cases k <;> exact⟨_,Th _ rfl,rfl,rfl⟩
def Kn.nx(k:Kn){it:Addr}{Q:Su->SB->Prop}(t:k.it s.heap it l i)(q:k.seq s.heap l xs)(hi:∀x h',xs[i]?=some x->k.it h' it l (i+1)->Vz it s.heap h'->Q x {s with heap:=h'})
  (he:xs[i]?=none->A.handled=none/\∀h' e,Zbo it s.heap h'->(∃o,h'.get? e=some o/\o.cls=.type "StopIteration")->E (.ref e) {s with heap:=h'}):wpAny (model prog w) A (WM (.ref it)) Q E s:=by
 cases k with
 |L=>cases hx:xs[i]? with
  |some x=>exact wpAny_nextOf_list_item t q hx λh'=>hi x h' hx
  |none=>exact wpAny_nextOf_list_end (he hx).1 t q hx (he hx).2
 |T =>
  obtain⟨o,ho,oc,od⟩:=id t;obtain⟨ol,hl,_,nl,dl⟩:=id q;unfold WM;refine Ss (U_ (name:=Xk "__next__") t.typeIs Yo (UT Yo t.typeIs F.entry_tuple_iterator_next ?_ (F.args_tuple_iterator_next_1 _)));show wpAny _ _ (field (.ref it) 0 >>= _) _ _ s;refine Ss (XS ho od (x:=.ref l) rfl ?_);show wpAny _ _ (if (TU l == U8)=true then _ else _) _ _ s;rw[if_neg (show ¬ ((TU l == U8)=true) from SX)];show wpAny _ _ (field (.ref it) 1 >>= _) _ _ s;refine Ss (XS ho od (x:=.int i 0) rfl ?_);show wpAny _ _ (seqItems? (.ref l) >>= _) _ _ s;refine Ss (Yp hl dl ?_);simp only[TW];cases hx:xs[i]? with
  |some x =>
   exact Ss (V8 ho od (by simp) (SN ⟨x,rfl,SN (hi x _ hx ⟨_,UH _ ho (Wr (U9 od _)),(Xl ..).trans oc,by rw[U9 od];simp[rawInt]⟩ (Uu ..))⟩))
  |none =>
   refine Ss (Zf (Ss (V8 ho od (by simp) ?_)));show wpAny _ _ (newExc (.type "StopIteration") [] >>= _) _ _ _;refine Ss ?_;simp only[newExc,newTuple];refine Ss (UI ?_ (by size_fits));refine Ss (m:=firstArgMember _ _) (YJ (a:=U8) (by simp only[firstArgMember];rfl) ?_);refine UI ?_ (by size_fits);simp only[raiseNew];refine Ss (Zab ?_);rw[show A.in1.handled=none from(he hx).1];exact Ss (SN (Zbp ((he hx).2 _ _ (((Uu ..).extBut.push _).push _) ⟨_,Th _ rfl,rfl⟩)))
def fF{α β:Type}{F:α->β->Prop}:∀{l:List α} {m:List β} {i:Nat} {x:α},Paired F l m->l[i]?=some x->∃y,m[i]?=some y/\F x y
 |_,_,0,_,.cons r _,e=>by cases e;exact⟨_,rfl,r⟩
 |_,_,i+1,x,.cons _ t,e=>fF (i:=i) t e
structure PB (B:Nat) (ks:List (Kn×Addr)) (i:Nat) (f0:Su) (h:Heap):Prop where
 z:IsZip h (B+UD ks+2) (B+UD ks) (B+UD ks+1) f0
 c:h.get? (B+UD ks)=some {cls:=.type "tuple",data:=.seq ((SJ (UD ks)).map λj=>TU (B+j)).toArray}
 o:∃a:Array Su,a.size=(UD ks)/\h.get? (B+UD ks+1)=some {cls:=.type "tuple",data:=.seq a}
 t:∀(j:Nat) (p:Kn×Addr),ks[j]?=some p->p.1.it h (B+j) p.2 i
structure RJ (B:Nat) (ks:List (Kn×Addr)) (us:List (Array Su)) (i j:Nat) (h0 h:Heap):Prop where
 sz:h.objs.size=h0.objs.size
 z:IsZip h (B+UD ks+2) (B+UD ks) (B+UD ks+1) .ellipsis
 o:∃a:Array Su,a.size=(UD ks)/\h.get? (B+UD ks+1)=some {cls:=.type "tuple",data:=.seq a}/\∀m<j,∃u:Array Su,us[m]?=some u/\a[m]? = u[i]?/\i<u.size
 t:∀(m:Nat) (p:Kn×Addr),ks[m]?=some p->p.1.it h (B+m) p.2 (if m<j then i+1 else i)
 k:∀c o,(c<B\/c=B+(UD ks)\/B+UD ks+2<c)->h0.get? c=some o->h.get? c=some o
def zw{ks:List (Kn×Addr)}{Q:Option Su->SB->Prop}(ne:0<UD ks)(lz:UD ks<=sizeLine)(st:PB B ks i .none s.heap)(sq:Paired (λ(p:Kn×Addr) (u:Array Su)=>p.2<B/\p.1.seq s.heap p.2 u) ks us)
  (hi:∀h' a,a.size=UD ks->(∀(m:Nat) (u:Array Su),us[m]?=some u->i<u.size/\a[m]? = u[i]?)->PB B ks (i+1) (rawInt s.heap.objs.size) h'->h'.get? s.heap.objs.size=some {cls:=.type "tuple",data:=.seq a}->(∀c o,(c<B\/B+UD ks+2<c)->s.heap.get? c=some o->h'.get? c=some o)->Q (some (.ref s.heap.objs.size)) {s with heap:=h'})
  (he:∀u∈us,u.size<=i->A.handled=none/\∀h',(∀c o,(c<B\/B+UD ks+2<c)->s.heap.get? c=some o->h'.get? c=some o)->Q none {s with heap:=h'}):wpAny (model prog w) A (pyNext (.ref (B+UD ks+2))) Q E s:=by
 obtain⟨hz,hI,⟨a0,ha,hO⟩,ht⟩:=st;have ty:s.TypeIs (.ref (B+UD ks+2)) "zip":=⟨_,hz,rfl⟩
 unfold pyNext;refine Ss (XJ (U_ (name:=Xk "__next__") ty F.slot_zip_next (UT F.slot_zip_next ty F.entry_zip_next ?_ (F.args_zip_next_1 _))));show wpAny _ _ (field (.ref (B+UD ks+2)) 2 >>= _) _ _ _;refine Ss (XS hz rfl (x:=.bool false) rfl ?_);show wpAny _ _ (field (.ref (B+UD ks+2)) 3 >>= _) _ _ _;refine Ss (XS hz rfl (x:=.ref (B+UD ks)) rfl (Ss (Yp hI rfl ?_)));have em : ¬ (((SJ (UD ks)).map λj=>TU (B+j)).toArray.isEmpty=true):=λz=>by simp at z;rw[z] at ne;cases ne
 dsimp only;rw[if_neg em];refine Ss ?_;unfold Vr.SmallTypes.ownedTupleIsFree;refine Ss (XS hz rfl (x:=.none) rfl (SN ?_));simp only[if_true];have pl:=sq.length;refine Ss (Zf (Ss (XS hz rfl (x:=.ref (B+UD ks+1)) rfl (Ss (W2 hz (by simp) λh1 hz1 hs1=>?_)))));refine Ss (wpAny_forIn_list _ (λrest b s'=>∃j h,j<=(UD ks)/\rest=(((SJ (UD ks)).map λj=>TU (B+j)).zipIdx).drop j/\b=(none,())/\s' = {s with heap:=h}/\RJ B ks us i j s.heap h) _ ?_ ?_ _ _ ⟨0,h1,TV _,rfl,rfl,rfl,hs1.1,hz1,⟨a0,ha,hs1.extBut _ _ (by walk_at "zo") hO,λm z=>nomatch z⟩,λm p hp=>p.1.itAt (ht m p hp) λo=>hs1.extBut _ _ (by have:=(Sn.mp hp).1;walk_at "zo"),λc o hc=>hs1.extBut _ _ (by walk_at "zo")⟩)
 .rintro x rest b s' ⟨j,h,le,e,rfl,rfl,M⟩;have lj:j<UD ks:=VM le λz=>by rw[z,Vd (by simp)] at e;cases e
  rw[YA (by simpa using lj)] at e;obtain⟨e1,e2⟩:=Vo e;obtain rfl:x=(TU (B+j),j):=by rw[e1];simp
  have hp:ks[j]?=some ks[j]:=Sk lj;obtain⟨u,hu,lu,sp⟩:=fF sq hp;have tj:=M.t j _ hp;rw[if_neg (VZ j)] at tj;show wpAny _ _ (((WM (.ref (B+j)) >>= λv=>pure (some v)).onRaise _) >>= _) _ _ _;refine Ss (wpAny_onRaise (Ss (ks[j].1.nx tj (ks[j].1.Fu sp λo=>M.k _ o (.inl lu)) (λx h2 hx t2 hs2=>SN ?_) λhx=>?_)))
  .obtain⟨a,ha,hO,hd⟩:=M.o;have hO2:=hs2.extBut _ _ (by walk_at "zo") hO;have sb:=Uu h2 (B+UD ks+1) (WZ (·.setIfInBounds j x));have kp:∀c o,c≠B+j->c≠B+UD ks+1->h.get? c=some o->_:=λc o c1 c2 e=>sb.extBut c o c2 (hs2.extBut c o c1 e)
   refine Ss (Yp hO2 rfl (Ss (wpAny_updateSeq hO2 rfl (Ss (wpAny_letGo (SN ⟨j+1,_,lj,e2,rfl,rfl,?_,kp _ _ (by walk_at "zo") (by walk_at "zo") M.z,⟨a.setIfInBounds j x,by simpa using ha,?_,λm hm=>?_⟩,λm p hm=>?_,λc o hc e=>kp c o (by walk_at "zo") (by walk_at "zo") (M.k c o hc e)⟩))))))
   .rw[sb.1,hs2.1];exact M.sz
   .rw[UH _ hO2 rfl];simp[WZ]
   .rcases YU.mp hm with q|rfl
    .obtain⟨v,h1,h2,h3⟩:=hd m q;exact⟨v,h1,by rw[Array.getElem?_setIfInBounds_ne ∅];exact h2,h3⟩
    .exact⟨u,hu,by rw[Array.getElem?_setIfInBounds_self_of_lt ∅,hx],(WA.mp hx).1⟩
   .have lm:=(Sn.mp hm).1;by_cases q:m=j
    .subst q;rw[hp] at hm;cases hm;rw[if_pos (Y7 _)];exact ks[m].1.itAt t2 λo=>sb.extBut _ _ (by walk_at "zo")
    .rw[show(if m<j+1 then i+1 else i)=if m<j then i+1 else i by split <;> split <;> lia];exact p.1.itAt (M.t m p hm) λo=>kp _ _ (by walk_at "zo") (by walk_at "zo")
  .obtain⟨hh,q⟩:=he u (Sq hu) (Array.getElem?_eq_none_iff.mp hx);refine⟨hh,λh2 e hs2 ω=>?_⟩;obtain⟨oe,hoe,hce⟩:=ω;have hz2:=hs2 _ _ (by walk_at "zo") M.z;have ez:e≠B+UD ks+2:=λx=>by rw[x,hz2] at hoe;cases hoe;simp at hce
   refine W2 hz2 (by simp) λh3 _ hs3=>?_
   exact Ss (XE (T:="StopIteration") (b:=true) ⟨oe,hs3.extBut _ _ ez hoe,hce⟩ ZK (SN (q _ λc o hc e=>hs3.extBut _ _ (by walk_at "zo") (hs2 _ _ (by walk_at "zo") (M.k c o (by walk_at "zo") e)))))
 .rintro b s' ⟨j,h,le,e,rfl,rfl,M⟩
  obtain rfl:j=UD ks:=by
   have:=congrArg UD e
   simp at this;lia
  obtain⟨a,ha,hO,hd⟩:=M.o;refine Ss (Yp hO rfl (Ss (ZM ?_ (by rw[Tq,ha];exact lz))));show wpAny _ _ (WO (.ref (B+UD ks+2)) (.ref h.objs.size) >>= _) _ _ _;refine Ss ?_;unfold WO;have zl:=Td M.z;refine Ss (W2 (Sy _ M.z) (by simp) λh7 hz7 hs7=>W2 hz7 (by simp) λh8 hz8 hs8=>SN ⟨_,rfl,?_⟩);have up:∀c o,c≠B+UD ks+2->h.get? c=some o->h8.get? c=some o:=λc o c1 e=>hs8.extBut _ _ c1 (hs7.extBut _ _ c1 (Sy _ e))
  have hT:=hs8.extBut _ _ (Wg zl) (hs7.extBut _ _ (Wg zl) (Th (o:={cls:=.type "tuple",data:=.seq a}) h rfl));show wpAny _ _ (pure (some (TU h.objs.size))) _ _ _;rw[M.sz] at hT hz8 ⊢;refine SN (hi h8 a ha (λm u hu=>?_) ⟨hz8,up _ _ (by walk_at "zo") (M.k _ _ (.inr (.inl rfl)) hI),⟨a,ha,up _ _ (by walk_at "zo") hO⟩,λm p hp=>p.1.itAt ?_ λo=>up _ o (by have:=(Sn.mp hp).1;walk_at "zo")⟩ hT λc o hc e=>up c o (by walk_at "zo") (M.k c o (by walk_at "zo") e))
  .obtain⟨v,h1,h2,h3⟩:=hd m (by have:=(Sn.mp hu).1;lia);rw[h1] at hu;cases hu;exact⟨h3,h2⟩
  .have:=M.t m p hp
   rwa [if_pos (Sn.mp hp).1] at this
def EL{Q:List Su->SB->Prop}(sq:Paired (λ(p:Kn×Addr) (u:Array Su)=>p.1.seq s.heap p.2 u) ks us)
  (q:∀h':Heap,h'.objs.size=s.heap.objs.size+UD ks->(∀(j:Nat) (p:Kn×Addr),ks[j]?=some p->p.1.it h' (s.heap.objs.size+j) p.2 0)->(∀c o,s.heap.get? c=some o->h'.get? c=some o)->Q ((SJ ks.length).map λj=>TU (s.heap.objs.size+j)) {s with heap:=h'}) :
  wpAny (model prog w) A (Yq (ks.map λp=>.ref p.2)) Q E s:=by
 unfold Yq
 refine Ss (wpAny_forIn_list _ (λrest b s'=>∃j h,j<=(UD ks)/\rest=(ks.map λp=>TU p.2).drop j/\b=((SJ j).map λj=>TU (s.heap.objs.size+j)).toArray/\s' = {s with heap:=h}/\h.objs.size=s.heap.objs.size+j /\
  (∀(m:Nat) (p:Kn×Addr),m<j->ks[m]?=some p->p.1.it h (s.heap.objs.size+m) p.2 0)/\∀c o,s.heap.get? c=some o->h.get? c=some o) _ ?_ ?_ _ _ ⟨0,s.heap,TV _,rfl,rfl,rfl,rfl,(λm p z=>absurd z (TZ m)),λc o e=>e⟩)
 .rintro x rest b s' ⟨j,h,le,e,rfl,rfl,sz,t,kp⟩;have lj:j<UD ks:=VM le λz=>by rw[z,Vd (by simp)] at e;cases e
  rw[YA (by simpa using lj)] at e;obtain⟨e1,e2⟩:=Vo e;obtain rfl:x=TU ks[j].2:=by rw[e1];simp
  obtain⟨u,_,sp⟩:=fF sq (Sk lj);refine Ss (VB (ks[j].1.iter (ks[j].1.Fu sp λo=>kp _ o) (SN ⟨j+1,_,lj,e2,?_,rfl,?_,λm p hm hp=>?_,λc o e=>Sy _ (kp c o e)⟩)))
  .simp[U5,sz]
  .simp[VL,sz];lia
  .rcases YU.mp hm with q|rfl
   .exact p.1.itAt (t m p q hp) λo=>Sy _
   .rw[Sk lj] at hp;cases hp;rw[<- sz];exact ks[m].1.it0 _ _
 .rintro b s' ⟨j,h,le,e,rfl,rfl,sz,t,kp⟩
  obtain rfl:j=UD ks:=by
   have:=congrArg UD e
   simp at this;lia
  exact SN (q h sz (λj p hp=>t j p (Sn.mp hp).1 hp) kp)
def Qs{h:Heap}{n:Nat}{a b c:Obj}(sz:h.objs.size=n)(fa:a.isFreed=false)(fb:b.isFreed=false)(fc:c.isFreed=false):(h.push a).objs.size=n+1/\((h.push a).push b).objs.size=n+2 /\
  (((h.push a).push b).push c).get? n=some a/\(((h.push a).push b).push c).get? (n+1)=some b/\(((h.push a).push b).push c).get? (n+2)=some c/\∀x o,h.get? x=some o->(((h.push a).push b).push c).get? x=some o:=by
 have e1:(h.push a).objs.size=n+1:=by rw[VL,sz]
 have e2:((h.push a).push b).objs.size=n+2:=by rw[VL,e1]
 refine⟨e1,e2,?_,?_,?_,λx o e=>Sy _ (Sy _ (Sy _ e))⟩
 .rw[<- sz];exact Sy _ (Sy _ (Th _ fa))
 .rw[<- e1];exact Sy _ (Th _ fb)
 .rw[<- e2];exact Th _ fc
def EK(ks:List (Kn×Addr)) (us:List (Array Su)):Meets (Vr.«zip.__new__» ⟨.type "zip" :: ks.map λp=>.ref p.2,[]⟩) (λ_ R s=>UD ks<=sizeLine/\Paired (λ(p:Kn×Addr) (u:Array Su)=>p.1.seq s.heap p.2 u) ks us /\
  ∀h',PB s.heap.objs.size ks 0 .none h'->(∀c o,s.heap.get? c=some o->h'.get? c=some o)->R (.ok (.ret (.ref (s.heap.objs.size+UD ks+2)))) {s with heap:=h'}) :=
 .of_wp λprog w A R s h=>by
  obtain⟨lz,sq,h⟩:=h;have hsub:=sub_zip;wp_walk using EL sq;intro h' sz t kp;refine Ss (ZM (Ss (ZM (Ss ?_) (by simpa using lz))) (by simpa using lz));wp_walk;refine⟨_,rfl,?_⟩
  obtain⟨e1,e2,g1,g2,g3,kp2⟩:=Qs (h:=h') (a:={cls:=.type "tuple",data:=.seq ((SJ (UD ks)).map λj=>TU (s.heap.objs.size+j)).toArray}) (b:={cls:=.type "tuple",data:=.seq (((SJ (UD ks)).map λj=>TU (s.heap.objs.size+j)).map λ_=>U8).toArray})
   (c:={cls:=.type "zip",data:=.fields #[.none,.bool false,.bool false,.ref (s.heap.objs.size+UD ks),.ref (s.heap.objs.size+UD ks+1)]}) sz rfl rfl rfl
  simp only[sz,e1,e2];exact h _ ⟨g3,g1,⟨_,by simp,g2⟩,λj p hp=>p.1.itAt (t j p hp) λo=>kp2 _ o⟩ λc o e=>kp2 c o (kp c o e)
end
abbrev Qe(K:Fg)(ks:List (Kn×Addr)):It :=
 ⟨λi H=>∀p∈ks,∃xs,p.1.sq K H p.2 xs/\i<UD xs,λi H v H'=>∃T ys,H T=none/\v=.ref T/\H'=upd H T (.tup ys)/\Paired (λ(p:Kn×Addr) y=>∀xs,p.1.sq K H p.2 xs->xs[i]?=some y) ks ys,
  λi H=>∀p∈ks,∃xs,p.1.sq K H p.2 xs/\(i<UD xs->∃p∈ks,∃xs,p.1.sq K H p.2 xs/\xs.length<=i)⟩
def io{α β:Type}{F:α->β->Prop}:∀{l:List α},(∀x∈l,∃y,F x y)->∃m,Paired F l m
 |[],_=>⟨[],.nil⟩
 |x :: l,h=>by
  obtain⟨y,hy⟩:=h x Sv;obtain⟨m,hm⟩:=io λz hz=>h z (Sw x hz)
  exact⟨y :: m,.cons hy hm⟩
def mN{α β:Type}{F:α->β->Prop}:∀{l:List α} {m:List β},Paired F l m->∀y∈m,∃x∈l,F x y
 |_,_,.cons r t,y,h=>by
  rcases S_.mp h with rfl|z
  .exact⟨_,Sv,r⟩
  .obtain⟨x,hx,e⟩:=mN t y z;exact⟨x,Sw _ hx,e⟩
def wf{X:Cx}{G:List (Addr×Obj)}{σ:St}{H:Hp}{s:SB}(I:Inv X G σ H s){i:Nat}:∀{ks:List (Kn×Addr)} {us:List (Array Su)},Paired (λ(p:Kn×Addr) (u:Array Su)=>∃xs,p.1.sq X.K H p.2 xs/\Vals xs u.toList) ks us->(∀(m:Nat) (u:Array Su),us[m]?=some u->i<u.size) ->
  ∃ys vs,Paired (λ(p:Kn×Addr) y=>∀xs,p.1.sq X.K H p.2 xs->xs[i]?=some y) ks ys/\Vals ys vs/\vs.length=us.length/\∀(m:Nat) (u:Array Su),us[m]?=some u->vs[m]? = u[i]?
 |_,_,.nil,_=>⟨[],[],.nil,.nil,rfl,λm u e=>nomatch e⟩
 |p :: ks,u :: us,.cons ⟨xs,q,r⟩ t,h=>by
  obtain⟨ys,vs,h1,h2,h3,h4⟩:=wf I t λm u e=>h (m+1) u e
  have l:=h 0 u rfl;have lx:i<UD xs:=by rw[r.length];exact l
  obtain⟨v,e1,e2⟩:=r.get (Sk lx);refine⟨xs[i] :: ys,v :: vs,.cons (λzs hz=>by rw[p.1.inj I hz q];exact Sk lx) h1,.cons e2 h2,congrArg (· + 1) h3,λm w e=>?_⟩;cases m with
  |zero=>cases e;exact e1.symm.trans (by simp)
  |succ m=>exact h4 m w e
def zF{K:Fg}{x1}{ks:List (Kn×Addr)}{B:Nat}(ne:0<UD ks)(lz:UD ks<=sizeLine)(lb:∀p∈ks,p.2<B):wc P w K (.Tuple elts x1 pos) (Qe K ks) (W_ B (UD ks+3)) (B+UD ks+2) (λi h=>PB B ks i .none h):=by
 have mem:∀{c:Nat},c∈W_ B (UD ks+3)↔B<=c/\c<B+(UD ks+3):=λ{c}=>ZaI
 have out:∀{c:Nat},c∉W_ B (UD ks+3)->c<B\/B+UD ks+2<c:=λ{c} hc=>by rw[mem] at hc;lia
 have obj:∀i h,PB B ks i .none h->∀b∈W_ B (UD ks+3),∃o,h.get? b=some o/\∀v,o.data≠.cell v:=λi h st b hb=>by
  obtain⟨b1,b2⟩:=mem.mp hb;by_cases c:b<B+UD ks
  .obtain⟨j,rfl⟩:=Nat.exists_eq_add_of_le b1;have lj:j<UD ks:=by lia
   exact ks[j].1.Rr (st.t j _ (Sk lj))
  .rcases (by lia:b=B+(UD ks)\/b=B+UD ks+1\/b=B+UD ks+2) with rfl|rfl|rfl
   .exact⟨_,st.c,λv q=>by cases (show Zb8 _ _=Z1 v from q)⟩
   .obtain⟨a,_,e⟩:=st.o;exact⟨_,e,λv q=>by cases (show Zb8 _ _=Z1 v from q)⟩
   .exact⟨_,st.z,λv q=>by cases (show Zbi _=Z1 v from q)⟩
 have us_of:∀{X:Cx} {G:List (Addr×Obj)} {σ:St} {H:Hp} {s:SB},Inv X G σ H s->(∀p∈ks,∃xs,p.1.sq X.K H p.2 xs)->∃us:List (Array Su),Paired (λ(p:Kn×Addr) (u:Array Su)=>∃xs,p.1.sq X.K H p.2 xs/\Vals xs u.toList) ks us/\Paired (λ(p:Kn×Addr) (u:Array Su)=>p.2<B/\p.1.seq s.heap p.2 u) ks us:=λ{X G σ H s} I h=>by
  obtain⟨us,hu⟩:=io (F:=λ(p:Kn×Addr) (u:Array Su)=>(∃xs,p.1.sq X.K H p.2 xs/\Vals xs u.toList)/\p.2<B/\p.1.seq s.heap p.2 u) λp hp=>by
   obtain⟨xs,q⟩:=h p hp;obtain⟨de,r,z⟩:=p.1.inv I q;exact⟨de.toArray,⟨xs,q,r⟩,lb p hp,z⟩
  exact⟨us,Paired.mapP hu λ_ _ z=>z.1,Paired.mapP hu λ_ _ z=>z.2⟩
 refine⟨mem.mpr ∅,obj,λi h h' st kp=>⟨kp _ (mem.mpr ∅) _ st.z,kp _ (mem.mpr ∅) _ st.c,?_,λj p hp=>p.1.itAt (st.t j p hp) (kp _ (mem.mpr (by have:=(Sn.mp hp).1;lia)))⟩,?_,?_,λ_ _ _ _ _ st q=>wpAny_pyIter_zip st.z q⟩
 .obtain⟨a,e,q⟩:=st.o;exact⟨a,e,kp _ (mem.mpr ∅) _ q⟩
 .intro X hP hw hK hc i G s σ H E I hf st hg;subst hP hw hK;obtain⟨us,u1,u2⟩:=us_of I λp hp=>let ⟨xs,q,_⟩:=hg p hp;⟨xs,q⟩
  refine zw ne lz st u2 (λh' a ha hu st' hT all=>⟨_,rfl,?_⟩) λu hm le=>?_
  .obtain⟨ys,vs,y1,y2,y3,y4⟩:=wf I u1 λm u e=>(hu m u e).1
   obtain rfl:a=vs.toArray:=by
    refine Zaq λm=>?_
    by_cases c:m<UD us
    .exact(hu m _ (Sk c)).2.trans ((y4 m _ (Sk c)).symm.trans (by simp))
    .rw[VA (by rw[ha,u1.length];lia),Ws,Tj ∅]
   refine wpAny_letOwnedTupleGo_zip st'.z λh2 hz2 sb=>?_
   have nT:∀c∈W_ B (UD ks+3),c≠s.heap.objs.size:=λc hc=>let ⟨_,q,_⟩:=obj i _ st c hc;TN (Td q)
   have I1:Inv X G σ (upd H s.heap.objs.size (.tup ys)) {s with heap:=s.heap.push {cls:=.type "tuple",data:=.seq vs.toArray}} :=
    I.laid (t':=s.toks) (λb u e=>Sy _ e) (Sx _) ⟨by rw[<- y1.length];exact lz,vs,y2,TupD.new _ _⟩
   have up:∀c o,c∉W_ B (UD ks+3)->(s.heap.push {cls:=.type "tuple",data:=.seq vs.toArray}).get? c=some o->h2.get? c=some o:=λc o hc e=>by
    have ncz:c≠B+UD ks+2:=λz=>hc (mem.mpr (by rw[z];lia))
    rcases ZN e with⟨ec,eo⟩|e
    .rw[ec,eo];exact sb.extBut _ _ (by rw[<- ec];exact ncz) hT
    .exact sb.extBut _ _ ncz (all c o (out hc) e)
   refine⟨.ref s.heap.objs.size,_,Inv.nK (s:={s with heap:=s.heap.push {cls:=.type "tuple",data:=.seq vs.toArray}}) (t':=s.toks) I1 up λc hc=>⟨by rw[aB (nT c hc)];exact(hf c hc).1,(hf c hc).2⟩,rfl,⟨_,ys,I.hok.fresh (Sx _),rfl,rfl,y1⟩,⟨hz2,sb.extBut _ _ (by walk_at "zo") st'.c,?_,λj p hp=>p.1.itAt (st'.t j p hp) λo=>sb.extBut _ _ (by have:=(Sn.mp hp).1;walk_at "zo")⟩,λc hc=>by rw[aB (nT c hc)];exact(hf c hc).1⟩;obtain⟨a,e,q⟩:=st'.o;exact⟨a,e,sb.extBut _ _ (by walk_at "zo") q⟩
  .obtain⟨p,hp,xs,q,r⟩:=mN u1 u hm;obtain⟨ys,q',l⟩:=hg p hp;rw[p.1.inj I q' q,r.length] at l;exact absurd l (Nat.not_lt.mpr le)
 .intro X hP hw hK hc i G s σ H E I hf st hg;subst hP hw hK;obtain⟨us,u1,u2⟩:=us_of I λp hp=>let ⟨xs,q,_⟩:=hg p hp;⟨xs,q⟩
  refine zw ne lz st u2 (λh' a ha hu _ _ _=>?_) λu _ _=>⟨I.ok.hd hc,λh' all=>⟨rfl,I.nK (t':=s.toks) (λc o hc e=>all c o (out hc) e) hf⟩⟩
  have big:∀p∈ks,∀xs,p.1.sq X.K H p.2 xs->i<UD xs:=λp hp xs q=>by
   obtain⟨j,hj⟩:=Tb hp;obtain⟨u,e,ys,q',r⟩:=fF u1 hj;rw[p.1.inj I q q',r.length];exact(hu j u e).1
  obtain⟨p,hp⟩:=List.exists_mem_of_length_pos ne;obtain⟨xs,q,f⟩:=hg p hp;obtain⟨p',hp',ys,q',le⟩:=f (big p hp xs q);exact absurd (big p' hp' ys q') (Nat.not_lt.mpr le)
section
variable{X:Cx}
def qp:∀{as:List (Kn×Addr)} {us:List Su},Vals (as.map λp=>V.ref p.2) us->us=as.map λp=>TU p.2
 |[],_,.nil=>rfl
 |_ :: _,_,.cons r t=>by cases r;rw[qp t];rfl
def zx{H:Hp}{x1}{R:It->Hp->Prop}{ks:List (Kn×Addr)}(I:Inv X G σ H s)(r:Vals (ks.map λp=>V.ref p.2) us)(ne:0<UD ks)(lz:UD ks<=sizeLine)(hs:∀p∈ks,∃xs,p.1.sq X.K H p.2 xs)(q:R (Qe X.K ks) H)
  (c1:checkTypeCall "zip" ⟨ks.map λp=>.ref p.2,[]⟩=pure ()) (c2:checkBuiltinCall "zip.__new__" ⟨.type "zip" :: ks.map λp=>.ref p.2,[]⟩=pure ()) (c3:∀o,argsOk "object.__init__" ⟨o :: ks.map λp=>.ref p.2,[]⟩) :
  wpAny (model X.prog X.w) X.A (call (.type "zip") us) (λv s1=>wpAny (model X.prog X.w) X.A (pyIter v) (RM X G σ (.Tuple elts x1 tp) R) X.xe s1) X.xe s:=by
 rw[qp r];obtain⟨vs,hv⟩:=io (F:=λ(p:Kn×Addr) (u:Array Su)=>p.1.seq s.heap p.2 u) λp hp=>let ⟨xs,q⟩:=hs p hp;let ⟨de,_,z⟩:=p.1.inv I q;⟨de.toArray,z⟩
 refine callType_new F.called_zip (by decide) c1 c2 c3 F.entry_zip_new (EK ks vs) ⟨lz,hv,λh' st kp=>⟨⟨_,st.z,rfl⟩,wpAny_pyIter_zip (s:={s with heap:=h'}) st.z ⟨_,_,_,_,H,rfl,I.kept (t':=s.toks) kp,zF ne lz λp hp=>?_,st,λc hc=>?_,q⟩⟩⟩
 .obtain⟨xs,q⟩:=hs p hp;obtain⟨de,_,z⟩:=p.1.inv I q;exact p.1.lt z
 .have le:=(ZaI.mp hc).1;exact I.fpOk le (I.hok.fresh le)
def all2{α:Type}{F:α->Prop}{x y:α}(h1:F x)(h2:F y):∀z∈[x,y],F z:=XT.mpr ⟨h1,XT.mpr ⟨h2,nofun⟩⟩
def IS:bootBuiltins "zip"=some (.type "zip"):=by decide +kernel
nonrec def IW(K:Fg)(k1 k2:Kn)(a b:Addr):It:=Qe K [(k1,a),(k2,b)]
abbrev mq(K:Fg)(k1 k2:Kn)(ta:TA):TI:=λσ H R=>ta σ H λvs H1=>∃a b xs ys,vs=[.ref a,.ref b]/\k1.sq K H1 a xs/\k2.sq K H1 b ys/\R (IW K k1 k2 a b) H1
def Nt{x y:Expr} {ta:TA}  {x1} {p pos:Pos} (hg:Gl X "zip") (hm:X.mg "zip"=none) (ha:PA X [x,y] ta) (hs:starEach [x,y] X.env=[(false,eval x X.env),(false,eval y X.env)]:=by rfl) (hs2:starEach [y] X.env=[(false,eval y X.env)]:=by rfl) :
  PI X (.Tuple elts x1 tp) (.Call (.Name "zip" p) [x,y] [] pos) (mq X.K k1 k2 ta):=by
 intro G s σ H R I h;refine Call_ (c8 I hg hm IS (TQ (a_ (ha pos G s σ H _ I h) λus s1 ω=>?_) (by rw[hs,hs2]) (by rw[hs2];rfl)));obtain⟨vs,H1,I1,r1,a,b,xs,ys,e,s1q,s2q,q⟩:=ω;subst e;exact zx (ks:=[(k1,a),(k2,b)]) I1 r1 (ZaJ _) aR (all2 ⟨xs,s1q⟩ ⟨ys,s2q⟩) q (F.typeCall_zip_2 _ _) (F.newCall_zip_2 _ _) λo=>F.args_object_init_3 o _ _
def zy{K:Fg}{k1 k2:Kn}{i n:Nat}(q1:k1.sq K H a xs)(q2:k2.sq K H b ys)(e1:n<=UD xs)(e2:n<=UD ys)(e3:UD xs=n\/ys.length=n):(i<n->(IW K k1 k2 a b).go i H)/\(n<=i->(IW K k1 k2 a b).stop i H)/\∀{v H'},(IW K k1 k2 a b).yld i H v H'->∃T x y,H T=none/\v=.ref T/\H'=upd H T (.tup [x,y])/\xs[i]?=some x/\ys[i]?=some y:=by
 refine⟨λl=>all2 ⟨xs,q1,∅⟩ ⟨ys,q2,∅⟩,λl=>?_,λ⟨T,zs,h1,h2,h3,h4⟩=>?_⟩
 .have:∃p∈[(k1,a),(k2,b)],∃xs,p.1.sq K H p.2 xs/\xs.length<=i:=by
   rcases e3 with e|e
   .exact⟨_,.head _,xs,q1,∅⟩
   .exact⟨_,.tail _ (.head _),ys,q2,∅⟩
  exact all2 ⟨xs,q1,λ_=>this⟩ ⟨ys,q2,λ_=>this⟩
 .obtain _|⟨z1,_|⟨z2,_|_⟩⟩:=h4
  exact⟨T,_,_,h1,h2,h3,z1 xs q1,z2 ys q2⟩
end
section
variable{K:Fg}{te:TE}{σ:St}{Q:VK}{H:Hp}
abbrev HD(g:TG)(n:Nat)(te:TE)(σ:St)(v:V)(H:Hp)(D:Addr)(m i:Nat)(Pv:Nat->Hp->Prop):Prop:=∀us:St,UD us=n->g v (us ++ σ) H λσ2 H2=>(∃us':St,UD us'=n/\σ2=us' ++ σ)/\te σ2 H2 (jq D m i Pv)
def jC{k1 k2:Kn}{xs ys:List V}(h:∀D,H D=none->∃Pv:Nat->Hp->Prop,Pv 0 (upd H D (.lst []))/\(∀i H2,i<=min (UD xs) (UD ys)->Pv i H2->k1.sq K H2 a xs/\k2.sq K H2 b ys) /\
  (∀i x y H2 T,xs[i]?=some x->ys[i]?=some y->Pv i H2->H2 T=none->HD g n te σ (.ref T) (upd H2 T (.tup [x,y])) D (min (UD xs) (UD ys)) i Pv)/\∀H2,Pv (min (UD xs) (UD ys)) H2->Q (.ref D) H2):we (IW K k1 k2 a b) n g te σ Q H:=by
 intro D nD;obtain⟨Pv,h0,hl,hs,hd⟩:=h D nD;refine⟨λi m H=>m=min (UD xs) (UD ys)-i/\i<=min (UD xs) (UD ys)/\Pv i H,⟨_,rfl,TV _,h0⟩,?_⟩;rintro i m H ⟨rfl,hi,p⟩;obtain⟨q1,q2⟩:=hl i H hi p;obtain⟨g1,g2,g3⟩:=zy (i:=i) (n:=min (UD xs) (UD ys)) q1 q2 ∅ ∅ ∅;by_cases Ds:i<min (UD xs) (UD ys)
 .refine .inr ⟨g1 Ds,λv H' y us hu=>?_⟩;obtain⟨T,x,z,nT,rfl,rfl,z1,z2⟩:=g3 y;exact hs i x z H T z1 z2 p nT us hu
 .obtain rfl:i=min (UD xs) (UD ys):=by lia
  exact .inl ⟨g2 (Sx _),hd H p⟩
end
open PySem.W (Dat kqdOk)
def AccZ.bG{K:Fg}(A:AccZ K H0 l H ds)(r:Rz K H y d)(n:UD ds<sizeLine){Pv:Hp->Prop}(h:∀H2,AccZ K H0 l H2 (ds++[d])->Pv H2):L9 l Pv y H:=by
 obtain⟨xs,h1,h2⟩:=A.at_;refine⟨xs,h1,by rw[h2.length];exact n,h _ ⟨A.ag,A.new,xs++[y],L2.ag,?_⟩⟩;exact RzL.upd (h2.append (.cons r .nil)) h1
open PySem
section
variable{K:Fg}{σ:St}{H:Hp}{Q:VK}{te:TE}
def LD{wi:TI}(h:wi σ H λJ H1=>we J n g te σ Q H1):c5 wi n g te σ H Q:=h
def QN{k1 k2:Kn}{ta:TA}{R:It->Hp->Prop}(h:ta σ H λvs H1=>∃a b xs ys,vs=[.ref a,.ref b]/\k1.sq K H1 a xs/\k2.sq K H1 b ys/\R (IW K k1 k2 a b) H1):mq K k1 k2 ta σ H R:=h
end
section
variable{K:Fg}{σ:St}{H:Hp}{Q:VK}{D:cr}{td ty tv te tk:TE}
def OO(h:tv σ H λv H1=>td σ H1 λx H2=>ty σ H2 λy H3=>∃a H4,x=.ref a/\DPut H3 a y v H4/\D.nx σ H4):qW td ty tv D σ H:=h
end
section
variable{X:Cx}{scope:Scope}
def NG{elt iter tg:Expr}{pos:Pos}{wi:TI}{g:TG}{te:TE}{n:Nat}(ys M:List Str)(c:jr X.env.scope X.N M ys scope)(hc:X.calm=true)(hi:PI X tg iter wi)(hg:∀C s₀ H₀ fp G,PG (aQ X ys M scope (dZ scope X.env.cells) C s₀ H₀ fp G) tg g)(he:∀C s₀ H₀ fp G,PE (aQ X ys M scope (dZ scope X.env.cells) C s₀ H₀ fp G) elt te)
  (hn:UD ys=n:=by rfl) (hs:∀v,foldedSetIterable iter X.env v=pure v:=by intro _;rfl):PE X (.ListComp elt [⟨tg,iter,[],0⟩] scope pos) (c5 wi n g te):=by
 subst hn;exact NH c hc hi hg he hs
def Nn{elt iter tg:Expr}{pos py sp:Pos}{wi:TI}{g:TG}{te:TE}{i n:Nat}{y:Str}(ys M:List Str)(hN:X.N.Nodup)(hy:X.N[i]?=some y)(ly:X.env.scope.names.lookup y=some .local)(c:jr X.env.scope X.N M ys scope)(hc:X.calm=true)(hi:PI X tg iter wi)
  (hg:∀C s₀ H₀ fp G,PG (aQ X ys M scope (dZ scope X.env.cells) C s₀ H₀ fp G) tg g) (he:∀C s₀ H₀ fp G,PE (aQ X ys M scope (dZ scope X.env.cells) C s₀ H₀ fp G) elt te) (hn:UD ys=n:=by rfl)
  (hsw:swapsWith (.ListComp elt [⟨tg,iter,[],0⟩] scope pos) (some (.Name y py)) sp.line X.env=pure true:=by rfl) (hs:∀v,foldedSetIterable iter X.env v=pure v:=by intro _;rfl) :
  PS X (.Assign [.Name y py] (.ListComp elt [⟨tg,iter,[],0⟩] scope pos) sp) (ay (c5 wi n g te) (ak i)):=by
 subst hn;exact No hN hy ly c hc hi hg he hsw hs
end
section
variable{X:Cx}
abbrev BP(K:Fg):List V->Hp->VK->Prop:=λxs H Q=>∃(a:Addr) (bs:List Bool),xs=[.ref a]/\SqL K H a (bs.map V.bl)/\Q (.bl (bs.all id)) H
abbrev Gb(K:Fg):List V->Hp->VK->Prop:=λxs H Q=>∃(a:Addr) (bs:List Bool),xs=[.ref a]/\SqL K H a (bs.map V.bl)/\Q (.bl (bs.any id)) H
def sH:∀{bs:List Bool} {us:List Su},Vals (bs.map V.bl) us->LSm.BoolsAre us bs
 |[],_,.nil=>.nil
 |b :: bs,_,.cons r rr=>by
  cases (show _=Ze b from r);exact .cons b (sH rr)
def mC{M:Model}{A:Uc}{E:Su->SB->Prop}{H:Hp}{bs:List Bool}(d:Bool)(I:Inv X G σ H s)(q1:SqL X.K H a (bs.map V.bl))(hh:A.handled=none)(hM:M=model X.prog X.w)
  {Qr:Bool->Su->SB->Prop} {f:(Nat->Bool)->Nat->Bool} {r:Bool} (hf:f (λi=>(bs[i]?).getD d) (UD bs)=r) (q:∀h' tk,Inv X G σ H {s with heap:=h',toks:=tk}->Qr r (.bool r) {s with heap:=h',toks:=tk}) :
  wpAny M A (pyIter (.ref a)) (λit s₂=>∃I fp wr n P St tr,it=.ref I/\Zbj X.prog X.w A I fp wr n P St/\St 0 s₂.heap/\TruthOf X.prog X.w A P tr/\∀h' tk,(∀b o,b∉wr->s₂.heap.get? b=some o->h'.get? b=some o)->Qr r (.bool (f tr n)) {s₂ with heap:=h',toks:=tk}) E s:=by
 subst hM;obtain⟨de,rv,p,_⟩:=I.list q1;have hl:s.heap.IsList a de.toArray:=p.isList;have hb:=sH rv;have Ds:a<s.heap.objs.size:=by obtain⟨_,e,_⟩:=hl;exact Td e
 refine Xf hl ⟨s.heap.objs.size,[s.heap.objs.size,a],[s.heap.objs.size],de.toArray.size,_,_,λi=>(bs[i]?).getD d,rfl,Zbj.list hh _ a (TN Ds) de.toArray,⟨⟨_,Th _ rfl,rfl,rfl⟩,hl.push _⟩,λi v s' Q' E' hP hQ=>?_,λh' tk hk=>?_⟩
 .obtain⟨b,e,rfl⟩:=hb.get i v (by simpa using hP);dsimp only at hQ;rw[e] at hQ;exact UX hQ
 .rw[SZ,hb.length,hf];exact q h' tk (I.kept (t':=tk) λb o e=>hk b o (λz=>absurd (Td e) (by rw[SO.mp z];exact VZ _)) (Sy _ e))
def Hv(hc:X.calm=true):ff X (.builtin "all") (BP X.K):=by
 intro G s σ H xs us Q I r h;obtain⟨a,bs,rfl,q1,q⟩:=h;obtain⟨u,rfl,ru⟩:=vals1 r;cases ru;refine call_all_walk (mC (f:=λtr n=>(SJ n).all tr) (r:=bs.all id) true I q1 (by have:=I.ok.hd hc;simpa using this) rfl (LSm.range_all bs) (Qr:=λ_ v s'=>EP X G σ Q v s') λh' tk I2=>⟨.bl _,H,I2,rfl,q⟩)
def Hu(hc:X.calm=true):ff X (.builtin "any") (Gb X.K):=by
 intro G s σ H xs us Q I r h;obtain⟨a,bs,rfl,q1,q⟩:=h;obtain⟨u,rfl,ru⟩:=vals1 r;cases ru;refine call_any_walk (mC (f:=λtr n=>(SJ n).any tr) (r:=bs.any id) false I q1 (by have:=I.ok.hd hc;simpa using this) rfl (LSm.range_any bs) (Qr:=λ_ v s'=>EP X G σ Q v s') λh' tk I2=>⟨.bl _,H,I2,rfl,q⟩)
def Pt:bootBuiltins "all"=some (.builtin "all"):=by decide +kernel
def Ps:bootBuiltins "any"=some (.builtin "any"):=by decide +kernel
end
section
variable{X:Cx}{ys M:List Str}{scope:Scope}{cl:List (Str×Addr)}{C:Addr}{s:SB}{H:Hp}{fp:List Addr}{G:List (Addr×Obj)}{σ:St}
def NI{elt iter tg cn:Expr}{pos:Pos}{wi:TI}{g:TG}{tc:TT}{te:TE}{n:Nat}(ys M:List Str)(c0:jr X.env.scope X.N M ys scope)(hc:X.calm=true)(hi:PI X tg iter wi)(hg:∀C s₀ H₀ fp G,PG (aQ X ys M scope (dZ scope X.env.cells) C s₀ H₀ fp G) tg g)
  (ht:∀C s₀ H₀ fp G,PT (aQ X ys M scope (dZ scope X.env.cells) C s₀ H₀ fp G) cn tc) (he:∀C s₀ H₀ fp G,PE (aQ X ys M scope (dZ scope X.env.cells) C s₀ H₀ fp G) elt te)
  (hn:UD ys=n:=by rfl) (hs:∀v,foldedSetIterable iter X.env v=pure v:=by intro _;rfl):PE X (.ListComp elt [⟨tg,iter,[cn],0⟩] scope pos) (d5 wi n g tc te):=by
 subst hn;exact λG s σ H Q I h=>wR (c0.sc I.ok) hc hi hg (λC s₀ H₀ fp G=>BQ (ht C s₀ H₀ fp G)) he hs G s σ H Q I h
def Np{elt iter tg cn:Expr}{pos py sp:Pos}{wi:TI}{g:TG}{tc:TT}{te:TE}{i n:Nat}{y:Str}(ys M:List Str)(hN:X.N.Nodup)(hy:X.N[i]?=some y)(ly:X.env.scope.names.lookup y=some .local)(c0:jr X.env.scope X.N M ys scope)(hc:X.calm=true)(hi:PI X tg iter wi)
  (hg:∀C s₀ H₀ fp G,PG (aQ X ys M scope (dZ scope X.env.cells) C s₀ H₀ fp G) tg g) (ht:∀C s₀ H₀ fp G,PT (aQ X ys M scope (dZ scope X.env.cells) C s₀ H₀ fp G) cn tc) (he:∀C s₀ H₀ fp G,PE (aQ X ys M scope (dZ scope X.env.cells) C s₀ H₀ fp G) elt te) (hn:UD ys=n:=by rfl)
  (hsw:swapsWith (.ListComp elt [⟨tg,iter,[cn],0⟩] scope pos) (some (.Name y py)) sp.line X.env=pure true:=by rfl) (hs:∀v,foldedSetIterable iter X.env v=pure v:=by intro _;rfl) :
  PS X (.Assign [.Name y py] (.ListComp elt [⟨tg,iter,[cn],0⟩] scope pos) sp) (ay (d5 wi n g tc te) (ak i)):=by
 subst hn;exact λG s σ H D I h=>wO hy ly (c0.sc I.ok) hN hc hi hg (λC s₀ H₀ fp G=>BQ (ht C s₀ H₀ fp G)) he hsw hs G s σ H D I h
end
section
variable{K:Fg}{tc:TT}{te:TE}{σ:St}{Q:VK}{H:Hp}
def LF{wi:TI}(h:wi σ H λJ H1=>EA J n g tc te σ Q H1):d5 wi n g tc te σ H Q:=h
abbrev RY(n i:Nat)(Pv:Nat->Hp->Prop):Hp->Prop:=λH2=>∃m',m'<n-i/\m'=n-(i+1)/\i+1<=n/\Pv (i+1) H2
abbrev Mg(g:TG)(n:Nat)(tc:TT)(te:TE)(σ:St)(v:V)(H:Hp)(D:Addr)(m i:Nat)(Pv:Nat->Hp->Prop):Prop:=∀us:St,UD us=n->g v (us ++ σ) H λσ2 H2=>(∃us':St,UD us'=n/\σ2=us' ++ σ)/\tc σ2 H2 λb H3=>if b=true then te σ2 H3 (jq D m i Pv) else RY m i Pv H3
def dO{n i:Nat}{Pv:Nat->Hp->Prop}(hi:i<n)(h:Pv (i+1) H2):RY n i Pv H2:=⟨n-(i+1),∅,rfl,hi,h⟩
def Ed{k1 k2:Kn}{xs ys:List V}(h:∀D,H D=none->∃Pv:Nat->Hp->Prop,Pv 0 (upd H D (.lst []))/\(∀i H2,i<=min (UD xs) (UD ys)->Pv i H2->k1.sq K H2 a xs/\k2.sq K H2 b ys) /\
  (∀i x y H2 T,xs[i]?=some x->ys[i]?=some y->Pv i H2->H2 T=none->Mg g n tc te σ (.ref T) (upd H2 T (.tup [x,y])) D (min (UD xs) (UD ys)) i Pv)/\∀H2,Pv (min (UD xs) (UD ys)) H2->Q (.ref D) H2):EA (IW K k1 k2 a b) n g tc te σ Q H:=by
 intro D nD;obtain⟨Pv,h0,hl,hs,hd⟩:=h D nD;refine⟨λi m H=>m=min (UD xs) (UD ys)-i/\i<=min (UD xs) (UD ys)/\Pv i H,⟨_,rfl,TV _,h0⟩,?_⟩;rintro i m H ⟨rfl,hi,p⟩;obtain⟨q1,q2⟩:=hl i H hi p;obtain⟨g1,g2,g3⟩:=zy (i:=i) (n:=min (UD xs) (UD ys)) q1 q2 ∅ ∅ ∅;by_cases Ds:i<min (UD xs) (UD ys)
 .refine .inr ⟨g1 Ds,λv H' y us hu=>?_⟩;obtain⟨T,x,z,nT,rfl,rfl,z1,z2⟩:=g3 y;exact hs i x z H T z1 z2 p nT us hu
 .obtain rfl:i=min (UD xs) (UD ys):=by lia
  exact .inl ⟨g2 (Sx _),hd H p⟩
end
abbrev LJ(K:Fg)(tl:TE):TI:=λσ H R=>tl σ H λx H1=>∃a,x=.ref a/\(((∃xs,SqL K H1 a xs)/\R (sR K a) H1)\/((∃xs,SqT K H1 a xs)/\R (tm K a) H1))
section
variable{X:Cx}{tg:Expr}
def Nw(hl:PE X l tl):PI X tg l (LJ X.K tl):=by
 intro G s σ H R I h;refine a_ (hl G s σ H _ I h) λv s1 ω=>?_;obtain⟨x,H1,I1,r1,a,e,q1⟩:=ω
 subst e;cases r1;have own:∀b∈[s1.heap.objs.size],iC X G H1 b:=λb hb=>by cases SO.mp hb;exact I1.fpOk (Sx _) (I1.hok.fresh (Sx _))
 rcases q1 with⟨⟨xs,hq⟩,q⟩|⟨⟨xs,hq⟩,q⟩
 .obtain⟨de,_,p,_⟩:=I1.list hq;exact Xf p.isList ⟨_,[_],_,_,H1,rfl,I1.kept (t':=s1.toks) λb o e=>Sy _ e,qt a _,⟨_,Th _ rfl,rfl,rfl⟩,own,q⟩
 .obtain⟨de,_,p,_⟩:=I1.tuple hq;exact Yk (show s1.heap.IsTuple a de.toArray from p) ⟨_,[_],_,_,H1,rfl,I1.kept (t':=s1.toks) λb o e=>Sy _ e,mE a _,⟨_,Th _ rfl,rfl,rfl⟩,own,q⟩
end
section
variable{K:Fg}{te:TE}{σ:St}{Q:VK}{H:Hp}
def OK{R:It->Hp->Prop}(h:te σ H λx H1=>∃a,x=.ref a/\(((∃xs,SqL K H1 a xs)/\R (sR K a) H1)\/((∃xs,SqT K H1 a xs)/\R (tm K a) H1))):LJ K te σ H R:=h
def Hq(e:SqL K H a xs\/SqT K H a xs)(h:∀D,H D=none->∃Pv:Nat->Hp->Prop,Pv 0 (upd H D (.lst []))/\(∀i H2,Pv i H2->Same H H2)/\(∀i x H2,xs[i]?=some x->Pv i H2->PZ te σ x H2 D (UD xs) i Pv)/\∀H2,Pv (UD xs) H2->Q (.ref D) H2) :
  ∃b,V.ref a=.ref b/\(((∃xs,SqL K H b xs)/\cy (sR K b) te σ Q H)\/((∃xs,SqT K H b xs)/\cy (tm K b) te σ Q H)):=by
 refine⟨a,rfl,?_⟩;rcases e with e|e
 .refine .inl ⟨⟨xs,e⟩,bZ (xs:=xs) λD nD=>?_⟩;obtain⟨Pv,h0,h1,h2,h3⟩:=h D nD;exact⟨Pv,h0,λi H2 _ p=>(h1 i H2 p).seq e,h2,h3⟩
 .refine .inr ⟨⟨xs,e⟩,fJ (xs:=xs) λD nD=>?_⟩;obtain⟨Pv,h0,h1,h2,h3⟩:=h D nD;exact⟨Pv,h0,λi H2 _ p=>(h1 i H2 p).seqT e,h2,h3⟩
def Di{bs:List Bool}(e:SqL K H a (bs.map V.bl))(h:Q (.bl (bs.all id)) H):BP K [.ref a] H Q:=⟨a,bs,rfl,e,h⟩
def OU{bs:List Bool}(e:SqL K H a (bs.map V.bl))(h:Q (.bl (bs.any id)) H):Gb K [.ref a] H Q:=⟨a,bs,rfl,e,h⟩
def AccZ.bls{bs:List Bool}(A:AccZ K H0 l H (bs.map Zbc)):SqL K H l (bs.map V.bl):=by
 obtain⟨xs,h1,h2⟩:=A.at_
 have:∀{vs:List V} {bs:List Bool},RzL K H vs (bs.map Zbc)->vs=bs.map V.bl:=by
  intro vs bs
  induction bs generalizing vs with
  |nil=>intro h;cases h;rfl
  |cons b bs ih =>
   intro h;cases h with
   |cons h1 h2 =>
    cases h1;rw[ih h2];rfl
 rw[this h2] at h1;exact SqL.of h1
end
end L2
namespace Gd
abbrev gd(a b:Int):Int:=(ZbE a b:Nat)
def DG(a b:Int):gd b (ZaK a b)=gd a b:=by
 unfold gd
 have e:ZaK a b=a+b*(-(ZO a b)):=by
  rw[ZaL,Vq];lia
 rw[e,Int.gcd_add_mul_left_right,Int.gcd_comm]
def DH{b:Int}(h:b≠0):(ZaK a b).natAbs<b.natAbs:=by
 rcases (by lia:0<b\/b<0) with p|p
 .have h1:=Zl a p;have h2:=Zar a p;lia
 .have e:ZaK a b = -(ZaK (-a) (-b)):=by
   rw[ZaL,ZaL,Int.neg_fdiv_neg];rw[UY];lia
  have h1:=Zl (-a) (b:=-b) ∅;have h2:=Zar (-a) (b:=-b) ∅;lia
def LO(a:Int):gd a 0=(a.natAbs:Int):=by
 unfold gd;rw[Int.gcd_zero_right]
def IB(a:Int):(if a<0 then -a else a)=gd a 0:=by
 rw[LO];split <;> lia
def mS{b:Int}(h:b≠0):0<gd a b:=by
 unfold gd
 have:ZbE a b≠0:=λe=>h (Int.gcd_eq_zero_iff.mp e).2
 lia
def sr(a b:Int):0<=gd a b:=Yr _
def LP{b:Int}(h:b≠0):gd a b<=(b.natAbs:Int):=by
 unfold gd
 have:=Int.gcd_le_natAbs_right a h
 lia
structure Low (top bottom q p:Int):Prop where
 pos:0<p
 low:gd q p=1
 worth:q*bottom=top*p
def CO{b d:Int}(hb:b≠0)(hd:d=gd t b/\0<b\/d = - gd t b/\b<0):Low t b (ZO t d) (ZO b d):=by
 have gp:=mS (a:=t) hb;have d1:gd t b∣t:=Y8 t b;have d2:gd t b∣b:=YL t b;have e1:d∣t:=by rcases hd with⟨e,_⟩|⟨e,_⟩ <;> rw[e];exact d1;exact YM.mpr d1
 have e2:d∣b:=by rcases hd with⟨e,_⟩|⟨e,_⟩ <;> rw[e];exact d2;exact YM.mpr d2
 have d0:d≠0:=by rcases hd with⟨e,_⟩|⟨e,_⟩ <;> lia
 obtain⟨q,rfl⟩:=e1;obtain⟨p,rfl⟩:=e2;rw[V2 _ d0,V2 _ d0];refine⟨?_,?_,?_⟩
 .rcases hd with⟨e,z⟩|⟨e,z⟩
  .exact U1 z ∅ |> λh=>h
  .have z':0<(-d)*p:=by rw[UY];lia
   exact U1 z' ∅
 .have m:gd (d*q) (d*p)=(d.natAbs:Int)*gd q p:=by
   unfold gd;rw[Y9];simp
  have n:gd (d*q) (d*p)=(d.natAbs:Int):=by
   rcases hd with⟨e,z⟩|⟨e,z⟩ <;> lia
  rw[n] at m;have k:(d.natAbs:Int)*gd q p=(d.natAbs:Int)*1:=by lia
  exact Ug ∅ k
 .rw[<- SY,T9 q d]
def pS{t d:Int}(h:d≠0)(hd:d∣t):(ZO t d).natAbs<=t.natAbs:=by
 obtain⟨q,rfl⟩:=hd;rw[V2 _ h,Ud];exact UU _ ∅
def CQ{b d:Int}(hb:b≠0)(hd:d=gd t b/\0<b\/d = - gd t b/\b<0):(ZO t d).natAbs<=t.natAbs/\(ZO b d).natAbs<=b.natAbs:=by
 have gp:=mS (a:=t) hb;have d1:gd t b∣t:=Y8 t b;have d2:gd t b∣b:=YL t b;have d0:d≠0:=by rcases hd with⟨e,_⟩|⟨e,_⟩ <;> lia
 refine⟨pS d0 ?_,pS d0 ?_⟩
 .rcases hd with⟨e,_⟩|⟨e,_⟩ <;> rw[e];exact d1;exact YM.mpr d1
 .rcases hd with⟨e,_⟩|⟨e,_⟩ <;> rw[e];exact d2;exact YM.mpr d2
end Gd
namespace Fr
open PySem L2
abbrev oP:Sp:=λvs H Q _=>∃a b:Int,vs=[.int a,.int b]/\Q (.int (Gd.gd a b)) H
abbrev MC:TS:=(ao (eM (aK (ar HV (aa 1) (tC (.int 0))))
 (ao (ay (ar Km (aa 0) (aa 1)) (ak 2))
 (ao (ay (aa 1) (ak 0))
 (ay (aa 2) (ak 1)))))
 (aA (bO M8 (ac (aa 0) ae))))
def MX(a b:Int)(H:Hp)(D:cr)(k:D.rt (.int (Gd.gd a b)) H):MC D [↥a,↥b,none] H:=by
 refine js (λσ H'=>H'=H/\∃(i j:Int) (v:Option V),σ=[↥i,↥j,v]/\Gd.gd i j=Gd.gd a b)
  (λσ _=>match σ with | [_,↥j,_]=>j.natAbs|_=>0) ⟨rfl,a,b,none,rfl,rfl⟩ ?_ ?_
 .rintro σ H' ⟨rfl,i,j,v,rfl,e⟩;refine⟨_,rfl,rfl,_,rfl,O0 (λhj=>?_) (λhj=>?_)⟩
  .refine⟨_,rfl,_,rfl,_,_,rfl,rfl,hj,_,rfl,_,rfl,⟨rfl,j,i.fmod j,_,rfl,(Gd.DG i j).trans e⟩,?_⟩;exact Gd.DH hj
  .subst hj;refine⟨_,rfl,_,rfl,?_⟩;rw[Gd.IB,e];exact k
 .rintro σ H' R R' h ⟨v,e,sc,c,ec,q⟩;exact⟨v,e,sc,c,ec,h _ _ q⟩
open PySem.W (Dat kqdOk)
abbrev cellOf(ns:List Int)(k:Int):Int:=(ns[k.toNat]?).getD 0
abbrev fS(K:Fg):Sp:=λvs H Q _=>∃(a:Addr) (ns:List Int) (k:Int),vs=[.ref a,.int k]/\SqL K H a (ns.map V.int)/\0<=k/\Q (.int (cellOf ns k)) H
abbrev MD(K:Fg):TS:=(ao (a4 (aK (ar yJ (aa 1) (bO (bz K) (ac (aa 0) ae))))
 (aA (ar (bP K) (aa 0) (aa 1)))
 be)
 (aA (tC (.int 0))))
def Ke{K:Fg}{ns:List Int}{k:Int}{D:cr}(hS:SqL K H a (ns.map V.int))(h0:0<=k)(q:D.rt (.int (cellOf ns k)) H):MD K D [⇑a,↥k] H:=by
 have el:(ns.map V.int).length=UD ns:=Si _;refine⟨_,rfl,_,rfl,a,_,rfl,.inl hS,_,_,rfl,rfl,_,rfl,O1 (λc=>?_) (λc=>?_)⟩
 .rw[el] at c;have hk:k.toNat<UD ns:=by lia
  have e:k=((k.toNat:Nat):Int):=by lia
  have z:cellOf ns k=ns[k.toNat]:=by
   unfold cellOf;rw[Sk hk];rfl
  have w:qe (ns.map V.int) ((k.toNat:Nat):Int)=some (.int ns[k.toNat]):=aM (by rw[So];simp[hk]);rw[<- e] at w;rw[z] at q;exact⟨_,rfl,_,rfl,a,_,_,_,rfl,rfl,hS,w,q⟩
 .rw[el] at c
  have z:cellOf ns k=0:=by
   unfold cellOf;rw[Tj ∅];rfl
  rw[z] at q;exact q
abbrev jU:Sp:=λvs H Q _=>∃i:Int,vs=[.int i]/\Q (.bl true) H
abbrev HK (K:Fg):TS:=(aA (AE (bO (M6 K) (ac (aa 0) (ac (tC (.ty "int")) ae))) (AA (bO (M6 K) (ac (aa 0) (ac (tC (.ty "bool")) ae))))))
def FJ{K:Fg}{D:cr}(q:D.rt (.bl true) H):HK K D [↥i] H :=
 ⟨_,rfl,_,_,_,_,rfl,TyOf.int i,Om,_,rfl,y6 ⟨_,rfl,_,_,_,_,rfl,TyOf.int i,On,_,rfl,q⟩⟩
end Fr
namespace Kd
end Kd
namespace Ex0
end Ex0
namespace L2
open PySem PySem.SetTable
def gS{α:Type}(l:List α)(p:Nat)(x:α)(_hp:p<=UD l):insertAt l.toArray p x=(l.take p++x :: l.drop p).toArray:=by
 unfold insertAt;apply Array.ext';simp[List.extract_eq_take_drop];rw[SD (by simp)]
def yk{t:U2}{l:List Nat}(hp:t.place=l.toArray)(hd:t.dummies = #[]){j:Nat}(h:j∉l):t.slot j=.empty:=by
 unfold U2.slot;rw[hp,hd];show(if l.toArray[below l.toArray j]? == some j then _ else _)=_;rw[if_neg,if_neg]
 .simp[has,below,below.go]
 .intro e;exact h (Sq (by simpa using e))
def xr{α:Type}{l:List α}{p:Nat}(hp:p<=UD l)(x:α)(i:Nat):(l.take p++x :: l.drop p)[i]? = if i<p then l[i]? else if i=p then some x else l[i-1]?:=by
 have ht:(l.take p).length=p:=by rw[SL];lia
 by_cases h1:i<p
 .rw[if_pos h1,Tx ∅,Zas,if_pos h1]
 .rw[if_neg h1,TH ∅,ht];by_cases h2:i=p
  .rw[if_pos h2,h2,ZaM];rfl
  .rw[if_neg h2,show i-p=(i-p-1)+1 by lia,Va,W3];congr 1;lia
open PySem PySem.Spec PyProof.Rows
open PySem.W (Dat kqdP kqdOk)
section
variable{prog:TK}{w:Ub}{A:Uc}{R:Za7->SB->Prop}{I:Addr}{fp wr:List Addr}{n:Nat}{P:Nat->Su->Prop}{St:Nat->Heap->Prop}
def Ft(W:Zbj prog w A.in1 I fp wr n P St)(S:Addr)(nS:S∉fp)(Z:Nat->Heap->Prop)(zk:∀i h h',Z i h->(∀b o,b∉wr->h.get? b=some o->h'.get? b=some o)->Z i h')
  (za:∀i v (s:SB) (Q:Bool->SB->Prop) (E:Su->SB->Prop),i<n->P i v->Z i s.heap->(∀r h' tk,Z (i+1) h'->(∀b,b≠S->h'.get? b=s.heap.get? b)->Q r {s with heap:=h',toks:=tk})->wpAny (model prog w) A.in1 (setAdd S v) Q E s) :
  ∀(k i:Nat) (s:SB),n-i=k->i<=n->St i s.heap->Z i s.heap->(∀h' tk,Z n h'->(∀b o,b∉S :: wr->s.heap.get? b=some o->h'.get? b=some o)->R (.ok (.ret .none)) {s with heap:=h',toks:=tk}) ->
   codeAny (model prog w) A (.builtin "set.update.loop" ⟨[.ref S,.ref I],[]⟩) R s:=by
 have nw:S∉wr:=λh=>nS (W.sub _ h)
 intro k
 induction k with
 |zero =>
  intro i s hk hi hst hz hR;obtain rfl:i=n:=by lia
  refine X5 Y_ ?_;rw[XU Xa _];refine(show wpAny _ A.in1 (pyNext (.ref I) >>= _) _ _ s from Ss (W.done s _ _ hst λh' tk hm=>?_));refine(show wpAny _ A.in1 (ret U8) _ _ _ from SN (hR h' tk (zk _ _ _ hz hm) λb o hb e=>hm b o (λz=>hb (Sw _ z)) e))
 |succ k ih =>
  intro i s hk hi hst hz hR;have Ds:i<n:=by lia
  refine X5 Y_ ?_;rw[XU Xa _];refine(show wpAny _ A.in1 (pyNext (.ref I) >>= _) _ _ s from Ss (W.item i s _ _ Ds hst λv h' tk hP hst' hm=>?_));refine(show wpAny _ A.in1 (holding [v] (setAdd S v) >>= _) _ _ _ from Ss (VB (za i v _ _ _ Ds hP (zk _ _ _ hz hm) λr h2 tk2 z2 k2=>?_)));refine SN ⟨plainId_quiet Xa _,ih (i+1) _ ∅ Ds (W.frame _ _ _ hst' λb hb o e=>?_) z2 λh3 tk3 z3 k3=>hR h3 tk3 z3 λb o hb e=>?_⟩
  .exact(k2 b λz=>nS (z ▸ hb)).trans e
  .refine k3 b o hb ((k2 b λz=>hb (z ▸ Sv)).trans (hm b o (λz=>hb (Sw _ z)) e))
end
namespace F
def sub_tuple_set:isSubtype (.type "tuple") (.type "set")=pure false:=by rw[Xm];kernel_rfl
def sub_tuple_frozenset:isSubtype (.type "tuple") (.type "frozenset")=pure false:=by rw[Xm];kernel_rfl
end F
section
variable{prog:TK}{w:Ub}{A:Uc}{E:Su->SB->Prop}{s:SB}
def Kn.walks(k:Kn)(hh:A.handled=none)(I ax:Addr)(hne:ax≠I)(items:Array Su):Zbj prog w A I [I,ax] [I] items.size (λi v=>items[i]?=some v) (λi h=>k.it h I ax i/\k.seq h ax items):=by
 cases k
 .exact Zbj.list hh I ax hne items
 .exact Zbj.tuple hh I ax hne items
abbrev wD (led:Bool):Obj:={cls:=.type "set",dict:=none,data:=.set #[] 0 (.fresh 0 0 led)}
end
def Pl:bootBuiltins "set"=some (.type "set"):=by decide +kernel
open PySem PySem.Spec PyProof.Rows PySem.SetTable
abbrev Mn(K:Fg)(a:Addr):It :=
 ⟨λi H=>∃xs,SqL K H a xs/\i<UD xs,λi H v H'=>∃T x,H T=none/\v=.ref T/\H'=upd H T (.tup [.int i,x])/\∀xs,SqL K H a xs->xs[i]?=some x,λi H=>∃xs,SqL K H a xs/\xs.length<=i⟩
def zG{K:Fg}{x1}{a e it:Addr}(n1:e≠it)(n2:a≠it) :
  wc P w K (.Tuple elts x1 pos) (Mn K a) [e,it] e (λi h=>(∃old,IsEnum h e it (i:Int) old)/\h.IsListIter it a i) where
 mem:=by simp
 obj:=λi h ⟨⟨old,he⟩,t⟩ c hc=>by
  simp only[S_,VG,or_false] at hc;rcases hc with rfl|rfl
  .exact⟨_,he,λv q=>by cases (show Zbi _=Z1 v from q)⟩
  .obtain⟨o,ho,_,d⟩:=t;exact⟨o,ho,λv q=>by rw[d] at q;cases q⟩
 keep:=(by rintro i h h' ⟨⟨old,he⟩,t⟩ kp;exact ⟨⟨old,kp e (by simp) _ he⟩,t.at λo z=>kp it (by simp) o z⟩)
 item:=by
  intro X hP hw hK hc i G s σ H E I hf ⟨⟨old,he⟩,t⟩ hg;subst hP hw hK;obtain⟨xs,q1,l1⟩:=hg;obtain⟨de,r1,p,_⟩:=I.list q1;obtain⟨u1,e1,ru1⟩:=r1.get (Sk l1);refine wpAny_pyNext_enum_item he t p.isList (x:=u1) (by simpa using e1) n1 λh' he' t' hT sz all=>⟨_,rfl,?_⟩
  refine wpAny_letOwnedTupleGo_enum (s:={s with heap:=h',toks:=s.toks+1}) he' λh2 he2 sb=>?_
  have hfr:H s.heap.objs.size=none:=I.hok.fresh (Sx _)
  have nT:∀c∈[e,it],c≠s.heap.objs.size:=λc hc'=>by
   simp only[S_,VG,or_false] at hc';rcases hc' with rfl|rfl
   .exact TN (Td he)
   .obtain⟨o,ho,_⟩:=t;exact TN (Td ho)
  have I1:Inv X G σ (upd H s.heap.objs.size (.tup [.int i,xs[i]])) {s with heap:=s.heap.push {cls:=.type "tuple",data:=.seq #[.int i s.toks,u1]}} :=
   I.laid (t':=s.toks) (λb u z=>Sy _ z) (Sx _) ⟨aR,[.int i s.toks,u1],.cons ⟨_,rfl⟩ (.cons ru1 .nil),TupD.new _ _⟩
  have I2:Inv X G σ (upd H s.heap.objs.size (.tup [.int i,xs[i]])) {s with heap:=h2,toks:=s.toks+1}:=Inv.nK (s:={s with heap:=s.heap.push {cls:=.type "tuple",data:=.seq #[.int i s.toks,u1]}}) (t':=s.toks+1) (fp:=[e,it]) I1 (λc o hc' z=>by
   have c1:c≠e:=λx=>hc' (by simp[x])
   have c2:c≠it:=λx=>hc' (by simp[x])
   rcases ZN z with⟨ec,eo⟩|z
   .rw[ec,eo];exact sb.extBut _ _ (nT e (by simp)).symm hT
   .exact sb.extBut _ _ c1 (all c o c1 c2 z)) λc hc'=>⟨by rw[aB (nT c hc')];exact(hf c hc').1,(hf c hc').2⟩
  exact⟨.ref s.heap.objs.size,_,I2,rfl,⟨s.heap.objs.size,xs[i],hfr,rfl,rfl,λzs hz=>by rw[I.pJ hz q1,Sk l1]⟩,⟨⟨_,he2⟩,t'.at λo z=>sb.extBut _ _ n1.symm z⟩,λc hc'=>by rw[aB (nT c hc')];exact(hf c hc').1⟩
 done:=by
  intro X hP hw hK hc i G s σ H E I hf ⟨⟨old,he⟩,t⟩ hg;subst hP hw hK;obtain⟨xs,q1,le⟩:=hg;obtain⟨de,r1,p,_⟩:=I.list q1;have e1:=r1.length;exact wpAny_pyNext_enum_end (I.ok.hd hc) he t p.isList (by simp;lia) λh' all=>⟨rfl,I.nK (t':=s.toks) (λc o hc' z=>all c o (λx=>hc' (by simp[x])) z) hf⟩
 self:=λ_ _ _ _ _ st q=>let ⟨⟨_,he⟩,_⟩:=st;wpAny_pyIter_enum he q
abbrev iw(K:Fg)(ta:TA):TI:=λσ H R=>ta σ H λvs H1=>∃a xs,vs=[.ref a]/\SqL K H1 a xs/\R (Mn K a) H1
def sO:bootBuiltins "enumerate"=some (.type "enumerate"):=by decide +kernel
section
variable{X:Cx}
def KH{x:Expr} {ta:TA}  {x1} {p pos:Pos} (hg:Gl X "enumerate") (hm:X.mg "enumerate"=none) (ha:PA X [x] ta) (hs:starEach [x] X.env=[(false,eval x X.env)]:=by rfl) :
  PI X (.Tuple elts x1 tp) (.Call (.Name "enumerate" p) [x] [] pos) (iw X.K ta):=by
 intro G s σ H R I h;refine Call_ (c8 I hg hm sO (TQ (a_ (ha pos G s σ H _ I h) λus s1 ω=>?_) (by rw[hs];rfl) (by rfl)));obtain⟨vs,H1,I1,r1,q1⟩:=ω;obtain⟨a,xs,e,sq,q⟩:=q1;subst e;obtain⟨u1,rfl,ra⟩:=vals1 r1;cases ra;obtain⟨de,rv,p1,_⟩:=I1.list sq;have lt:a<s1.heap.objs.size:=by obtain⟨_,z,_⟩:=p1.isList;exact Td z
 refine call_enumerate_list p1.isList λh' he t sz kp=>?_
 refine wpAny_pyIter_enum (s:={s1 with heap:=h'}) he ?_;refine⟨s1.heap.objs.size+1,[s1.heap.objs.size+1,s1.heap.objs.size],_,_,H1,rfl,I1.kept (t':=s1.toks) kp,zG (Nat.succ_ne_self _) (TN lt),⟨⟨_,he⟩,t⟩,λc hc=>?_,q⟩
 have le2:s1.heap.objs.size<=c:=by
  simp only[S_,VG,or_false] at hc;rcases hc with rfl|rfl
  .exact XQ _
  .exact Sx _
 exact I1.fpOk le2 (I1.hok.fresh le2)
end
section
variable{K:Fg}{te:TE}{tc:TT}{σ:St}{Q:VK}{H:Hp}{D:cr}
def ON{ta:TA}{R:It->Hp->Prop}(h:ta σ H λvs H1=>∃a xs,vs=[.ref a]/\SqL K H1 a xs/\R (Mn K a) H1):iw K ta σ H R:=h
def dY{xs:List V}{g:TG}{tb:TS}(Pv:Nat->St->Hp->Prop)(h0:Pv 0 σ H)(hl:∀i σ H,i<=UD xs->Pv i σ H->SqL K H a xs)
  (hs:∀i x σ H T,xs[i]?=some x->Pv i σ H->H T=none->g (.ref T) σ (upd H T (.tup [.int i,x])) λσ2 H2=>tb {D with nx:=Pv (i+1),ct:=Pv (i+1),bk:=D.nx} σ2 H2) (hd:∀σ H,Pv (UD xs) σ H->D.nx σ H):zv (Mn K a) g tb D σ H:=by
 refine⟨λi m σ H=>m=UD xs-i/\i<=(UD xs)/\Pv i σ H,⟨_,rfl,TV _,h0⟩,?_⟩;rintro i m σ H ⟨rfl,hi,p⟩;have q:=hl i σ H hi p;by_cases Ds:i<UD xs
 .refine .inr ⟨⟨xs,q,Ds⟩,Pv (i+1),λσ' H' p'=>⟨(UD xs)-(i+1),∅,rfl,Ds,p'⟩,λv H' y=>?_⟩;obtain⟨T,x,nT,rfl,rfl,z⟩:=y;exact hs i x σ H T (z xs q) p nT
 .have e:i=UD xs:=by lia
  subst e;exact .inl ⟨⟨xs,q,Sx _⟩,hd σ H p⟩
end
abbrev Ki:R2:=λx y H Q=>∃z i,x=.str z/\y=.int i/\(i=0\/i=1)/\Q (.str (if i=0 then YZ else z)) H
section
variable{X:Cx}
def KQ:fe X (binaryOp .Mult) Ki:=by
 intro G s σ H x y v u Q I rx ry h;obtain⟨z,i,rfl,rfl,hi,q⟩:=h;obtain⟨t,rfl⟩:=rx;obtain⟨t',rfl⟩:=ry;rcases hi with rfl|rfl
 .exact P.mul_str_none (by decide) (by decide) ⟨.str YZ,H,I.tok _,⟨_,rfl⟩,q⟩
 .refine P.mul_str (by decide) (λ_ e=>by simp at e) (λ_ e=>by simp at e) ?_;rw[if_neg (by decide),if_pos (by simp)];exact⟨.str z,H,I,⟨_,rfl⟩,q⟩
def Oy{Q:VK}{z:Str}{i:Int}(hi:i=0\/i=1)(q:Q (.str (if i=0 then YZ else z)) H):Ki (.str z) (.int i) H Q:=⟨z,i,rfl,rfl,hi,q⟩
end
open PySem.W (Dat kqdOk kqdP kqdPs)
abbrev rf(K:Fg):V->List V->Hp->VK->Prop:=λx xs H Q=>∃(a:Addr) (y:V) (ds:List Dat) (d:Dat) (j:Nat),x=.ref a/\xs=[y]/\Rep K H y d/\Rep K H (.ref a) (.list ds)/\(∀e∈ds,kqdOk 8 e=true)/\kqdOk 8 d=true/\ds[j]?=some d/\(∀m,m<j->ds[m]?≠some d)/\ds.length<=1000/\Q (.int j) H
open Classical in
def Hh(he:kqdOk 8 e=true)(hd:kqdOk 8 d=true):W1 (kqdP e) (kqdP d)=decide (d=e):=by
 have h:=vZ (ds:=[e]) (d:=d) (λx hx=>by rw[SO.mp hx];exact he) hd;rw[kqdPs,kqdPs,WV,List.any_nil,ZbV] at h;rw[h];by_cases z:d=e
 .simp[z]
 .simp[z]
def r9:∀{ds:List Dat} {i:Nat},(kqdPs ds)[i]? = (ds[i]?).map kqdP
 |[],i=>by rw[kqdPs];simp
 |d :: ds,0=>by rw[kqdPs];rfl
 |d :: ds,i+1=>by rw[kqdPs,Va,Va,r9]
def r8:∀ds:List Dat,(kqdPs ds).length=UD ds
 |[]=>by rw[kqdPs];rfl
 |d :: ds=>by rw[kqdPs,Tu,Tu,r8]
open Classical in
def GJ{X:Cx} (hu:X.A.units+64<cLine):RO X "list.index" (rf X.K):=by
 intro G s σ H x xs v us Q I rx rv h;obtain⟨a,y,ds,d,j,rfl,rfl,hd,he,ka,kd,e1,e2,ln,q⟩:=h;obtain⟨u,rfl,ru⟩:=vals1 rv;obtain⟨as,ra⟩:=Rep.reads I hd ru;obtain⟨bs,rb⟩:=Rep.reads I he rx;rw[kqdP] at rb;cases rx;generalize hp:kqdPs ds=ps at rb;cases rb with
 |@list _ o de n _ _ h1 h2 h3 h4 =>
  obtain⟨c,dct,dt,sl⟩:=o;replace h2:c=.type "list":=h2;replace h3:dt=.seq de n:=h3;subst h2 h3;have hxs:ZaN ps=true:=by rw[<- hp];exact(Y5 ka).1
  have hmap:=SeqAt.readsAll_map ps _ _ hxs h4;have lj:j<UD ds:=(Sn.mp e1).1
  have at_:∀m (hm:m<de.size),W1 (Zm s.heap de[m]) (kqdP d)=decide (ds[m]?=some d):=by
   intro m hm;have g:(de.toList.map (Zm s.heap))[m]?=some (Zm s.heap de[m]):=by rw[So,Ts,Array.getElem?_eq_getElem hm];rfl
   rw[hmap,<- hp,r9] at g;obtain⟨e,ge,gp⟩:=SA.mp g;rw[<- gp,Hh (ka e (Sq ge)) kd,ge];by_cases z:d=e
   .simp[z]
   .have:e≠d:=λw=>z w.symm
    simp[z,this]
  have szl:de.size=UD ds:=by
   have:=congrArg UD hmap
   rw[Si,Tq,<- hp] at this;rw[this,r8]
  have hm:wpAny (model X.prog X.w) X.A (call (.builtin "list.index") [.ref a,u]) (EP X G σ Q) X.xe s:=by
   refine XA F.slot_list_index ⟨_,h1,rfl⟩ F.entry_list_index (F.args_list_index_2 _ _) (SeqAt.list_indexAt a de n dct sl u (λy=>W1 (Zm s.heap y) (kqdP d)) j ∅ ∅ ?_ ?_) ⟨h1,SeqAt.items_eqAt h4 ra hxs (Wm 8 d kd).1 ?_,⟨.int j,H,I.tok _,⟨_,rfl⟩,q⟩⟩
   .rw[at_ j ∅,e1];simp
   .intro m hm hmj;rw[at_ m hm];exact decide_eq_false (e2 m hmj)
   .have l:=(Wm 8 d kd).2
    have:=XB (X2 ps) (kqdP d).depth
    lia
  exact hm
def vA{K:Fg}{Q:VK}{j:Nat}(hd:Rep K H y d)(he:Rep K H (.ref a) (.list ds))(ka:∀e∈ds,kqdOk 8 e=true)(kd:kqdOk 8 d=true)(e1:ds[j]?=some d)(e2:∀m,m<j->ds[m]?≠some d)(l:UD ds<=1000)(q:Q (.int j) H):rf K (.ref a) [y] H Q :=
 ⟨a,y,ds,d,j,rfl,rfl,hd,he,ka,kd,e1,e2,l,q⟩
section
variable{K:Fg}{σ:St}{Q:VK}{H:Hp}{td ty:TE}{D:cr}
def OP(h:td σ H λx H1=>ty σ H1 λy H2=>∃a v,x=.ref a/\DGet H2 a y (some v)/\Q v H2):uc td ty σ H Q:=h
def GV(h:ty σ H λy H1=>td σ H1 λx H2=>∃a o,x=.ref a/\DGet H2 a y o/\Q (.bl (!o.isSome)) H2):ub ty td σ H Q:=h
def LC(h:td σ H λx H1=>∃a,x=.ref a/\RP H1 a/\ty σ H1 λy H2=>∃o,DGet H2 a y o/\Q (o.getD .non) H2):AD td ty σ H Q:=h
end
section
variable{K:Fg}{te:TE}{tc:TT}{σ:St}{Q:VK}{H:Hp}
def fK{xs:List V}(h:∀D,H D=none->∃Pv:Nat->Hp->Prop,Pv 0 (upd H D (.lst []))/\(∀i H2,i<=UD xs->Pv i H2->SqL K H2 a xs)/\(∀i x H2,xs[i]?=some x->Pv i H2->Mg g n tc te σ x H2 D (UD xs) i Pv)/\∀H2,Pv (UD xs) H2->Q (.ref D) H2):EA (sR K a) n g tc te σ Q H:=by
 intro D nD;obtain⟨Pv,h0,hl,hs,hd⟩:=h D nD;refine⟨λi m H=>m=UD xs-i/\i<=(UD xs)/\Pv i H,⟨_,rfl,TV _,h0⟩,?_⟩;rintro i m H ⟨rfl,hi,p⟩;have q:=hl i H hi p;by_cases Ds:i<UD xs
 .refine .inr ⟨⟨xs,xs[i],q,Sk Ds⟩,λv H' y us hu=>?_⟩;obtain⟨rfl,z⟩:=y;exact hs i v _ (z xs q) p us hu
 .have e:i=UD xs:=by lia
  subst e;exact .inl ⟨⟨xs,q,Sx _⟩,hd H p⟩
def mW{xs:List V}(h:∀D,H D=none->∃Pv:Nat->Hp->Prop,Pv 0 (upd H D (.lst []))/\(∀i H2,i<=UD xs->Pv i H2->SqL K H2 a xs) /\
  (∀i x H2 T,xs[i]?=some x->Pv i H2->H2 T=none->Mg g n tc te σ (.ref T) (upd H2 T (.tup [.int i,x])) D (UD xs) i Pv)/\∀H2,Pv (UD xs) H2->Q (.ref D) H2):EA (Mn K a) n g tc te σ Q H:=by
 intro D nD;obtain⟨Pv,h0,hl,hs,hd⟩:=h D nD;refine⟨λi m H=>m=UD xs-i/\i<=(UD xs)/\Pv i H,⟨_,rfl,TV _,h0⟩,?_⟩;rintro i m H ⟨rfl,hi,p⟩;have q:=hl i H hi p;by_cases Ds:i<UD xs
 .refine .inr ⟨⟨xs,q,Ds⟩,λv H' y us hu=>?_⟩;obtain⟨T,x,nT,rfl,rfl,z⟩:=y;exact hs i x H T (z xs q) p nT us hu
 .have e:i=UD xs:=by lia
  subst e;exact .inl ⟨⟨xs,q,Sx _⟩,hd H p⟩
end
def mD:∀{ns:List Int} {us:List Su},Vals (ns.map V.int) us->∃l:List (Int×Tok),us=l.map (λp=>WF p.1 p.2)/\l.map (·.1)=ns
 |[],_,.nil=>⟨[],rfl,rfl⟩
 |n :: ns,_,.cons r rr=>by
  obtain⟨t,rfl⟩:=r;obtain⟨l,e1,e2⟩:=mD rr;exact⟨(n,t) :: l,by rw[e1];rfl,by rw[<- e2];rfl⟩
section
variable{X:Cx}
def Po:bootBuiltins "max"=some (.builtin "max"):=by decide +kernel
end
end L2
namespace Rk
abbrev pt(r:List Int)(p:Nat):Int:=r.getD p 0
abbrev aO:List Int->List (List Int)->Nat->Int
 |a :: as,r :: rs,p=>a*pt r p+aO as rs p
 |_,_,_=>0
abbrev bv(R:List (List Int)):Prop:=∀a:List Int,UD a=UD R->(∀p,aO a R p=0)->∀c∈a,c=0
def pU(a:List Int)(p:Nat):aO a [] p=0:=by cases a <;> rfl
def cE:∀{a:List Int} {R:List (List Int)} (b:List Int) (S:List (List Int)) (p:Nat),UD a=UD R->aO (a++b) (R++S) p=aO a R p+aO b S p
 |[],[],b,S,p,_=>by simp[aO]
 |x :: a,r :: R,b,S,p,h=>by
  have ih:=cE (a:=a) (R:=R) b S p (by simpa using h);show x*pt r p+aO (a++b) (R++S) p=(x*pt r p+aO a R p)+aO b S p;rw[ih,Int.add_assoc]
def b5(k:Int):∀(a:List Int) (R:List (List Int)) (p:Nat),aO (a.map λx=>k*x) R p=k*aO a R p
 |[],R,p=>by cases R <;> simp[aO]
 |x :: a,[],p=>by simp[aO]
 |x :: a,r :: R,p=>by
  have ih:=b5 k a R p;show k*x*pt r p+aO (a.map λx=>k*x) R p=k*(x*pt r p+aO a R p);rw[ih,Vb,SY]
def split_len{a:List Int}{R S:List (List Int)}(h:UD a=(R++S).length):∃b c,a=b++c/\b.length=R.length/\c.length=S.length:=by
 refine⟨a.take (UD R),a.drop (UD R),(Xx _ _).symm,?_,?_⟩
 .rw[SL,h,SC];lia
 .rw[Ux,h,SC];lia
def Hb{R S:List (List Int)}{r:List Int}:bv (R++r :: S)↔bv (r :: (R++S)):=by
 constructor
 .intro h a la ha c hc;obtain⟨x,b,rfl⟩:∃x b,a=x :: b:=UC (by rw[la];simp);obtain⟨b1,b2,rfl,l1,l2⟩:=split_len (a:=b) (R:=R) (S:=S) (by simpa using la)
  have h':=h (b1++x :: b2) (by simp[l1,l2]) λp=>by
   have e:=ha p;have e':x*pt r p+aO (b1++b2) (R++S) p=0:=e;rw[cE _ _ _ l1] at e';rw[cE _ _ _ l1];show aO b1 R p+(x*pt r p+aO b2 S p)=0;lia
  refine h' c ?_;simp only[S_,SQ] at hc ⊢;rcases hc with hc|hc|hc
  .exact .inr (.inl hc)
  .exact .inl hc
  .exact .inr (.inr hc)
 .intro h a la ha c hc;obtain⟨b1,b,rfl,l1,l⟩:=split_len (R:=R) (S:=r :: S) la;obtain⟨x,b2,rfl⟩:∃x b2,b=x :: b2:=UC (by rw[l];simp)
  have h':=h (x :: (b1++b2)) (by simp[l1] at l ⊢;lia) λp=>by
   have e:=ha p;rw[cE _ _ _ l1] at e;have e':aO b1 R p+(x*pt r p+aO b2 S p)=0:=e;show x*pt r p+aO (b1++b2) (R++S) p=0;rw[cE _ _ _ l1];lia
  refine h' c ?_;simp only[S_,SQ] at hc ⊢;rcases hc with hc|hc|hc
  .exact .inr (.inl hc)
  .exact .inl hc
  .exact .inr (.inr hc)
abbrev gW(by_:List Int)(p:Nat)(r:List Int):List Int:=Up (λone sZ=>one*pt by_ p-pt r p*sZ) r by_
def rl{by_ r:List Int}(h:UD r=UD by_):pt (gW by_ p r) q=pt r q*pt by_ p-pt r p*pt by_ q:=by
 unfold pt gW;rw[Sj,T_,Sj (l:=r) (i:=q),Sj (l:=by_) (i:=q)];by_cases l:q<UD r
 .rw[Sk l,Sk ∅];rfl
 .rw[Tj ∅,Tj ∅];simp
abbrev Wide(w:Nat)(R:List (List Int)):Prop:=∀r∈R,UD r=w
def vI{w:Nat}{by_:List Int}{p:Nat}(hb:UD by_=w):∀(a:List Int) (R:List (List Int)) (q:Nat),Wide w R->aO a (R.map (gW by_ p)) q=pt by_ p*aO a R q-aO a R p*pt by_ q
 |[],R,q,_=>by cases R <;> simp[aO]
 |x :: a,[],q,_=>by simp[aO]
 |x :: a,r :: R,q,h=>by
  have ih:=vI (p:=p) hb a R q λs hs=>h s (Sw _ hs)
  have e:=rl (p:=p) (q:=q) (by_:=by_) (r:=r) (by rw[h r Sv,hb]);show x*pt (gW by_ p r) q+aO a (R.map (gW by_ p)) q=pt by_ p*(x*pt r q+aO a R q)-(x*pt r p+aO a R p)*pt by_ q;rw[ih,e,Xb,Vb,WB];have e1:x*(pt r q*pt by_ p)=pt by_ p*(x*pt r q):=by rw[<- SY,T9]
  have e2:x*(pt r p*pt by_ q)=x*pt r p*pt by_ q:=by rw[SY]
  lia
def Hc{w:Nat}{by_:List Int}(hb:UD by_=w)(hR:Wide w R)(n:pt by_ p≠0):bv (by_ :: R)↔bv (R.map (gW by_ p)):=by
 constructor
 .intro h a la ha;have la':UD a=UD R:=by rw[la,Si]
  have h':=h ((-aO a R p) :: a.map λx=>pt by_ p*x) (by simp[la']) λq=>by
   have e:=ha q;rw[vI hb _ _ _ hR] at e;show -aO a R p*pt by_ q+aO (a.map λx=>pt by_ p*x) R q=0;rw[b5,UY];lia
  intro c hc
  have:=h' (pt by_ p*c) (Sw _ (SE.mpr ⟨c,hc,rfl⟩))
  exact(TJ.mp this).resolve_left n
 .intro h a la ha;obtain⟨x,b,rfl⟩:∃x b,a=x :: b:=UC (by rw[la];simp);have lb:UD b=UD R:=by simpa using la
  have at_:∀q,x*pt by_ q+aO b R q=0:=ha
  have h':=h b (by rw[lb,Si]) λq=>by
   rw[vI hb _ _ _ hR];have e1:=at_ q;have e2:=at_ p;have e3:aO b R q = -(x*pt by_ q):=by lia
   have e4:aO b R p = -(x*pt by_ p):=by lia
   rw[e3,e4,Vq,UY];have e5:pt by_ p*(x*pt by_ q)=x*pt by_ p*pt by_ q:=by rw[<- SY,T9 (pt by_ p) x]
   lia
  have z:aO b R p=0:=by
   have:∀(b:List Int) (R:List (List Int)),(∀c∈b,c=0)->aO b R p=0:=by
    intro b
    induction b with
    |nil=>intro R _;cases R <;> rfl
    |cons c b ih =>
     intro R hc;cases R with
     |nil=>rfl
     |cons r R =>
      show c*pt r p+aO b R p=0;rw[hc c Sv,ih R λd hd=>hc d (Sw _ hd)];lia
   exact this b R h'
  have x0:x=0:=by
   have e:=at_ p;rw[z,UF] at e;exact(TJ.mp e).resolve_right n
  intro c hc;rcases S_.mp hc with rfl|hc
  .exact x0
  .exact h' c hc
def kO{by_ r:List Int}(h:UD r=UD by_):(gW by_ p r).length=UD by_:=by
 unfold gW;rw[UW];lia
abbrev Ml(by_:List Int):List (List Int)->List (List Int)
 |[]=>[]
 |r :: R=>if r=by_ then R else r :: Ml by_ R
abbrev iM(st:Nat×List (List Int))(p:Nat):Nat×List (List Int) :=
 match st.2.filter (λr=>pt r p≠0) with
 |[]=>st
 |by_ :: _=>(st.1+1,(Ml by_ st.2).map (gW by_ p))
abbrev size(w:Nat)(R:List (List Int)):Nat:=((SJ w).foldl iM (0,R)).1
def qY{by_:List Int}:∀{R:List (List Int)},by_∈R->∃A B,R=A++by_ :: B/\Ml by_ R=A++B
 |r :: R,m=>by
  unfold Ml;by_cases e:r=by_
  .rw[if_pos e];exact⟨[],R,by rw[e];rfl,rfl⟩
  .rw[if_neg e];obtain⟨A,B,h1,h2⟩:=qY ((S_.mp m).resolve_left λz=>e z.symm);exact⟨r :: A,B,by rw[h1];rfl,by rw[h2];rfl⟩
structure Qa (w n p:Nat) (fr:Prop) (st:Nat×List (List Int)):Prop where
 wide:Wide w st.2
 len:st.1+st.2.length=n
 nought:∀r∈st.2,∀q<p,pt r q=0
 free:bv st.2↔fr
def Fk{st:Nat×List (List Int)}(I:Qa w n p fr st):Qa w n (p+1) fr (iM st p):=by
 unfold iM;split
 .rename_i e;refine⟨I.wide,I.len,λr hr q hq=>?_,I.free⟩;by_cases z:q<p
  .exact I.nought r hr q z
  .have eq:q=p:=by lia
   subst eq;by_cases y:pt r q=0
   .exact y
   .have:r∈st.2.filter (λr=>pt r q≠0):=Tt.mpr ⟨hr,by simpa using y⟩
    rw[e] at this;cases this
 .rename_i by_ rest e;have mb:by_∈st.2.filter (λr=>pt r p≠0):=by rw[e];exact Sv
  obtain⟨mb1,mb2⟩:=Tt.mp mb;have nb:pt by_ p≠0:=by simpa using mb2
  obtain⟨A,B,h1,h2⟩:=qY mb1;have hb:=I.wide by_ mb1
  have wAB:Wide w (A++B):=λr hr=>I.wide r (by
   rw[h1]
   rcases SQ.mp hr with z|z
   .exact Te _ z
   .exact SW _ (Sw _ z))
  refine⟨λr hr=>?_,?_,λr hr q hq=>?_,?_⟩
  .obtain⟨s,hs,rfl⟩:=SE.mp hr;rw[h2] at hs;rw[kO (by rw[wAB s hs,hb]),hb]
  .have:=I.len
   rw[h1] at this;show st.1+1+((Ml by_ st.2).map (gW by_ p)).length=n;rw[Si,h2];simp only[SC,Tu] at this ⊢;lia
  .obtain⟨s,hs,rfl⟩:=SE.mp hr;rw[h2] at hs
   have ms:s∈st.2:=by
    rw[h1];rcases SQ.mp hs with z|z
    .exact Te _ z
    .exact SW _ (Sw _ z)
   rw[rl (by rw[wAB s hs,hb])];by_cases z:q<p
   .rw[I.nought s ms q z,I.nought by_ mb1 q z];simp
   .have eq:q=p:=by lia
    subst eq;rw[T9];lia
  .show bv ((Ml by_ st.2).map (gW by_ p))↔fr;rw[h2,<- I.free,h1,Hb];exact(Hc hb wAB nb).symm
def HP{w n:Nat}{fr:Prop}{st:Nat×List (List Int)}(I:Qa w n 0 fr st):∀k,Qa w n k fr ((SJ k).foldl iM st)
 |0=>I
 |k+1=>by
  rw[U5,UJ];exact Fk (HP I k)
def DO(hw:Wide w R)(z:∀r∈R,∀q<w,pt r q=0):bv R↔R=[]:=by
 have zero:∀r∈R,∀q,pt r q=0:=λr hr q=>by
  by_cases l:q<w
  .exact z r hr q l
  .unfold pt;rw[Sj,Tj (by rw[hw r hr];lia)];rfl
 constructor
 .intro h;cases R with
  |nil=>rfl
  |cons r R =>
   have all:∀(S:List (List Int)) (a:List Int),(∀r∈S,∀q,pt r q=0)->∀p,aO a S p=0:=by
    intro S
    induction S with
    |nil=>intro a _ p;exact pU a p
    |cons s S ih =>
     intro a hs p;cases a with
     |nil=>rfl
     |cons x a =>
      show x*pt s p+aO a S p=0;rw[hs s Sv,ih a (λr hr=>hs r (Sw _ hr))];lia
   have:=h (1 :: R.map λ_=>0) (by simp) (all (r :: R) _ zero) 1 Sv
   cases this
 .rintro rfl a la _ c hc
  have:a=[]:=T0.mp la
  rw[this] at hc;cases hc
def AZ(hw:Wide w R):(size w R=(UD R)↔bv R)/\size w R<=UD R:=by
 have I:=HP (w:=w) (n:=R.length) (fr:=bv R) (st:=(0,R)) ⟨hw,by simp,λr hr q hq=>absurd hq (TZ _),Zb6⟩ w;have e:=DO I.wide I.nought;have l:=I.len;unfold size;refine⟨?_,∅⟩;rw[<- I.free,e,<- T0];lia
def fI{b:List Int}(h:∀c∈b,c=0):∀(R:List (List Int)) (p:Nat),aO b R p=0:=by
 induction b with
 |nil=>intro R p;cases R <;> rfl
 |cons c b ih =>
  intro R p;cases R with
  |nil=>rfl
  |cons r R =>
   show c*pt r p+aO b R p=0;rw[h c Sv,ih (λd hd=>h d (Sw _ hd))];lia
def pV:∀(a b:List Int) (R:List (List Int)) (p:Nat),UD a=UD b->aO (Up (· + ·) a b) R p=aO a R p+aO b R p
 |[],[],R,p,_=>by cases R <;> simp[aO]
 |x :: a,y :: b,[],p,_=>by simp[aO]
 |x :: a,y :: b,r :: R,p,h=>by
  have ih:=pV a b R p (by simpa using h);show(x+y)*pt r p+aO (Up (· + ·) a b) R p=(x*pt r p+aO a R p)+(y*pt r p+aO b R p)
  rw[ih,WB];lia
def mT{S T:List (List Int)}{d:List Int}{c G:Int}(ld:UD d=UD S)(hc:c≠0)(hG:G≠0)(e:∀q,G*pt s q=c*pt r q+aO d S q)(h:bv (S++r :: T)):bv (S++s :: T):=by
 intro a la ha;obtain⟨a1,a',rfl,l1,l'⟩:=split_len la;obtain⟨x,a2,rfl⟩:∃x a2,a'=x :: a2:=UC (by rw[l'];simp);have l2:UD a2=UD T:=by simpa using l'
 have at_:∀q,aO a1 S q+(x*pt s q+aO a2 T q)=0:=λq=>by
  have:=ha q
  rw[cE _ _ _ l1] at this;exact this
 have h':=h (Up (· + ·) (a1.map λy=>G*y) (d.map λy=>x*y)++(x*c) :: a2.map λy=>G*y) (by simp[l1,l2,ld]) λq=>by
  rw[cE _ _ _ (by simp[l1,ld])];show aO (Up (· + ·) (a1.map λy=>G*y) (d.map λy=>x*y)) S q+(x*c*pt r q+aO (a2.map λy=>G*y) T q)=0;rw[pV _ _ _ _ (by simp[l1,ld]),b5,b5,b5];have e1:=at_ q;have e2:=e q;have e3:G*(aO a1 S q+(x*pt s q+aO a2 T q))=0:=by rw[e1,TL]
  rw[Vb,Vb] at e3;have e4:G*(x*pt s q)=x*(c*pt r q+aO d S q):=by rw[<- e2,<- SY,<- SY,T9 G x]
  rw[e4,Vb] at e3;have e5:x*(c*pt r q)=x*c*pt r q:=by rw[SY]
  lia
 have x0:x=0:=by
  have:=h' (x*c) (SW _ Sv)
  exact(TJ.mp this).resolve_right hc
 have a20:∀y∈a2,y=0:=λy hy=>by
  have:=h' (G*y) (SW _ (Sw _ (SE.mpr ⟨y,hy,rfl⟩)))
  exact(TJ.mp this).resolve_left hG
 have a10:∀y∈a1,y=0:=λy hy=>by
  obtain⟨i,hi,rfl⟩:=Uk.mp hy
  have m:G*a1[i]+x*d[i]'(∅)∈Up (· + ·) (a1.map λy=>G*y) (d.map λy=>x*y):=by
   refine Uk.mpr ⟨i,by simp;lia,by simp⟩
  have:=h' _ (Te _ m)
  rw[x0,Uq,UF] at this;exact(TJ.mp this).resolve_left hG
 intro y hy;rcases SQ.mp hy with z|z
 .exact a10 y z
 .rcases S_.mp z with rfl|z
  .exact x0
  .exact a20 y z
def sw{S T:List (List Int)}{d:List Int}{c G:Int}(ld:UD d=UD S)(hc:c≠0)(hG:G≠0)(e:∀q,G*pt s q=c*pt r q+aO d S q):bv (S++r :: T)↔bv (S++s :: T) :=
 ⟨mT ld hc hG e,mT (d:=d.map λy=>(-1)*y) (by simp[ld]) hG hc λq=>by rw[b5];have:=e q;lia⟩
abbrev Eqv(F S:List (List Int)):Prop:=∀T,bv (F++T)↔bv (S++T)
def Eqv.snoc{d:List Int}{c G:Int}(h:Eqv F S)(ld:UD d=UD S)(hc:c≠0)(hG:G≠0)(e:∀q,G*pt s q=c*pt r q+aO d S q):Eqv (F++[r]) (S++[s]):=λT=>by
 rw[Ur,Ur,h,Xw,Xw];exact sw ld hc hG e
inductive cK:List (List Int)->List Nat->Prop
 |nil:cK [] []
 |cons {s:List Int} {p:Nat} {S:List (List Int)} {ps:List Nat}:pt s p≠0->(∀t∈S,pt t p=0)->cK S ps->cK (s :: S) (p :: ps)
def cK.snoc{s:List Int}{p:Nat}:∀{S:List (List Int)} {ps:List Nat},cK S ps->(∀q∈ps,pt s q=0)->pt s p≠0->cK (S++[s]) (ps++[p])
 |_,_,.nil,_,h=>.cons h (by simp) .nil
 |_,_,.cons (s:=t) (p:=q) h1 h2 r,z,h=>.cons h1 (λu hu=>by
   rcases SQ.mp hu with m|m
   .exact h2 u m
   .rw[SO.mp m];exact z q Sv) (cK.snoc r (λq hq=>z q (Sw _ hq)) h)
def mH{x:List Int}:∀{S:List (List Int)} {ps:List Nat},cK S ps->(∀q∈ps,pt x q=0)->(bv (S++[x])↔∃q,pt x q≠0)
 |[],[],.nil,_=>by
  constructor
  .intro h;by_cases z:∃q,pt x q≠0
   .exact z
   .have:=h [1] rfl (λp=>by
     show 1*pt x p+aO [] [] p=0
     have:pt x p=0:=Decidable.byContradiction λy=>z ⟨p,y⟩
     rw[this];rfl) 1 Sv
    cases this
  .rintro⟨q,hq⟩ a la ha c hc;obtain⟨y,rfl⟩:∃y,a=[y]:=US.mp la
   have:=ha q
   have e:y*pt x q+0=0:=this;rw[UF] at e;rw[SO.mp hc];exact(TJ.mp e).resolve_right hq
 |s :: S,p :: ps,.cons h1 h2 r,z=>by
  have ih:=mH r λq hq=>z q (Sw _ hq)
  have zp:∀t∈S++[x],pt t p=0:=λt ht=>by
   rcases SQ.mp ht with m|m
   .exact h2 t m
   .rw[SO.mp m];exact z p Sv
  have nought:∀(b:List Int) (R:List (List Int)),(∀t∈R,pt t p=0)->aO b R p=0:=by
   intro b
   induction b with
   |nil=>intro R _;cases R <;> rfl
   |cons c b ihb =>
    intro R hR;cases R with
    |nil=>rfl
    |cons t R =>
     show c*pt t p+aO b R p=0;rw[hR t Sv,ihb R λt ht=>hR t (Sw _ ht)];lia
  rw[<- ih];constructor
  .intro h a la ha c hc
   exact h (0 :: a) (by simp[la]) (λq=>by
    show 0*pt s q+aO a (S++[x]) q=0
    rw[ha q];lia) c (Sw _ hc)
  .intro h a la ha;obtain⟨y,b,rfl⟩:∃y b,a=y :: b:=UC (by rw[la];simp);have at_:∀q,y*pt s q+aO b (S++[x]) q=0:=ha
   have y0:y=0:=by
    have:=at_ p
    rw[nought b _ zp,UF] at this;exact(TJ.mp this).resolve_right h1
   have:=h b (by simpa using la) λq=>by
    have:=at_ q
    rw[y0] at this;lia
   intro c hc;rcases S_.mp hc with rfl|hc
   .exact y0
   .exact this c hc
structure Clrd (S:List (List Int)) (ps:List Nat) (x x':List Int):Prop where
 made:∃(d:List Int) (c G:Int),UD d=(UD S)/\c≠0/\G≠0/\∀q,G*pt x' q=c*pt x q+aO d S q
 nought:∀q∈ps,pt x' q=0
 len:UD x'=x.length
def Clrd.snoc{z s:List Int}{p:Nat}{g:Int}(h:Clrd S ps x y)(st:cK (S++[s]) (ps++[p]))(lp:UD S=UD ps)(ls:UD y=UD s)(hg:g≠0)(lz:UD z=UD y)(ez:∀q,g*pt z q=pt (gW s p y) q):Clrd (S++[s]) (ps++[p]) x z:=by
 obtain⟨d,c,G,ld,hc,hG,e⟩:=h.made
 have sp:pt s p≠0:=by
  have:∀{S:List (List Int)} {ps:List Nat},cK (S++[s]) (ps++[p])->UD S=UD ps->pt s p≠0:=by
   intro S
   induction S with
   |nil =>
    intro ps st l
    have:ps=[]:=T0.mp l.symm
    subst this;cases st with
    |cons h _ _=>exact h
   |cons t S ih =>
    intro ps st l;cases ps with
    |nil=>simp at l
    |cons q ps =>
     cases st with
     |cons _ _ r=>exact ih r (by simpa using l)
  exact this st lp
 have s0:∀q∈ps,pt s q=0:=by
  have:∀{S:List (List Int)} {ps:List Nat},cK (S++[s]) (ps++[p])->UD S=UD ps->∀q∈ps,pt s q=0:=by
   intro S
   induction S with
   |nil =>
    intro ps st l q hq
    have:ps=[]:=T0.mp l.symm
    subst this;cases hq
   |cons t S ih =>
    intro ps st l q hq;cases ps with
    |nil=>simp at l
    |cons q0 ps =>
     cases st with
     |cons _ h2 r =>
      rcases S_.mp hq with rfl|hq
      .exact h2 s (SW _ (SO.mpr rfl))
      .exact ih r (by simpa using l) q hq
  exact this st lp
 have ec:∀q,g*pt z q=pt y q*pt s p-pt y p*pt s q:=λq=>by rw[ez q,rl ls]
 have zero:∀q,pt y q*pt s p-pt y p*pt s q=0->pt z q=0:=λq h0=>by
  have:=ec q
  rw[h0] at this;exact(TJ.mp this).resolve_left hg
 refine⟨⟨(d.map λv=>pt s p*v)++[-(G*pt y p)],pt s p*c,G*g,by simp[ld],λw=>?_,λw=>?_,λq=>?_⟩,λq hq=>?_,by rw[lz,h.len]⟩
 .rcases TJ.mp w with w|w
  .exact sp w
  .exact hc w
 .rcases TJ.mp w with w|w
  .exact hG w
  .exact hg w
 .rw[cE _ _ _ (by simp[ld]),b5];show G*g*pt z q=pt s p*c*pt x q+(pt s p*aO d S q+(-(G*pt y p)*pt s q+0))
  have e1:=e q;rw[SY,ec q,Xb,UF,UY];have a1:G*(pt y q*pt s p)=pt s p*(c*pt x q+aO d S q):=by rw[<- e1,<- SY,T9]
  have a2:G*(pt y p*pt s q)=G*pt y p*pt s q:=by rw[SY]
  have a3:pt s p*(c*pt x q+aO d S q)=pt s p*c*pt x q+pt s p*aO d S q:=by rw[Vb,SY]
  lia
 .rcases SQ.mp hq with m|m
  .refine zero q ?_;rw[h.nought q m,s0 q m];simp
  .rw[SO.mp m];refine zero p ?_;lia
def Clrd.start{x:List Int}:Clrd [] [] x x:=⟨⟨[],1,1,rfl,by decide,by decide,λq=>by simp[aO]⟩,by simp,rfl⟩
def Ef(E:Eqv F S)(st:cK S ps)(c:Clrd S ps x x'):bv (F++[x])↔∃q,pt x' q≠0:=by
 obtain⟨d,c0,G,ld,hc,hG,e⟩:=c.made;rw[E [x]];rw[sw (T:=[]) ld hc hG e];exact mH st c.nought
end Rk
namespace Dn
open Rk
abbrev nI(l:List Nat):List Int:=l.map λi:Nat=>(i:Int)
abbrev gu(n:Nat)(S:List Nat):List (List Nat):=(SJ (n-(S.getLastD 0+1))).map λk=>S++[S.getLastD 0+1+k]
abbrev jx(n:Nat):Nat->List (List Nat)
 |0=>(SJ n).map λk=>[k]
 |i+1=>(jx n i).flatMap (gu n)
abbrev HJ(n:Nat):Nat->List (List Nat)
 |0=>[]
 |i+1=>HJ n i++jx n i
abbrev gh(n:Nat):List (List Nat):=HJ n n
def Lf:∀n<6,jx n n=[]:=by decide +kernel
def Of:∀n<6,∀i<n,jx n i≠[]:=by decide +kernel
def CK:∀n<6,∀i<6,(jx n i).length<=10/\(HJ n i).length<=31:=by decide +kernel
def Og:∀n<6,∀i<6,∀S∈jx n i,S≠[]/\S.length<=5/\∀k∈S,k<n:=by decide +kernel
def GH:∀n<6,∀i<6,∀S∈jx n i,(gu n S).length<=5:=by decide +kernel
def wF:∀n<6,(gh n).length<=31:=by decide +kernel
def Ba:∀n<6,∀S∈gh n,S≠[]/\S.length<=5/\∀k∈S,k<n:=by decide +kernel
abbrev hs(h:List Int)(S:List Nat):Bool:=S.any λk=>decide (0<pt h k)
nonrec def Tp:=List Int×List Int
abbrev isD(T:List Tp)(S:List Nat):Bool:=T.all λt=>hs t.1 S || !hs t.2 S
abbrev isT(T:List Tp)(S:List Nat):Bool:=T.all λt=>hs t.2 S || !hs t.1 S
abbrev within(M S:List Nat):Bool:=M.all λk=>decide (k∈S)
abbrev jS(acc:List (List Nat))(S:List Nat):List (List Nat):=if (!acc.any λM=>within M S)=true then acc++[S] else acc
abbrev lst(L:List (List Nat)):List (List Nat):=L.foldl jS []
def Lg:∀S∈lst L,S∈L:=by
 have go:∀(L acc:List (List Nat)) (S:List Nat),S∈L.foldl jS acc->S∈acc\/S∈L:=by
  intro L
  induction L with
  |nil=>intro acc S h;exact .inl h
  |cons M L ih =>
   intro acc S h;rcases ih _ _ h with h|h
   .unfold jS at h;split at h
    .rcases SQ.mp h with h|h
     .exact .inl h
     .rw[SO.mp h];exact .inr Sv
    .exact .inl h
   .exact .inr (Sw _ h)
 intro S h;rcases go L [] S h with h|h
 .cases h
 .exact h
def Lh(L:List (List Nat)):(lst L).length<=UD L:=by
 have go:∀(L acc:List (List Nat)),(L.foldl jS acc).length<=UD acc+UD L:=by
  intro L
  induction L with
  |nil=>intro acc;exact Sx _
  |cons M L ih =>
   intro acc
   have:=ih (jS acc M)
   have h:(jS acc M).length<=UD acc+1:=by
    unfold jS;split
    .simp
    .lia
   show(L.foldl jS (jS acc M)).length<=_;rw[Tu];lia
 have:=go L []
 simpa[lst] using this
end Dn
namespace L2
open PySem PySem.Spec PyProof.Rows
open PySem.W (Dat KasT kas_sort kas_ask)
section
variable{X:Cx}
def Ep:bootBuiltins "sorted"=some (.builtin "sorted"):=by decide +kernel
end
def nJ(a b c:Su):checkTypeCall "zip" ⟨[a,b,c],[]⟩=pure ():=by kernel_rfl
def rS(a b c:Su):checkBuiltinCall "zip.__new__" ⟨[.type "zip",a,b,c],[]⟩=pure ():=by kernel_rfl
def vX(a b c d:Su):argsOk "object.__init__" ⟨[a,b,c,d],[]⟩:=by
 unfold argsOk;rw[signature?_of (id:="object.__init__") (n:=['_','_','t','i','n','i','_','_']) (o:=['t','c','e','j','b','o']) (by kernel_rfl) PySem.F.owner_object];kernel_rfl
nonrec def Mc(k:Kn)(K:Fg)(a b c:Addr):It:=Qe K [(k,a),(k,b),(k,c)]
abbrev O4(k:Kn)(K:Fg)(ta:TA):TI:=λσ H R=>ta σ H λvs H1=>∃a b c xs ys zs,vs=[.ref a,.ref b,.ref c]/\k.sq K H1 a xs/\k.sq K H1 b ys/\k.sq K H1 c zs/\R (Mc k K a b c) H1
def L5{α:Type}{F:α->Prop}{x y z:α}(h1:F x)(h2:F y)(h3:F z):∀u∈[x,y,z],F u:=XT.mpr ⟨h1,all2 h2 h3⟩
def KF{x y u:Expr} {ta:TA}  {x1} {p pos:Pos} (hg:Gl X "zip") (hm:X.mg "zip"=none) (ha:PA X [x,y,u] ta) (hs:starEach [x,y,u] X.env=[(false,eval x X.env),(false,eval y X.env),(false,eval u X.env)]:=by rfl) (hs2:starEach [y,u] X.env=[(false,eval y X.env),(false,eval u X.env)]:=by rfl) :
  PI X (.Tuple elts x1 tp) (.Call (.Name "zip" p) [x,y,u] [] pos) (O4 k X.K ta):=by
 intro G s σ H R I h;refine Call_ (c8 I hg hm IS (TQ (a_ (ha pos G s σ H _ I h) λus s1 ω=>?_) (by rw[hs,hs2]) (by rw[hs2];rfl)));obtain⟨vs,H1,I1,r1,a,b,c,xs,ys,zs,e,s1q,s2q,s3q,q⟩:=ω;subst e;exact zx (ks:=[(k,a),(k,b),(k,c)]) I1 r1 (ZaJ _) gg (L5 ⟨xs,s1q⟩ ⟨ys,s2q⟩ ⟨zs,s3q⟩) q (nJ _ _ _) (rS _ _ _) λo=>vX o _ _ _
section
variable{K:Fg}{te:TE}{σ:St}{Q:VK}{H:Hp}
def Eb{k:Kn}{xs ys zs:List V}{m:Nat}(e1:UD xs=m)(e2:UD ys=m)(e3:UD zs=m)(h:∀D,H D=none->∃Pv:Nat->Hp->Prop,Pv 0 (upd H D (.lst []))/\(∀i H2,i<=m->Pv i H2->k.sq K H2 a xs/\k.sq K H2 b ys/\k.sq K H2 c zs) /\
  (∀i x y u H2 T,xs[i]?=some x->ys[i]?=some y->zs[i]?=some u->Pv i H2->H2 T=none->HD g n te σ (.ref T) (upd H2 T (.tup [x,y,u])) D m i Pv)/\∀H2,Pv m H2->Q (.ref D) H2):we (Mc k K a b c) n g te σ Q H:=by
 intro D nD;obtain⟨Pv,h0,hl,hs,hd⟩:=h D nD;refine⟨λi k H=>k=m-i/\i<=m/\Pv i H,⟨_,rfl,TV _,h0⟩,?_⟩;rintro i j H ⟨rfl,hi,p⟩;obtain⟨q1,q2,q3⟩:=hl i H hi p;by_cases Ds:i<m
 .refine .inr ⟨L5 ⟨xs,q1,∅⟩ ⟨ys,q2,∅⟩ ⟨zs,q3,∅⟩,λv H' ⟨T,ws,nT,h1,h2,h3⟩ us hu=>?_⟩;subst h1 h2;obtain _|⟨z1,_|⟨z2,_|⟨z3,_|_⟩⟩⟩:=h3
  exact hs i _ _ _ H T (z1 xs q1) (z2 ys q2) (z3 zs q3) p nT us hu
 .obtain rfl:i=m:=by lia
  exact .inl ⟨L5 ⟨xs,q1,λz=>∅⟩ ⟨ys,q2,λz=>∅⟩ ⟨zs,q3,λz=>∅⟩,hd H p⟩
end
end L2
namespace L2
open PySem PySem.Spec PyProof.Rows
abbrev v0(es:Array (Int×Su))(t:U2)(h:Int)(x:Su)(i:Int):Array (Int×Su)×U2 :=
 match es.toList.findIdx? (λe=>Vh i e.2) with
 |some _=>(es,t)
 |none=>if (!(layNew t es h x).2.2.1 && (layNew t es h x).2.1.tooFull)=true then ((relayAll (layNew t es h x).2.1 (layNew t es h x).1 (Ve (layNew t es h x).1.size)).1,(relayAll (layNew t es h x).2.1 (layNew t es h x).1 (Ve (layNew t es h x).1.size)).2.1)
  else ((layNew t es h x).1,(layNew t es h x).2.1)
section
variable{prog:TK}{w:Ub}{A:Uc}{E:Su->SB->Prop}{s:SB}
def L6{a:Addr}      {Q:Bool->SB->Prop} (ho:s.heap.get? a=some {cls:=.type "set",dict:=none,data:=.set es ep t,slots:=#[]}) (hf:t.fits es.size=true) (hel:ElemsOf (intKind prog w) es.toList) (hb:es.size+2<scanBound)
  (h:∀h' ep' r tk,Vz a s.heap h'->h'.get? a=some {cls:=.type "set",dict:=none,data:=.set (v0 es t (hashInt i) (.int i u) i).1 ep' (v0 es t (hashInt i) (.int i u) i).2,slots:=#[]}->Q r {s with heap:=h',toks:=tk}) :
  wpAny (model prog w) A (setAdd a (.int i u)) Q E s:=by
 unfold setAdd;refine VB (Ss (wpAny_pyHash_int ?_));unfold setAddHashed setAddHashedIn;refine VB (Ss (Xn ho rfl hf ?_));dsimp only;rw[byScan_of (knd:=intKind prog w) (show Zbw (.int i u)=true from rfl) ∅ hel];simp only[↓reduceIte];unfold setAddByScan;refine Ss (Ss (Zf (Ss (wpAny_setScan_of (knd:=intKind prog w) (k:=i) (show Vh i (.int i u)=true by simp[Vh]) ho rfl hf hel ?_))));unfold v0 at h;cases hr:es.toList.findIdx? (λe=>Vh i e.2) with
 |some j =>
  rw[hr] at h;rw[show(es.toList.findIdx? λe=>(intKind prog w).is i e.2)=some j from hr];dsimp only;refine SN (SN ?_);exact h s.heap ep _ _ (Vz.refl a s.heap) ho
 |none =>
  rw[hr] at h;rw[show(es.toList.findIdx? λe=>(intKind prog w).is i e.2)=none from hr];dsimp only
  have sz:(layNew t es (hashInt i) (.int i u)).1.size=es.size+1:=by
   have:=(layNew_perm t es (hashInt i) (.int i u)).length_eq
   rw[Tq,Tq,Array.size_push] at this;exact this
  generalize layNew t es (hashInt i) (.int i u)=L at h sz ⊢;obtain⟨es1,t1,wd,gv⟩:=L;dsimp only at h sz ⊢
  have gw:∀(b:Bool) (s₁:SB) (R:Unit->SB->Prop) (m:Bool->Sem Unit),m=(λb=>match b with|true=>rule "set.scan.the-table-gave-way" | false=>pure ())->R () s₁->wpAny (model prog w) A (m b) R E s₁:=by
   rintro b s₁ R m rfl hq;cases b <;> first|exact SN hq|exact Zf hq
  have fin:∀(s':SB),(∃tk,s' = {s with heap:=s.heap,toks:=tk})->wpAny (model prog w) A (do
    storeSet a es1 t1
    if (!wd && t1.tooFull)=true then do
      (match (relayAll t1 es1 (Ve es1.size)).2.2 with|true=>rule "set.scan.the-table-gave-way" | false=>pure ())
      storeSet a (relayAll t1 es1 (Ve es1.size)).1 (relayAll t1 es1 (Ve es1.size)).2.1
      pure (some true)
     else pure (some true)) (λr s''=>wpAny (model prog w) A (match r with|some added=>pure added|none=>setAddHashedIn a (.int i u) (hashInt i) 99999) Q E s'') E s':=by
   rintro s' ⟨tk,rfl⟩
   have e1:(s.heap.update a (Ys es1 t1)).get? a=some {cls:=.type "set",dict:=none,data:=.set es1 (ep+1) t1,slots:=#[]}:=by
    have:=UH (Ys es1 t1) ho (by rw[Zbd es1 t1 rfl];rfl)
    rw[Zbd es1 t1 rfl] at this;exact this
   refine Ss (wpAny_storeSet_of (s:={s with heap:=s.heap,toks:=tk}) ho rfl ?_ (fits_of_scanBound ∅));by_cases c:(!wd && t1.tooFull)=true
   .rw[if_pos c] at h ⊢
    have sz2:(relayAll t1 es1 (Ve es1.size)).1.size=es1.size:=by
     have:=(relayAll_perm t1 es1 (Ve es1.size)).length_eq
     rw[Tq,Tq] at this;exact this
    generalize relayAll t1 es1 (Ve es1.size)=Rl at h sz2 ⊢;obtain⟨es2,t2,gv2⟩:=Rl;dsimp only at h sz2 ⊢
    have e2:((s.heap.update a (Ys es1 t1)).update a (Ys es2 t2)).get? a=some {cls:=.type "set",dict:=none,data:=.set es2 (ep+1+1) t2,slots:=#[]}:=by
     have:=UH (Ys es2 t2) e1 (by rw[Zbd es2 t2 rfl];rfl)
     rw[Zbd es2 t2 rfl] at this;exact this
    refine Ss (gw gv2 _ _ _ rfl ?_);refine Ss (wpAny_storeSet_of (s:={s with heap:=s.heap.update a (Ys es1 t1),toks:=tk}) e1 rfl ?_ (fits_of_scanBound ∅));exact SN (SN (h _ _ _ _ ((Uu ..).trans (Uu ..)) e2))
   .rw[if_neg c] at h ⊢;exact SN (SN (h _ _ _ _ (Uu ..) e1))
  refine Ss (gw gv _ _ _ rfl ?_);split
  .refine Ss ?_;rw[hashByValue_scannable 8 (show Zbw (.int i u)=true from rfl)];refine SN ?_;exact fin _ ⟨_,rfl⟩
  .refine Ss (SN ?_);exact fin _ ⟨_,rfl⟩
end
abbrev aF(b:Nat):List Nat:=(SJ 8).filter λk=>b.testBit k
abbrev bA(b k:Nat):Nat:=if (aF b).contains k then b else b+2 ^ k
def fH:∀b<256,(aF b).length<=8:=by decide +kernel
def pN:∀b<256,∀k<8,bA b k<256:=by decide +kernel
def GZ:∀b<256,∀k<8,∀j<8,(aF (bA b k)).contains j=((aF b).contains j || j == k):=by decide +kernel
abbrev RT(b k:Nat):Bool:=(aF b).contains k || ((aF b).take (VN (aF b).toArray k)++k :: (aF b).drop (VN (aF b).toArray k) == aF (b+2 ^ k) && VN (aF b).toArray k<=(aF b).length)
def M9:∀b<256,∀k<8,RT b k=true:=by decide +kernel
abbrev RU(b:Nat):Bool:=match ZaO 31 ((aF b).map λk:Nat=>(k:Int)).toArray with
 |some o=>((SJ 32).filterMap λj=>(o.getD j none).map (j,·)) == (aF b).zipIdx
 |none=>false
def Oe:∀b<256,RU b=true:=by decide +kernel
def O7:∀k<8,hashInt ((k:Nat):Int)=(k:Int):=by decide +kernel
def Pi:∀k<8,Zac ((k:Nat):Int) % 8=k/\Zac ((k:Nat):Int) % 32=k:=by decide +kernel
abbrev ER(es:Array (Int×Su))(l:List Nat):Prop:=es.size=(UD l)/\∀(i k:Nat),l[i]?=some k->∃tk,es[i]?=some ((k:Int),.int (k:Int) tk)
structure TR (led:Bool) (t:U2) (b:Nat):Prop where
 place:t.place=(aF b).toArray
 dum:t.dummies = #[]
 led:t.led=led
 plain:t.plain=true
 mask:(t.mask=7/\(aF b).length<=4)\/t.mask=31
def TR.fill{led:Bool}(T:TR led t b):t.fill=(aF b).length:=by
 unfold XM;rw[T.place,T.dum];simp
def TR.fits{led:Bool}{n:Nat}(T:TR led t b)(hb:b<256)(hn:n=(aF b).length):t.fits n=true:=by
 have l8:=fH b hb;unfold Zad;rw[T.fill,T.place];simp only[SZ,WG,beq_iff_eq,decide_eq_true_eq];rcases T.mask with⟨m,l⟩|m <;> rw[m] <;> lia
def ER.elems(R:ER es (aF b))(h8:∀k∈aF b,k<8):ElemsOf (intKind prog w) es.toList:=by
 intro e he;obtain⟨i,li,ei⟩:=Uk.mp he;have l2:i<(aF b).length:=by rw[<- R.1];simpa using li
 obtain⟨tk,et⟩:=R.2 i _ (Sk l2);have e2:es.toList[i]?=some e:=by rw[Sk li,ei]
 rw[Ts] at e2;rw[et] at e2;cases e2;refine⟨⟨((aF b)[i]:Int),by simp[intKind,Vh],?_⟩,rfl⟩;exact(O7 _ (h8 _ (Ul l2))).symm
def vm(b:Nat):∀k∈aF b,k<8:=λk hk=>by
 unfold aF at hk;exact Tv.mp (Tt.mp hk).1
def G3{k:Nat}(R:ER es l)(h:k∉l):es.toList.findIdx? (λe=>Vh (k:Int) e.2)=none:=by
 rw[VP];intro e he;obtain⟨i,li,ei⟩:=Uk.mp he;have l2:i<UD l:=by rw[<- R.1];simpa using li
 obtain⟨tk,et⟩:=R.2 i _ (Sk l2);have e2:es.toList[i]?=some e:=by rw[Sk li,ei]
 rw[Ts,et] at e2;cases e2;have ne:l[i]≠k:=λz=>h (z ▸ Ul l2)
 have : ¬ ((l[i]:Int)=(k:Int)):=by lia
 simp[Vh,this]
def G0{k:Nat}(R:ER es l)(h:k∈l):∃j,es.toList.findIdx? (λe=>Vh (k:Int) e.2)=some j:=by
 cases e:es.toList.findIdx? (λe=>Vh (k:Int) e.2) with
 |some j=>exact⟨j,rfl⟩
 |none =>
  rw[VP] at e;obtain⟨i,li,ei⟩:=Uk.mp h;obtain⟨tk,et⟩:=R.2 i k (by rw[Sk li,ei])
  have:=e ((k:Int),.int (k:Int) tk) (Sq (by rw[Ts];exact et))
  simp[Vh] at this
def Rx{led:Bool}{k:Nat}(T:TR led t b)(hk:k<8)(h:k∉aF b):t.freeSlot (k:Int)=some (k,false):=by
 have ej:(t.probeStart (k:Int)).j=k:=by
  show Zac (k:Int) % (t.mask+1)=k;rcases T.mask with⟨m,_⟩|m <;> rw[m]
  .exact(Pi k hk).1
  .exact(Pi k hk).2
 have sl:=yk T.place T.dum h;obtain⟨n,hn⟩:∃n,10*ZP t.mask=n+1:=⟨10*ZP t.mask-1,by unfold ZP;lia⟩
 unfold U2.freeSlot ZbO;rw[hn];unfold ZbO.go;rw[ej,sl];rfl
def ke{α:Type}:∀l:List α,(SJ (UD l)).filterMap (λi=>l[i]?)=l
 |[]=>rfl
 |x :: l=>by
  rw[Tu,List.range_succ_eq_map,WN];show x :: (Zb7 Nat.succ (SJ (UD l))).filterMap (λi=>(x :: l)[i]?)=x :: l;rw[List.filterMap_map];congr 1;exact ke l
def range_all{α:Type}(a:Array α):(SJ a.size).toArray.filterMap (λx=>a[x]?)=a:=by
 obtain⟨l⟩:=a;apply Array.toList_inj.mp;rw[Array.toList_filterMap];simpa using ke l
def Jb(l:List Nat):l.zipIdx.map (·.1)=l:=by simp
def Ja(l:List Nat):l.zipIdx.map (·.2)=SJ (UD l):=by simp[ZQ]
def L7{led:Bool}{b k:Nat}(hb:b<256)(hk:k<8)(R:ER es (aF b))(T:TR led t b) :
  ER (v0 es t (hashInt (k:Int)) (.int (k:Int) u) (k:Int)).1 (aF (bA b k))/\TR led (v0 es t (hashInt (k:Int)) (.int (k:Int) u) (k:Int)).2 (bA b k):=by
 rw[O7 k hk];have l8:=fH b hb;by_cases h:k∈aF b
 .obtain⟨j,e⟩:=G0 R h;have ei:bA b k=b:=by unfold bA;rw[if_pos (by simpa using h)]
  unfold v0;rw[e,ei];exact⟨R,T⟩
 .have ei:bA b k=b+2 ^ k:=by unfold bA;rw[if_neg (by simpa using h)]
  have pk:=M9 b hb k hk;unfold RT at pk;rw[show(aF b).contains k=false by simpa using h,ZbX,WG,beq_iff_eq,decide_eq_true_eq] at pk;obtain⟨p1,p2⟩:=pk;have l8':=fH (bA b k) (pN b hb k hk);rw[<- ei] at p1
  have ll:(aF (bA b k)).length=(aF b).length+1:=by
   rw[<- p1,SC,Tu,SL,Ux];lia
  generalize hp:VN (aF b).toArray k=p at p1 p2
  have put:t.put k=({t with place:=(aF (bA b k)).toArray,dummies:=#[]},p):=by
   unfold U2.put;rw[T.place,T.dum,hp];dsimp only;rw[gS _ _ _ p2,p1,if_neg (by simp[U2.has,VN,VN.go])]
  have esl:VW es p ((k:Int),.int (k:Int) u)=(es.toList.take p++((k:Int),WF (k:Int) u) :: es.toList.drop p).toArray:=by
   have:=gS es.toList p ((k:Int),WF (k:Int) u) (by rw[Tq,R.1];exact p2)
   simpa using this
  have R1:ER (VW es p ((k:Int),.int (k:Int) u)) (aF (bA b k)):=by
   refine⟨?_,λi j hj=>?_⟩
   .rw[esl,ll,<- R.1];simp;lia
   .rw[esl];rw[<- p1,xr p2] at hj;rw[Ws,xr (by rw[Tq,R.1];exact p2)];split at hj
    .rename_i c;rw[if_pos c,Ts];exact R.2 i j hj
    .rename_i c;rw[if_neg c];split at hj
     .rename_i c2;cases hj;rw[if_pos c2];exact⟨u,rfl⟩
     .rename_i c2;rw[if_neg c2,Ts];exact R.2 _ j hj
  have sz1:(VW es p ((k:Int),.int (k:Int) u)).size=(aF (bA b k)).length:=R1.1
  have ft:({t with place:=(aF (bA b k)).toArray,dummies:=#[]}:U2).fits (VW es p ((k:Int),.int (k:Int) u)).size=true:=by
   unfold Zad XM;rw[sz1];simp only[SZ,WG,beq_iff_eq,decide_eq_true_eq];refine⟨trivial,?_⟩;show(aF (bA b k)).length+0<=t.mask;rcases T.mask with⟨m,l⟩|m <;> rw[m] <;> lia
  have lay:layNew t es (k:Int) (.int (k:Int) u)=(VW es p ((k:Int),.int (k:Int) u),{t with place:=(aF (bA b k)).toArray,dummies:=#[]},false,false):=by
   unfold layNew;rw[Rx T hk h];dsimp only;rw[put];dsimp only;unfold U2.orStandIn;rw[ft];rfl
  unfold v0;rw[G3 R h,lay];dsimp only;generalize VW es p ((k:Int),.int (k:Int) u)=es1 at R1 sz1 ft
  have hs:es1.map (·.1)=((aF (bA b k)).map λk:Nat=>(k:Int)).toArray:=by
   apply Zaq;intro i;simp only[Array.getElem?_map,Ws,So];by_cases li:i<(aF (bA b k)).length
   .obtain⟨tk,et⟩:=R1.2 i _ (Sk li);rw[et,Sk li];rfl
   .rw[VA ∅,Tj ∅];rfl
  by_cases c:(!false && ({t with place:=(aF (bA b k)).toArray,dummies:=#[]}:U2).tooFull)=true
  .rw[if_pos c]
   have c2:((aF (bA b k)).length+0)*5≥t.mask*3:=by
    have c1:({t with place:=(aF (bA b k)).toArray,dummies:=#[]}:U2).tooFull=true:=by simpa using c
    unfold Zbe XM at c1;simpa using c1
   have n5:(aF (bA b k)).length=5:=by
    rcases T.mask with⟨m,l⟩|m <;> rw[m] at c2 <;> lia
   have g20:U2.sizeAbove (Ve es1.size)-1=31:=by rw[sz1,n5];decide
   have lk:=Oe (bA b k) (pN b hb k hk);unfold RU at lk
   have rel:∃mv,relayAll ({t with place:=(aF (bA b k)).toArray,dummies:=#[]}:U2) es1 (Ve es1.size)=(es1,{mask:=31,place:=(aF (bA b k)).toArray,dummies:=#[],finger:=t.finger,led:=t.led,moves:=mv,plain:=t.plain},false):=by
    cases lc:ZaO 31 ((aF (bA b k)).map λk:Nat=>(k:Int)).toArray with
    |none=>rw[lc] at lk;cases lk
    |some o =>
     rw[lc] at lk;have lz:((SJ 32).filterMap λj=>(o.getD j none).map (j,·))=(aF (bA b k)).zipIdx:=by simpa using lk
     refine⟨({t with place:=(aF (bA b k)).toArray,dummies:=#[]}:U2).movedTo 31,?_⟩;unfold relayAll U2.relaid U2.laid;rw[hs,g20,lc];simp only[Option.bind_eq_bind,Option.bind_some,lz,Jb,Ja];dsimp only[Option.pure_def];have ef:(SJ (aF (bA b k)).length).toArray.filterMap (λx=>es1[x]?)=es1:=by rw[<- sz1];exact range_all es1
     rw[ef]
     have cv:coversAll (SJ (aF (bA b k)).length).toArray es1.size=true:=by
      unfold coversAll;rw[sz1,n5];rfl
     have ft2:({mask:=31,place:=(aF (bA b k)).toArray,dummies:=#[],finger:=t.finger,led:=t.led,moves:=({t with place:=(aF (bA b k)).toArray,dummies:=#[]}:U2).movedTo 31,plain:=t.plain}:U2).fits es1.size=true:=by
      unfold Zad XM;rw[sz1];simp;lia
     rw[cv,ft2];rfl
   obtain⟨mv,rel⟩:=rel;rw[rel];exact⟨R1,rfl,rfl,T.led,T.plain,.inr rfl⟩
  .rw[if_neg c]
   have c2 : ¬ ((aF (bA b k)).length+0)*5≥t.mask*3:=λz=>c (by
    show(true && ({t with place:=(aF (bA b k)).toArray,dummies:=#[]}:U2).tooFull)=true
    unfold Zbe XM
    simpa using z)
   refine⟨R1,rfl,rfl,T.led,T.plain,?_⟩;rcases T.mask with⟨m,l⟩|m
   .refine .inl ⟨m,?_⟩;rw[m] at c2;lia
   .exact .inr m
structure kR (led:Bool) (h:Heap) (a:Addr) (b:Nat):Prop where
 b8:b<256
 at_:∃es ep t,h.get? a=some {cls:=.type "set",dict:=none,data:=.set es ep t,slots:=#[]}/\ER es (aF b)/\TR led t b
def kR.keep{led:Bool}{h':Heap}(S:kR led h a b)(k:∀o,h.get? a=some o->h'.get? a=some o):kR led h' a b:=by
 obtain⟨es,ep,t,e,r⟩:=S.at_;exact⟨S.b8,es,ep,t,k _ e,r⟩
section
variable{prog:TK}{w:Ub}{A:Uc}{E:Su->SB->Prop}{s:SB}
def eO{led:Bool}{k:Nat}{Q:Bool->SB->Prop}(S:kR led s.heap a b)(hk:k<8)(h:∀h' r tk,Vz a s.heap h'->kR led h' a (bA b k)->Q r {s with heap:=h',toks:=tk}) :
  wpAny (model prog w) A (setAdd a (.int (k:Int) u)) Q E s:=by
 obtain⟨es,ep,t,e,R,T⟩:=S.at_;have l8:=fH b S.b8;have sb:scanBound=4096:=rfl;refine L6 e (T.fits S.b8 R.1) (R.elems (vm b)) (by rw[R.1,sb];lia) λh' ep' r tk sm e'=>?_
 obtain⟨R',T'⟩:=L7 (u:=u) S.b8 hk R T;exact h h' r tk sm ⟨pN b S.b8 k hk,_,ep',_,e',R',T'⟩
abbrev jn (w:Ub):Bool:=w.params.followText "set-order"
def uz(a:Su){Q₁:Su->SB->Prop}(h:Q₁ (.ref s.heap.objs.size) {s with heap:=s.heap.push (wD (!jn w))}) :
  codeAny (model prog w) A (.call (.builtin "set.__new__") ⟨[.type "set",a],[]⟩) (wants Q₁ E) s:=by
 refine codeAny_of_tree (show wpAny _ A.in1 (do checkBuiltinCall "set.__new__" ⟨[.type "set",a],[]⟩;again (.builtin "set.__new__" ⟨[.type "set",a],[]⟩)) _ _ s from ?_);refine Ss (YJ (F.newCall_set_1 a) (SN ⟨plainId_quiet F.plain_set_new _,X5 F.entry_set_new ?_⟩));rw[XU F.plain_set_new _];unfold Vr.«set.__new__» Vr.Frozenset.newClass;have hsub:=sub_set_self;obtain⟨hp,g,d,tk,os⟩:=s;dsimp only;wp_walk;refine WJ (SN ?_);dsimp only;simp only[newObj];refine Ss (wpAny_alloc (SN (SN ?_)));exact h
end
section
variable{prog:TK}{w:Ub}{A:Uc}{E:Su->SB->Prop}{s:SB}
def Be(k:Kn){Q:Su->SB->Prop}(hh:A.handled=none)(hl:k.seq s.heap l items)(Z:Nat->Heap->Prop)
  (z0:∀h,h.get? s.heap.objs.size=some (wD (!jn w))->(∀b o,s.heap.get? b=some o->h.get? b=some o)->Z 0 h) (zk:∀i h h',Z i h->(∀b o,b≠s.heap.objs.size+1->h.get? b=some o->h'.get? b=some o)->Z i h')
  (za:∀(A':Uc) i v (s':SB) (Q:Bool->SB->Prop) (E:Su->SB->Prop),A'.units<=A.units+8->i<items.size->items[i]?=some v->Z i s'.heap->(∀r h' tk,Z (i+1) h'->(∀b,b≠s.heap.objs.size->h'.get? b=s'.heap.get? b)->Q r {s' with heap:=h',toks:=tk})->wpAny (model prog w) A' (setAdd s.heap.objs.size v) Q E s')
  (q:∀h' tk,Z items.size h'->(∀b o,b<s.heap.objs.size->s.heap.get? b=some o->h'.get? b=some o)->Q (.ref s.heap.objs.size) {s with heap:=h',toks:=tk}):wpAny (model prog w) A (call (.type "set") [.ref l]) Q E s:=by
 obtain⟨c,tl,hmro⟩:=Wj.mro;have hmade:=Wj.made;have hsub:=Wj.sub;refine wpAny_call (codeAny_of_tree ?_);show wpAny _ _ (callAny (.type "set") _) _ _ _;refine SN ⟨Code.quiet_builtin _ (by decide +kernel),X5 F.entry_type_call ?_⟩;rw[Uc.under_plain (weight_type_call_type "set" [.ref l] []) rfl];have h1:=Wj.notType;have h2:=Wj.canCreate;have hct:=F.typeCall_set_1 (.ref l)
 repeat (any_goals (first|assumption|wp_step))
 refine X9 (uz (.ref l) (E:=E) (Q₁:=λobj s₁=>∃led:Bool,led = !jn w/\obj=.ref s.heap.objs.size/\s₁ = {s with heap:=s.heap.push (wD led)}) ⟨_,rfl,rfl,rfl⟩) λr s₁ hr=>?_
 cases r with
 |error e=>exact hr
 |ok fl =>
  cases fl with
  |ret obj =>
   obtain⟨led,hled,rfl,rfl⟩:=hr;have hS:(s.heap.push (wD led)).get? s.heap.objs.size=some (wD led):=Th _ rfl;have hT:SB.TypeIs {s with heap:=s.heap.push (wD led)} (.ref s.heap.objs.size) "set":=⟨_,hS,rfl⟩
   have hli:=Wj.init.lookup;have hbi:=Wj.init.bind (.ref s.heap.objs.size)
   repeat (any_goals (first|assumption|wp_step))
   refine X9 (codeAny_call_builtin (R:=wants (λr s₂=>r=.none/\∃h' tk,s₂ = {s with heap:=h',toks:=tk}/\Z items.size h'/\(∀b o,b<s.heap.objs.size->s.heap.get? b=some o->h'.get? b=some o)) E) Wj.init.plain F.entry_set_init (check_set_init_1 hT ?_)) λr₂ s₂ hr₂=>?_
   .have Ds:l<s.heap.objs.size:=k.lt hl;have hl1:k.seq (s.heap.push (wD led)) l items:=k.Fu hl λo e=>Sy _ e
    have nI:l≠(s.heap.push (wD led)).objs.size:=by rw[VL];exact TN (ZaP Ds)
    have nS:s.heap.objs.size∉[(s.heap.push (wD led)).objs.size,l]:=by
     rw[VL];simp only[S_,VG,or_false,not_or];exact⟨TN (Y7 _),Wg Ds⟩
    have fin:∀(A':Uc) (R':Za7->SB->Prop),A'.in1.handled=none->A'.in1.units<=A.units+8->(∀h' tk,Z items.size h'->(∀b o,b<s.heap.objs.size->s.heap.get? b=some o->h'.get? b=some o)->R' (.ok (.ret .none)) {s with heap:=h',toks:=tk}) ->
      codeAny (model prog w) A' (.builtin "set.update.loop" ⟨[.ref s.heap.objs.size,.ref (s.heap.push (wD led)).objs.size],[]⟩) R' {s with heap:=(s.heap.push (wD led)).push (k.obj l)}:=by
     intro A' R' ha hu hR;refine Ft (k.walks ha _ l nI items) s.heap.objs.size nS Z (λi h h' z kp=>zk i h h' z λb o hb e=>kp b o (by rw[VL];simpa using hb) e) (λi v s' Q' E' hi hv hz hq=>za _ i v s' Q' E' hu hi hv hz hq) (items.size-0) 0 _ rfl (TV _) ⟨k.it0 _ l,k.Fu hl1 λo e=>Sy _ e⟩ (z0 _ (hled ▸ Sy _ hS) λb o e=>Sy _ (Sy _ e)) λh' tk z kp=>hR h' tk z λb o hb e=>kp b o ?_ (Sy _ (Sy _ e))
     rw[VL];simp only[S_,VG,or_false,not_or];exact⟨TN hb,TN (ZaP hb)⟩
    cases k
    .have hl2:(s.heap.push (wD led)).IsList l items:=hl1;obtain⟨ol,hol,hcl,nl,hdl⟩:=hl1;obtain⟨ocls,odict,odata,oslots⟩:=ol;simp only at hcl hdl;subst hcl;subst hdl;have hsls:=F.sub_list_set;have hslf:=F.sub_list_frozenset;have hne:(Yh "list" == Yh "dict")=false:=by decide
     unfold Vr.«set.__init__» noKeywords X6;generalize hPI:pyIter=PI;wp_walk;subst hPI;refine Kn.iter .L hl2 (Ss (wpAny_runValue (fin _ _ (by simp[hh]) (by simp) λh' tk z kp=>?_)));refine(show wpAny _ _ _ _ _ _ from SN (show wpAny _ _ (ret U8) _ _ _ from SN ⟨rfl,h',tk,rfl,z,kp⟩))
    .have hl2:(s.heap.push (wD led)).IsTuple l items:=hl1;obtain⟨ol,hol,hcl,nl,hdl⟩:=hl1;obtain⟨ocls,odict,odata,oslots⟩:=ol;simp only at hcl hdl;subst hcl;subst hdl;have hsls:=F.sub_tuple_set;have hslf:=F.sub_tuple_frozenset;have hne:(Yh "tuple" == Yh "dict")=false:=by decide
     unfold Vr.«set.__init__» noKeywords X6;generalize hPI:pyIter=PI;wp_walk;subst hPI;refine Kn.iter .T hl2 (Ss (wpAny_runValue (fin _ _ (by simp[hh]) (by simp) λh' tk z kp=>?_)));refine(show wpAny _ _ _ _ _ _ from SN (show wpAny _ _ (ret U8) _ _ _ from SN ⟨rfl,h',tk,rfl,z,kp⟩))
   .cases r₂ with
    |error e=>exact hr₂
    |ok fl₂ =>
     cases fl₂ with
     |ret r =>
      obtain⟨rfl,h',tk,rfl,hz,hk'⟩:=hr₂
      repeat (any_goals (first|assumption|wp_step))
      exact q _ _ hz hk'
     |_=>exact hr₂.elim
  |_=>exact hr.elim
abbrev d8:List Nat->Nat->Nat
 |[],b=>b
 |k :: l,b=>d8 l (bA b k)
def mL:∀(l:List Nat) (k b:Nat),d8 (l++[k]) b=bA (d8 l b) k
 |[],_,_=>rfl
 |j :: l,k,b=>mL l k (bA b j)
def gO:aF 0=[]:=by decide
def Fq(led:Bool)(h:Heap)(a:Addr)(e:h.get? a=some (wD led)):kR led h a 0:=by
 refine⟨by decide,#[],0,_,e,⟨by rw[gO];rfl,λi k hk=>by rw[gO] at hk;cases hk⟩,?_⟩;exact⟨by rw[gO];rfl,rfl,rfl,rfl,.inl ⟨rfl,by rw[gO];decide⟩⟩
def JF{items:List Su}{ks:List Nat}{Q:Su->SB->Prop}(hh:A.handled=none)(hl:s.heap.IsList l items.toArray)(hi:Wh items (ks.map λk:Nat=>(k:Int)))(h8:∀k∈ks,k<8)
  (q:∀h' tk,kR (!jn w) h' s.heap.objs.size (d8 ks 0)->(∀b o,b<s.heap.objs.size->s.heap.get? b=some o->h'.get? b=some o)->Q (.ref s.heap.objs.size) {s with heap:=h',toks:=tk}):wpAny (model prog w) A (call (.type "set") [.ref l]) Q E s:=by
 have li:UD items=UD ks:=by have:=Wh.length hi;rw[Si] at this;exact this
 refine Be .L (items:=items.toArray) hh hl (λi h=>kR (!jn w) h s.heap.objs.size (d8 (ks.take i) 0)) (λh e _=>by simpa[d8] using Fq _ h _ e) (λi h h' z k=>z.keep λo e=>k _ o (TN (Y7 _)) e) (λA' i v s' Q' E' _ Ds hv z hq=>?_) (λh' tk z k=>q h' tk (by simpa[li] using z) k);have lt:i<UD ks:=by rw[<- li];simpa using Ds
 have hk:=h8 _ (Ul lt)
 obtain⟨u,rfl⟩:∃u,v=.int ((ks[i]:Nat):Int) u:=by
  have:∀{vs:List Su} {ns:List Int} (i:Nat),Wh vs ns->∀v,vs[i]?=some v->∃n u,ns[i]?=some n/\v=.int n u:=by
   intro vs ns i h
   induction h generalizing i with
   |nil=>intro v e;cases e
   |cons n t r ih =>
    intro v e;cases i with
    |zero=>cases e;exact⟨n,t,rfl,rfl⟩
    |succ i=>exact ih i v e
  obtain⟨n,u,e1,e2⟩:=this i hi v (by simpa using hv);rw[So,Sk lt] at e1;cases e1;exact⟨u,e2⟩
 refine eO z hk λh' r tk sm z'=>?_
 refine hq r h' tk ?_ λb hb=>?_
 .show kR _ h' _ (d8 (ks.take (i+1)) 0);rw[SK,Sk lt];show kR _ h' _ (d8 (ks.take i++[ks[i]]) 0);rw[mL];exact z'
 .exact sm.2 b hb
end
namespace F7
def mB:entryFor table "set.__iter__"=some Vr.«frozenset.__iter__»:=entryFor_alias (id':="frozenset.__iter__") (by kernel_rfl) (by first|rfl|decide +kernel|(unfold ZbP;simp +decide [ZaQ])) (by decide +kernel) (by kernel_rfl)
def slot_next:Slot "set_iterator" "__next__" "set_iterator.__next__":=.of (owner:="set_iterator") (n:="__next__") (by rw[typeLookup_type,ZC];kernel_rfl) (by decide +kernel) (by decide +kernel) (by decide +kernel) (by first|exact .inl (by decide +kernel)|exact .inr (by decide +kernel)) (by rw[Xm];kernel_rfl)
def entry_next:entryFor table "set_iterator.__next__"=some Vr.«set_iterator.__next__»:=entryFor_of_tree (by kernel_rfl)
def args_next(a:Su):argsOk "set_iterator.__next__" ⟨[a],[]⟩:=by unfold argsOk;kernel_rfl
def qG:Slot "set_iterator" "__iter__" "set_iterator.__iter__":=.of (owner:="set_iterator") (n:="__iter__") (by rw[typeLookup_type,ZC];kernel_rfl) (by decide +kernel) (by decide +kernel) (by decide +kernel) (by first|exact .inl (by decide +kernel)|exact .inr (by decide +kernel)) (by rw[Xm];kernel_rfl)
def y_:entryFor table "set_iterator.__iter__"=some Vr.«dict_keyiterator.__iter__»:=entryFor_alias (id':="dict_keyiterator.__iter__") (by kernel_rfl) (by first|rfl|decide +kernel|(unfold ZbP;simp +decide [ZaQ])) (by decide +kernel) (by kernel_rfl)
def Es(a:Su):argsOk "set_iterator.__iter__" ⟨[a],[]⟩:=by unfold argsOk;kernel_rfl
end F7
abbrev Qc (h:Heap) (I S:Addr) (sl i n ep:Nat):Prop:=∃o,h.get? I=some o/\o.cls=.type "set_iterator"/\o.data=.fields #[.int (sl:Int) 0,.int (i:Int) 0,.ref S,.int (n:Int) 0,.int (ep:Int) 0]
abbrev zg (h:Heap) (S:Addr) (es:Array (Int×Su)) (ep:Nat) (t:U2):Prop:=h.get? S=some {cls:=.type "set",dict:=none,data:=.set es ep t,slots:=#[]}
section
variable{prog:TK}{w:Ub}{A:Uc}{E:Su->SB->Prop}{s:SB}{S I:Addr}{es:Array (Int×Su)}{ep:Nat}{t:U2}
def JE{Q:Su->SB->Prop} (m:zg s.heap S es ep t) (hf:t.fits es.size=true) (pl:t.plain=true) (q:Q (.ref s.heap.objs.size) {s with heap:=s.heap.push {cls:=.type "set_iterator",data:=.fields #[.int 0 0,.int 0 0,.ref S,.int (es.size:Int) 0,.int (ep:Int) 0]}}) :
  wpAny (model prog w) A (pyIter (.ref S)) Q E s:=by
 have ty:s.TypeIs (.ref S) "set":=⟨_,m,rfl⟩
 refine YH ty F.slot_set_iter (UT F.slot_set_iter ty F7.mB ?_ (F.args_set_iter_1 _));unfold Vr.«frozenset.__iter__»;refine Ss (YJ (a:=S) rfl ?_);unfold Vr.Frozenset.sizeOf;refine Ss (Ss (X8 m rfl hf (SN ?_)));rw[show setDrawn S=(do let x <- setState S;let b <- setsByText;return !b && (!x.2.2.plain && decide (x.1.size > 1))) from rfl];refine Ss (Ss (Xn m rfl hf ?_));unfold setsByText;refine Ss (Ss (WJ (SN (SN ?_))));dsimp only;rw[pl,show(!(model prog w).w.params.followText "set-order" && (!true && decide (es.size > 1)))=false by simp,if_neg (by simp)];refine Ss (SN (Ss (wpAny_setEpoch_of m rfl hf ?_)));refine Ss (UI (SN ⟨_,rfl,"set_iterator",_,⟨_,Th _ rfl,rfl⟩,F7.slot_next.lookup,?_⟩));simpa[rawInt] using q
def AY{Q:Option Su->SB->Prop}(it:Qc s.heap I S sl i es.size ep)(m:zg s.heap S es ep t)(hf:t.fits es.size=true) :
  (∀v nx,(∀(R:Option (Su×Nat)->SB->Prop) (E':Su->SB->Prop),R (some (v,nx)) s->wpAny (model prog w) A.in1 (setNext S sl i ep) R E' s)->(∀h',Qc h' I S nx (i+1) es.size ep->Vz I s.heap h'->Q (some v) {s with heap:=h'})->wpAny (model prog w) A (pyNext (.ref I)) Q E s) /\
  (A.handled=none->(∀(R:Option (Su×Nat)->SB->Prop) (E':Su->SB->Prop),R none s->wpAny (model prog w) A.in1 (setNext S sl i ep) R E' s)->(∀h',Zbo I s.heap h'->Q none {s with heap:=h'})->wpAny (model prog w) A (pyNext (.ref I)) Q E s):=by
 obtain⟨o,ho,oc,od⟩:=id it;have ty:s.TypeIs (.ref I) "set_iterator":=⟨_,ho,oc⟩
 constructor
 .intro v nx hn hq;unfold pyNext;refine Ss (XJ (U_ (name:=Xk "__next__") ty F7.slot_next (UT F7.slot_next ty F7.entry_next ?_ (F7.args_next _))));unfold Vr.«set_iterator.__next__»;refine Ss (SN (Ss (Yn ho od ?_)));dsimp only;refine Ss (X8 m rfl hf ?_);rw[if_neg (by simp)];simp only[TW];refine Ss (hn _ _ ?_);dsimp only;refine Ss (V8 ho od (by simp) ?_);have od1:(VC (·.setIfInBounds 0 (rawInt (nx:Int))) o).data=.fields #[.int (nx:Int) 0,.int (i:Int) 0,.ref S,.int (es.size:Int) 0,.int (ep:Int) 0]:=by rw[U9 od];simp[rawInt]
  have ho1:(s.heap.update I (VC (·.setIfInBounds 0 (rawInt (nx:Int))))).get? I=some (VC (·.setIfInBounds 0 (rawInt (nx:Int))) o):=UH _ ho (Wr (U9 od _));refine Ss (V8 (s:={s with heap:=s.heap.update I (VC (·.setIfInBounds 0 (rawInt (nx:Int))))}) ho1 od1 (by simp) ?_);have ho2:=UH (VC (·.setIfInBounds 1 (rawInt ((i:Int)+1)))) ho1 (Wr (U9 od1 _));have k2:Qc ((s.heap.update I (VC (·.setIfInBounds 0 (rawInt (nx:Int))))).update I (VC (·.setIfInBounds 1 (rawInt ((i:Int)+1))))) I S nx (i+1) es.size ep:=⟨_,ho2,(Xl ..).trans ((Xl ..).trans oc),by rw[U9 od1];simp[rawInt]⟩
  exact SN ⟨_,rfl,SN (hq _ k2 ((Uu ..).trans (Uu ..)))⟩
 .intro hh hn hq;unfold pyNext;refine Ss (XJ (U_ (name:=Xk "__next__") ty F7.slot_next (UT F7.slot_next ty F7.entry_next ?_ (F7.args_next _))));unfold Vr.«set_iterator.__next__»;refine Ss (SN (Ss (Yn ho od ?_)));dsimp only;refine Ss (X8 m rfl hf ?_);rw[if_neg (by simp)];simp only[TW];refine Ss (hn _ _ ?_);dsimp only;refine Ss (V8 ho od (by simp) ?_);show wpAny _ _ (newExc (.type "StopIteration") [] >>= _) _ _ _;refine Ss ?_;simp only[newExc,newTuple];refine Ss (UI ?_ (by size_fits));refine Ss (m:=firstArgMember _ _) (YJ (a:=U8) (by simp only[firstArgMember];rfl) (UI ?_ (by size_fits)));simp only[raiseNew];refine Ss (Zab ?_);rw[show A.in1.handled=none from hh];refine Ss (SN (Zbp ?_));refine Ss (XE (T:="StopIteration") (b:=true) ⟨_,Th _ rfl,rfl⟩ ZK ?_);exact SN (hq _ (((Uu ..).extBut.push _).push _))
abbrev fN(w:Ub)(S:Addr)(ep:Nat)(es:Array (Int×Su)):Array (Int×Su):=if jn w then pickOrder (w.params.setOrder S ep) es else es
abbrev slotAt(w:Ub)(l:List Nat)(i:Nat):Nat:=if jn w then 0 else if i=0 then 0 else l.getD (i-1) 0+1
def Pj:∀b<256,∀i<9,(aF b).length<i\/VN (aF b).toArray (if i=0 then 0 else (aF b).getD (i-1) 0+1)=i:=by decide +kernel
def mU{α:Type}:∀(l:List α) (i:Nat) (h:i<UD l),(l[i] :: l.eraseIdx i).Perm l
 |x :: l,0,_=>ZbQ _
 |x :: l,i+1,h=>by
  have h':i<UD l:=Nat.lt_of_succ_lt_succ h;exact(Zb4.swap x l[i] (l.eraseIdx i)).trans ((mU l i h').cons x)
def Ce{α:Type}(f:Nat->Nat):∀(n k:Nat) (left:List α) (out:Array α),n=UD left->(pickOrder.go f n k left out).toList.Perm (out.toList++left)
 |0,k,left,out,h=>by
  have:left=[]:=T0.mp h.symm
  subst this;show out.toList.Perm (out.toList++[]);rw[Vy]
 |n+1,k,left,out,h=>by
  have lt:f k % (UD left)<UD left:=ZbR _ ∅;unfold pickOrder.go;rw[Sk lt];refine(Ce f n (k+1) _ _ (by rw[ZR,if_pos lt];lia)).trans ?_;rw[Array.toList_push,Ur];refine Zb4.append_left _ ?_;exact mU left _ lt
def o9{es:Array (Int×Su)}:(fN w S ep es).toList.Perm es.toList:=by
 unfold fN;split
 .have:=Ce (w.params.setOrder S ep) es.size 0 es.toList #[] (by simp)
  simpa[pickOrder] using this
 .exact ZbQ _
def o8{es:Array (Int×Su)}:(fN w S ep es).size=es.size:=by
 have:=(o9 (w:=w) (S:=S) (ep:=ep) (es:=es)).length_eq
 simpa using this
def wH{b i:Nat}{R:Option (Su×Nat)->SB->Prop}(m:zg s.heap S es ep t)(hb:b<256)(T:TR (!jn w) t b)(hr:ER es (aF b))(hi:i<=es.size)(h:R ((fN w S ep es)[i]?.map λe=>(e.2,slotAt w (aF b) (i+1))) s) :
  wpAny (model prog w) A (setNext S (slotAt w (aF b) i) i ep) R E' s:=by
 have hf:=T.fits hb hr.1;have l8:=fH b hb;unfold setNext;refine Ss (Xn m rfl hf ?_);dsimp only;unfold setsByText;refine Ss (Ss (WJ (SN ?_)));cases bt:jn w with
 |true =>
  have bt':(model prog w).w.params.followText "set-order"=true:=bt;dsimp only;rw[bt',if_pos rfl,if_neg (by simp)];unfold setWalk;refine Ss (Ss (Xn m rfl hf ?_));dsimp only;unfold setsByText;refine Ss (Ss (WJ (SN ?_)));dsimp only;rw[bt',if_pos rfl];refine Ss (WJ (SN (SN ?_)));unfold fN slotAt at h;rw[bt] at h;unfold slotAt;rw[bt];exact h
 |false =>
  have bt':(model prog w).w.params.followText "set-order"=false:=bt;dsimp only;rw[bt',if_neg (by simp)];have sl:slotAt w (aF b) i=if i=0 then 0 else (aF b).getD (i-1) 0+1:=by unfold slotAt;rw[bt];rfl
  have sl2:slotAt w (aF b) (i+1)=(aF b).getD i 0+1:=by unfold slotAt;rw[bt];rfl
  have bl:VN t.place (slotAt w (aF b) i)=i:=by
   rw[sl,T.place];rcases Pj b hb i (by have:=hr.1;lia) with z|z
   .have:=hr.1;lia
   .exact z
  have eo:fN w S ep es=es:=by unfold fN;rw[bt];rfl
  rw[eo,sl2] at h;split
  .rename_i z;have z2:(!t.plain && decide (es.size > 1))=true:=z;rw[T.plain] at z2;cases z2
  .refine Ss (show wpAny _ _ (if (!t.led && !es.isEmpty)=true then unsupported "set:maker-not-led" else pure ()) _ _ _ from ?_);rw[T.led,bt,if_neg (by simp)];refine SN (SN ?_);rw[bl,T.place];by_cases li:i<es.size
   .have l2:i<(aF b).length:=by rw[<- hr.1];exact li
    obtain⟨tk,et⟩:=hr.2 i _ (Sk l2);rw[et] at h ⊢;rw[Ws,Sk l2];rw[Sj,Sk l2] at h;exact h
   .have en:es[i]?=none:=VA ∅;rw[en] at h ⊢;exact h
def Fp(hh:A.handled=none)(I S:Addr)(ne:S≠I){b:Nat}(hb:b<256)(T:TR (!jn w) t b)(hr:ER es (aF b)):Zbj prog w A I [I,S] [I] es.size (λi v=>∃e,(fN w S ep es)[i]?=some e/\v=e.2) (λi h=>Qc h I S (slotAt w (aF b) i) i es.size ep/\zg h S es ep t) where
 sub:=λb hb=>by rw[SO.mp hb];simp
 frame:=λ_ _ _ st hk=>⟨by obtain⟨o,e,r⟩:=st.1;exact⟨o,hk I (by simp) o e,r⟩,hk S (by simp) _ st.2⟩
 item:=λi s Q E hi st hq=>by
  have lo:(fN w S ep es).size=es.size:=o8;have ei:(fN w S ep es)[i]?=some (fN w S ep es)[i]:=by simp[lo,hi]
  refine(AY st.1 st.2 (T.fits hb hr.1)).1 (fN w S ep es)[i].2 (slotAt w (aF b) (i+1)) (λR E' h=>wH st.2 hb T hr (VU hi) (by rw[ei];exact h)) λh' k1 k2=>?_
  exact hq _ h' s.toks ⟨_,ei,rfl⟩ ⟨k1,k2.extBut S _ ne st.2⟩ λb o hb e=>k2.extBut b o (λz=>hb (by simp[z])) e
 done:=λs Q E st hq=>(AY st.1 st.2 (T.fits hb hr.1)).2 hh (λR E' h=>wH st.2 hb T hr (Sx _) (by rw[show(fN w S ep es)[es.size]?=none from VA (by rw[o8];exact Sx _)];exact h)) λh' k=>hq h' s.toks λb o hb e=>k b o (λz=>hb (by simp[z])) e
 self:=λ_ s _ _ st hq=>by
  obtain⟨o,ho,oc,od⟩:=st.1;have ty:s.TypeIs (.ref I) "set_iterator":=⟨_,ho,oc⟩
  refine YH ty F7.qG (UT F7.qG ty F7.y_ (show wpAny _ _ (ret (.ref I)) _ _ s from SN ⟨_,rfl,"set_iterator",_,ty,F7.slot_next.lookup,hq⟩) (F7.Es _))
def G4{Q:Bool->SB->Prop} (hT:s.TypeIs (.ref r) "set") (h:Q false s):wpAny (model prog w) A (Yc (.ref r)) Q E s:=by
 unfold Yc;refine Ss (wpAny_specialOf hT PySem.F.slot_set_len.lookup ?_);generalize hid:("set.__len__" : String)=id0;wp_delta;rw[show splitId id0=some ("set","__len__") from by subst hid;decide +kernel];subst hid;refine Ss (XE (T:="set") (b:=true) hT (by rw[Xm];kernel_rfl) ?_);refine wpAny_ite_split (λhab=>absurd hab (by decide)) (λ_=>?_);refine wpAny_ite_split (λ_=>?_) (λhab=>absurd (by decide +kernel) hab);refine Ss (wpAny_typeOf hT ?_);exact SN h
def MG{b:Nat} (hb:b<256) (T:TR (!jn w) t b) (hr:ER es (aF b)):ZbN prog w "set" S S es.size (λi v=>∃e,(fN w S ep es)[i]?=some e/\v=e.2) (λh=>zg h S es ep t) where
 type:=λ_ m=>⟨_,m,rfl⟩
 there:=λ_ m=>⟨Td m,Td m⟩
 keep:=λ_ _ m hk=>hk S (.inl rfl) _ m
 notList:=by decide
 notTuple:=by decide
 hint:=λ_ _ _ _ m q=>G4 ⟨_,m,rfl⟩ q
 iter:=λ_ _ hh m=>⟨_,_,(λ_ _ q=>JE m (T.fits hb hr.1) T.plain q),Fp hh _ S (TN (Td m)) hb T hr,⟨⟨_,Th _ rfl,rfl,by unfold slotAt;simp⟩,Sy _ m⟩⟩
def ints_of:∀{vs:List Su} {ns:List Int},UD vs=UD ns->(∀(j:Nat) (v:Su),vs[j]?=some v->∃n u,ns[j]?=some n/\v=WF n u)->Wh vs ns
 |[],[],_,_=>.nil
 |[],_ :: _,h,_=>by cases h
 |_ :: _,[],h,_=>by cases h
 |v :: vs,n :: ns,h,k=>by
  obtain⟨n',u,e1,rfl⟩:=k 0 v rfl;cases e1;exact .cons n u (ints_of (by simpa using h) λj v hj=>k (j+1) v hj)
def Li:∀b<256,((aF b).map λk:Nat=>(k:Int)).Pairwise (· < ·):=by decide +kernel
def j5:∀{a b:List Int},a.Perm b->a.Pairwise (·<=·)->b.Pairwise (· < ·)->a=b
 |[],b,p,_,_=>p.nil_eq
 |x :: a,[],p,_,_=>by have:=p.length_eq;cases this
 |x :: a,y :: b,p,h1,h2=>by
  obtain⟨x1,x2⟩:=Yt.mp h1;obtain⟨y1,y2⟩:=Yt.mp h2
  have e:x=y:=by
   have m1:y∈x :: a:=p.mem_iff.mpr Sv;have m2:x∈y :: b:=p.mem_iff.mp Sv;rcases S_.mp m1 with e|m1
   .exact e.symm
   .rcases S_.mp m2 with e|m2
    .exact e
    .have:=x1 y m1
     have:=y1 x m2
     lia
  subst e;rw[j5 (Zb4.cons_inv p) x2 y2]
def AX{Q:Su->SB->Prop} (hh:A.handled=none) (m:kR (!jn w) s.heap S b) (q:∀(h1 h':Heap) (tk:Nat) (D:Addr) (vs:List Su) (c:Nat),(∀b o,s.heap.get? b=some o->h1.get? b=some o)->(∀b o,h1.get? b=some o->h'.get? b=some o)->h1.objs.size<=D->h'.get? D=some (seqObj "list" (List.toArray vs) c)->Wh vs ((aF b).map λk:Nat=>(k:Int))->Q (.ref D) {s with heap:=h',toks:=tk}) :
  wpAny (model prog w) A (call (.builtin "sorted") [.ref S]) Q E s:=by
 obtain⟨es,ep,t,e,hr,T⟩:=m.at_;have l8:=fH b m.b8;have raw:zg s.heap S es ep t:=e;refine Calls.call_function_entry kind_sorted plain_sorted entry_sorted (args_sorted1 _) ?_;unfold Vr.«sorted»;refine Ss (m:=checkCount "sorted" 1 1 _) (SN ?_);refine Ss (PySem.W.kdu_collect (A:=A.in1) (MG m.b8 T hr) hh raw (by rw[hr.1,UG];lia) λh' tk acc hk hacc=>?_);have la:acc.size=es.size:=hacc.1;have lo:(fN w S ep es).size=es.size:=o8
 have ent:∀e∈es.toList,∃(k:Int) (tk:Tok),e=(k,WF k tk):=λe he=>by
  obtain⟨i,li,ei⟩:=Uk.mp he;have l2:i<(aF b).length:=by rw[<- hr.1];simpa using li
  obtain⟨tk,et⟩:=hr.2 i _ (Sk l2);have e2:es.toList[i]?=some e:=by rw[Sk li,ei]
  rw[Ts,et] at e2;cases e2;exact⟨_,tk,rfl⟩
 have hs:es.toList.map (·.1)=(aF b).map λk:Nat=>(k:Int):=by
  apply YK;intro i;rw[So,So,Ts];by_cases li:i<(aF b).length
  .obtain⟨tk,et⟩:=hr.2 i _ (Sk li);rw[et,Sk li];rfl
  .rw[VA (by rw[hr.1];lia),Tj ∅];rfl
 have hI:Wh acc.toList ((fN w S ep es).toList.map (·.1)):=ints_of (by rw[Tq,Si,Tq,la,lo]) λj v hj=>by
  rw[Ts] at hj;obtain⟨e,e1,e2⟩:=hacc.2 j v hj;obtain⟨k,tk,rfl⟩:=ent e (o9.mem_iff.mp (Sq (by rw[Ts];exact e1)));exact⟨_,tk,by rw[So,Ts,e1];rfl,e2⟩
 have l64:acc.toList.length<64:=by rw[Tq,la,hr.1];lia
 refine Ss (wpAny_newList ?_ (by rw[UG];lia));have hoL:(h'.push (seqObj "list" acc.toList.toArray 0)).get? h'.objs.size=some (seqObj "list" acc.toList.toArray 0):=Th _ rfl;refine Ss (VB (UT (s:={s with heap:=h'.push (seqObj "list" acc.toList.toArray 0),toks:=tk}) slot_list_sort ⟨_,hoL,rfl⟩ entry_list_sort (list_sort_tree hoL hI l64 λout ns' i' p' pw=>⟨_,rfl,?_⟩) (args_list_sort _)));have en:ns'=(aF b).map λk:Nat=>(k:Int):=j5 (p'.trans (by rw[<- hs];exact o9.map _)) pw (Li b m.b8)
 subst en
 have keep2:∀c o,c≠h'.objs.size->(h'.push (seqObj "list" acc.toList.toArray 0)).get? c=some o->(sortedHeap (h'.push (seqObj "list" acc.toList.toArray 0)) h'.objs.size acc.toList out).get? c=some o:=λc o hc e2=>by
  unfold sortedHeap;rw[Z7 _ _ _ _ hc];exact Sy _ (Sy _ (by rw[Z7 _ _ _ _ hc];exact e2))
 obtain⟨e1,ho1⟩:∃e1,((h'.push (seqObj "list" acc.toList.toArray 0)).update h'.objs.size (WZ λ_=>(#[]:Array Su))).get? h'.objs.size=some (seqObj "list" #[] e1):=⟨_,get?_update_seq hoL λ_=>#[]⟩
 obtain⟨c2,ho2⟩:∃c2,(sortedHeap (h'.push (seqObj "list" acc.toList.toArray 0)) h'.objs.size acc.toList out).get? h'.objs.size=some (seqObj "list" out c2):=⟨_,get?_update_seq (Sy _ (Sy _ ho1)) λ_=>out⟩
 exact SN ⟨_,rfl,q h' _ tk h'.objs.size out.toList c2 hk (λc o e2=>keep2 c o (TN (Td e2)) (Sy _ e2)) (Sx _) (by simpa using ho2) i'⟩
end
open PySem.W (Dat)
def mK:∀(ks:List Nat) (b:Nat),b<256->(∀k∈ks,k<8)->∀j,j∈aF (d8 ks b)↔j∈aF b\/j∈ks
 |[],b,_,_,j=>by simp[d8]
 |k :: ks,b,h,g,j=>by
  have hk:=g k Sv;rw[d8,mK ks (bA b k) (pN b h k hk) (λj hj=>g j (Sw _ hj)) j,S_]
  have:j∈aF (bA b k)↔j∈aF b\/j=k:=by
   by_cases j8:j<8
   .have:=GZ b h k hk j j8
    rw[Vx] at this;simpa using this
   .exact⟨λz=>absurd (vm _ _ z) j8,λz=>by
     rcases z with z|z
     .exact absurd (vm _ _ z) j8
     .exact absurd (z ▸ hk) j8⟩
  rw[this];constructor
  .rintro((z|z)|z)
   .exact .inl z
   .exact .inr (.inl z)
   .exact .inr (.inr z)
  .rintro(z|z|z)
   .exact .inl (.inl z)
   .exact .inl (.inr z)
   .exact .inr z
abbrev c9(ks:List Nat):List Nat:=(SJ 8).filter λk=>ks.contains k
def Bf{ks:List Nat}(g:∀k∈ks,k<8):aF (d8 ks 0)=c9 ks:=by
 unfold c9;have e:=mK ks 0 (by decide) g;unfold aF at e ⊢;refine ZaR λk hk=>?_
 have:=e k
 rw[Tt] at this;rw[Vx,Xy];refine⟨λz=>?_,λz=>(this.mpr (.inr z)).2⟩;rcases this.mp ⟨hk,z⟩ with y|y
 .rw[Tt] at y;simp at y
 .exact y
def nA{vs:List Su}(h:Wh vs ns):Vals (ns.map V.int) vs:=by
 induction h with
 |nil=>exact .nil
 |cons n t r ih=>exact .cons ⟨t,rfl⟩ ih
section
variable{X:Cx}
abbrev wM(K:Fg):V->Hp->VK->Prop:=λx H Q=>∃(a:Addr) (ks:List Nat),x=.ref a/\SqL K H a (ks.map λk:Nat=>.int (k:Int))/\(∀k∈ks,k<8)/\∀l,H l=none->Q (.ref l) (upd H l (.lst ((c9 ks).map λk:Nat=>.int (k:Int))))
abbrev om(K:Fg)(te:TE):TE:=λσ H Q=>te σ H λx H1=>wM K x H1 Q
def yL{p p2 pos pos2:Pos} (hc:X.calm=true) (hgl:Gl X "sorted") (hml:X.mg "sorted"=none) (hgs:Gl X "set") (hms:X.mg "set"=none) (he:PE X e te)
  (hs:starEach [e] X.env=[(false,eval e X.env)]:=by rfl) (hs2:starEach [Zb5 (.Name "set" p2) [e] [] pos2] X.env=[(false,eval (.Call (.Name "set" p2) [e] [] pos2) X.env)]:=by rfl) :
  PE X (.Call (.Name "sorted" p) [.Call (.Name "set" p2) [e] [] pos2] [] pos) (om X.K te):=by
 intro G s σ H Q I h;refine UL (c8 I hgl hml Ep ?_);refine Xz ?_ hs2 rfl;rw[hs2];refine(show wpAny _ _ (spliced ((false,eval (.Call (.Name "set" p2) [e] [] pos2) X.env) :: backTo pos [])) _ _ s from Vl ?_);refine UL (c8 I hgs hms Pl ?_);refine TQ ?_ hs rfl;rw[hs];refine(show wpAny _ _ (spliced ((false,eval e X.env) :: backTo pos2 [])) _ _ s from Vl (a_ (he G s σ H _ I h) λu s1 ⟨x,H1,I1,r1,q1⟩=>Vt ?_));obtain⟨a,ks,rfl,hq,g8,q⟩:=q1;cases r1;obtain⟨de,rv,pl,_⟩:=I1.list hq;have hl:s1.heap.IsList a de.toArray:=pl.isList;have hi:Wh de (ks.map λk:Nat=>(k:Int)):=intsAre_of (by rw[TY];exact rv);have hh:=I1.ok.hd hc;refine JF hh hl hi g8 λh' tk sm kp=>Vt ?_
 refine AX (s:={s1 with heap:=h',toks:=tk}) hh sm λh1 h2 tk2 D vs c k1 k2 lD eD iD=>?_
 have keep:∀b o,s1.heap.get? b=some o->h2.get? b=some o:=λb o e=>k2 b o (k1 b o (kp b o (Td e) e))
 rw[Bf g8] at iD;have l8:(c9 ks).length<=8:=by unfold c9;exact Ua _ _
 have lS:s1.heap.objs.size<=D:=by
  obtain⟨es,ep,t,e,_⟩:=sm.at_
  have:=Td (k1 _ _ e)
  exact Ta (VU this) lD
 refine⟨.ref D,_,I1.laid (t':=tk2) (o:=.lst ((c9 ks).map λk:Nat=>.int (k:Int))) keep lS ⟨?_,vs,c,?_,eD⟩,rfl,q D (I1.hok.fresh lS)⟩
 .rw[Si,UG];lia
 .have:=nA iD
  rw[TY] at this;exact this
abbrev ia(te:TE):TE:=λσ H Q=>te σ H λx H1=>∃n:Nat,x=.int (n:Int)/\n<=1000/\∀l,H1 l=none->Q (.ref l) (upd H1 l (.lst ((SJ n).map λk:Nat=>.int (k:Int))))
def rm{p p2 pos pos2:Pos} (hc:X.calm=true) (hgl:Gl X "list") (hml:X.mg "list"=none) (hgs:Gl X "range") (hms:X.mg "range"=none) (he:PE X e te)
  (hs:starEach [e] X.env=[(false,eval e X.env)]:=by rfl) (hs2:starEach [Zb5 (.Name "range" p2) [e] [] pos2] X.env=[(false,eval (.Call (.Name "range" p2) [e] [] pos2) X.env)]:=by rfl) :
  PE X (.Call (.Name "list" p) [.Call (.Name "range" p2) [e] [] pos2] [] pos) (ia te):=by
 intro G s σ H Q I h;refine UL (c8 I hgl hml vU ?_);refine TQ ?_ hs2 rfl;rw[hs2];refine(show wpAny _ _ (spliced ((false,eval (.Call (.Name "range" p2) [e] [] pos2) X.env) :: backTo pos [])) _ _ s from Vl ?_);refine UL (c8 I hgs hms Zao ?_);refine TQ ?_ hs rfl;rw[hs];refine(show wpAny _ _ (spliced ((false,eval e X.env) :: backTo pos2 [])) _ _ s from Vl (a_ (he G s σ H _ I h) λu s1 ⟨x,H1,I1,r1,q1⟩=>Vt ?_));obtain⟨n,rfl,hn,q⟩:=q1;obtain⟨t,rfl⟩:=r1;refine call_range_1 (Vt ?_);refine call_list_range (n:=n) (I1.ok.hd hc) (Zbl ..) (small_one ∅ ∅ ∅ ∅) (by rw[rangeSize_nat];lia) ∅ λh' tk acc c kp ha hit=>?_
 have hsz:(s1.heap.push {cls:=.type "range",data:=.fields #[.int 0 s1.toks,.int (n:Int) t,.int 1 (s1.toks+1)]}).objs.size=s1.heap.objs.size+1:=size_push' _ _
 have hi:Wh acc.toList ((SJ n).map λk:Nat=>(k:Int)):=ints_of (by rw[Tq,Si,SV];exact hit.1) λj v hj=>by
  rw[Ts] at hj;obtain⟨u,e2⟩:=hit.2 j v hj
  have lj:j<n:=by
   have:=(WA.mp hj).1
   rw[hit.1] at this;exact this
  exact⟨_,u,by rw[So,TC lj];rfl,by rw[e2];simp⟩
 have lS:s1.heap.objs.size<=(s1.heap.push {cls:=.type "range",data:=.fields #[.int 0 s1.toks,.int (n:Int) t,.int 1 (s1.toks+1)]}).objs.size:=by rw[hsz];exact XQ _
 refine⟨.ref _,_,I1.laid (t':=tk) (o:=.lst ((SJ n).map λk:Nat=>.int (k:Int))) (λb o e=>kp b o (Sy _ e)) lS ⟨?_,acc.toList,c,?_,by rw[Wz];exact ha⟩,rfl,q _ (I1.hok.fresh lS)⟩
 .rw[Si,SV,UG];lia
 .have:=nA hi
  rw[TY] at this;exact this
abbrev Qn:List V->Hp->VK->Prop:=λxs H Q=>∃i j,xs=[.int i,.int j]/\Q (.int (if j > i then j else i)) H
end
abbrev M4(K:Fg):List V->Hp->VK->Prop:=λxs H Q=>∃(a:Addr) (ns:List Int),xs=[.ref a]/\SqL K H a (ns.map V.int)/\ns≠[]/\∀m,m∈ns->(∀x∈ns,m<=x)->Q (.int m) H
section
variable{X:Cx}
def Eh(hc:X.calm=true):ff X (.builtin "min") (M4 X.K):=by
 intro G s σ H xs us Q I r h;obtain⟨a,ns,rfl,q1,ne,q⟩:=h;obtain⟨u,rfl,ru⟩:=vals1 r;cases ru;obtain⟨de,rv,p,_⟩:=I.list q1;obtain⟨l,e1,e2⟩:=mD rv
 have hl:s.heap.IsList a (intItems l.toArray):=by
  have:=p.isList
  rw[e1] at this;simpa[intItems] using this
 have ln:UD l=UD ns:=by rw[<- e2,Si]
 have pos:=V5.mpr ne;refine min_intList (I.ok.hd hc) hl (by simp;lia) λv h' tk hv hk=>?_
 obtain⟨t,rfl⟩:=intItems_at hv;obtain⟨h1,h2⟩:=argBest_lt (numAt l.toArray) (l.toArray.size-1);have el:l.toArray.toList.map (·.1)=ns:=by simpa using e2
 refine⟨.int _,H,I.kept (t':=tk) hk,⟨_,rfl⟩,q _ ?_ λx hx=>?_⟩
 .rw[numAt_eq,el];exact getD_mem (by have h3:l.toArray.size=UD l:=SZ ..;lia)
 .obtain⟨j,hj,rfl⟩:=mem_getD hx;rw[<- el,<- numAt_eq];exact h2 j (by have h3:l.toArray.size=UD l:=SZ ..;lia)
abbrev f_(ta:TA):TE:=λσ H Q=>ta σ H λvs H1=>∃a n:Nat,vs=[.int (a:Int),.int ((a+n:Nat):Int)]/\a<=1000/\n<=1000/\∀l,H1 l=none->Q (.ref l) (upd H1 l (.lst ((SJ n).map λk:Nat=>.int ((a+k:Nat):Int))))
def o7{x y:Expr} {ta:TA} {p p2 pos pos2:Pos} (hc:X.calm=true) (hgl:Gl X "list") (hml:X.mg "list"=none) (hgs:Gl X "range") (hms:X.mg "range"=none) (ha:PA X [x,y] ta)
  (hs:starEach [x,y] X.env=[(false,eval x X.env),(false,eval y X.env)]:=by rfl) (hs3:starEach [y] X.env=[(false,eval y X.env)]:=by rfl) (hs2:starEach [Zb5 (.Name "range" p2) [x,y] [] pos2] X.env=[(false,eval (.Call (.Name "range" p2) [x,y] [] pos2) X.env)]:=by rfl) :
  PE X (.Call (.Name "list" p) [.Call (.Name "range" p2) [x,y] [] pos2] [] pos) (f_ ta):=by
 intro G s σ H Q I h;refine UL (c8 I hgl hml vU ?_);refine TQ ?_ hs2 rfl;rw[hs2];refine(show wpAny _ _ (spliced ((false,eval (.Call (.Name "range" p2) [x,y] [] pos2) X.env) :: backTo pos [])) _ _ s from Vl ?_);refine UL (c8 I hgs hms Zao ?_);refine TQ (a_ (ha pos2 G s σ H _ I h) λus s1 ω=>?_) (by rw[hs,hs3]) (by rw[hs3];rfl);obtain⟨vs,H1,I1,r1,q1⟩:=ω;obtain⟨a,n,rfl,hn0,hn,q⟩:=q1;cases r1 with
 |cons r1 rr =>
  cases rr with
  |cons r2 rr =>
   cases rr;obtain⟨t,rfl⟩:=r1;obtain⟨t2,rfl⟩:=r2;refine call_range_2 (Vt ?_);refine call_list_range (n:=n) (I1.ok.hd hc) (Zbl ..) (small_one ∅ ∅ ∅ ∅) (by rw[rangeSize_nat];lia) ∅ λh' tk acc c kp ha hit=>?_
   have hsz:(s1.heap.push {cls:=.type "range",data:=.fields #[.int (a:Int) t,.int ((a+n:Nat):Int) t2,.int 1 s1.toks]}).objs.size=s1.heap.objs.size+1:=size_push' _ _
   have hi:Wh acc.toList ((SJ n).map λk:Nat=>((a+k:Nat):Int)):=ints_of (by rw[Tq,Si,SV];exact hit.1) λj v hj=>by
    rw[Ts] at hj;obtain⟨u,e2⟩:=hit.2 j v hj
    have lj:j<n:=by
     have:=(WA.mp hj).1
     rw[hit.1] at this;exact this
    exact⟨_,u,by rw[So,TC lj];rfl,by rw[e2];simp⟩
   have lS:s1.heap.objs.size<=(s1.heap.push {cls:=.type "range",data:=.fields #[.int (a:Int) t,.int ((a+n:Nat):Int) t2,.int 1 s1.toks]}).objs.size:=by rw[hsz];exact XQ _
   refine⟨.ref _,_,I1.laid (t':=tk) (o:=.lst ((SJ n).map λk:Nat=>.int ((a+k:Nat):Int))) (λb o e=>kp b o (Sy _ e)) lS ⟨?_,acc.toList,c,?_,by rw[Wz];exact ha⟩,rfl,q _ (I1.hok.fresh lS)⟩
   .rw[Si,SV,UG];lia
   .have:=nA hi
    rw[TY] at this;exact this
def sg{ta:TA}{H:Hp}{Q:VK}(h:ta σ H λvs H1=>∃a n:Nat,vs=[.int (a:Int),.int ((a+n:Nat):Int)]/\a<=1000/\n<=1000/\∀l,H1 l=none->Q (.ref l) (upd H1 l (.lst ((SJ n).map λk:Nat=>.int ((a+k:Nat):Int))))):f_ ta σ H Q:=h
end
section
variable{K:Fg}{te:TE}{σ:St}{Q:VK}{H:Hp}
nonrec def PX(K:Fg):=Mc .L K
nonrec def Dw(K:Fg):=O4 .L K
def Gk{x y u:Expr} {ta:TA}  {x1} {p pos:Pos} (hg:Gl X "zip") (hm:X.mg "zip"=none) (ha:PA X [x,y,u] ta) (hs:starEach [x,y,u] X.env=[(false,eval x X.env),(false,eval y X.env),(false,eval u X.env)]:=by rfl) (hs2:starEach [y,u] X.env=[(false,eval y X.env),(false,eval u X.env)]:=by rfl) :
  PI X (.Tuple elts x1 tp) (.Call (.Name "zip" p) [x,y,u] [] pos) (Dw X.K ta):=KF hg hm ha hs hs2
def Lu{ta:TA}{R:It->Hp->Prop}(h:ta σ H λvs H1=>∃a b c xs ys zs,vs=[.ref a,.ref b,.ref c]/\SqL K H1 a xs/\SqL K H1 b ys/\SqL K H1 c zs/\R (PX K a b c) H1):Dw K ta σ H R:=h
def zd{xs ys zs:List V}{m:Nat}(e1:UD xs=m)(e2:UD ys=m)(e3:UD zs=m)(h:∀D,H D=none->∃Pv:Nat->Hp->Prop,Pv 0 (upd H D (.lst []))/\(∀i H2,i<=m->Pv i H2->SqL K H2 a xs/\SqL K H2 b ys/\SqL K H2 c zs) /\
  (∀i x y u H2 T,xs[i]?=some x->ys[i]?=some y->zs[i]?=some u->Pv i H2->H2 T=none->HD g n te σ (.ref T) (upd H2 T (.tup [x,y,u])) D m i Pv)/\∀H2,Pv m H2->Q (.ref D) H2):we (PX K a b c) n g te σ Q H:=Eb e1 e2 e3 h
end
abbrev M5:List V->Hp->VK->Prop:=λxs H Q=>∃a ab,xs=[V.ref a]/\H a=some (.dK ab)/\Q (.int (UD ab)) H
def JT{k:a9}(h:pK k v=true):RelV (kV k) v:=by
 cases k with
 |inl i =>
  cases v <;> simp[pK,Vh] at h
  subst h;exact⟨_,rfl⟩
 |inr x =>
  cases v <;> simp[pK,Zaa] at h
  subst h;exact⟨_,rfl⟩
def r_{P:TK}{w:Ub}:∀{es:List Yg} {vs:List (a9×Su)},Pairs (bD P w) es vs->Vals (vs.map λkv=>kV kv.1) (es.map λe=>e.key)
 |_,_,.nil=>.nil
 |_,_,.cons h _ r=>.cons (JT h) (r_ r)
def pairs_len{P:TK}{w:Ub}:∀{es:List Yg} {vs:List (a9×Su)},Pairs (bD P w) es vs->UD es=UD vs
 |_,_,.nil=>rfl
 |_,_,.cons _ _ r=>congrArg (· + 1) (pairs_len r)
abbrev BN:List V->Hp->VK->Prop:=λxs H Q=>∃a ab,xs=[.ref a]/\H a=some (.dK ab)/\∀l:Addr,H l=none->Q (.ref l) (upd H l (.lst (ab.map λkv=>kV kv.1)))
def vP{X:Cx} (hc:X.calm=true):ff X (.type "list") BN:=by
 intro G s σ H xs us Q I r h;obtain⟨a,ab,rfl,ha,q⟩:=h;obtain⟨u,rfl,ru⟩:=vals1 r;cases ru;obtain⟨z,lo,vs,kv,o,es,ep,ho,ex,dt,_,pr,_⟩:=LW I.hok ha
 have ek:(ab.map λkv=>kV kv.1)=vs.map λkv=>kV kv.1:=by
  have:=congrArg (Zb7 kV) kv.keys
  rw[TY,TY] at this;exact this
 have lk:UD ab=UD vs:=by have:=congrArg UD ek;rwa [Si,Si] at this
 have sz:es.size=UD ab:=by rw[<- Tq,pairs_len pr,lk]
 refine Zbb (BK (es:=es) (ep:=ep) lo) (I.ok.hd hc) ⟨o,ho,ex,dt⟩ (by rw[sz];exact z) λh' tk acc c kp hl hit=>?_
 have acc_eq:acc.toList=es.toList.map λe=>e.key:=by
  refine YK λj=>?_
  by_cases lt:j<es.size
  .have hj:j<acc.toList.length:=by rw[Tq];rw[hit.1];exact lt
   have e1:acc.toList[j]?=some acc.toList[j]:=Sk hj;obtain⟨e,ee,ev⟩:=hit.2 j acc.toList[j] (by rw[<- Ts];exact e1);rw[e1,ev,So,Ts,ee];rfl
  .rw[Tj (by rw[Tq,hit.1];lia),Tj];rw[Si,Tq];lia
 have vals:Vals (ab.map λkv=>kV kv.1) acc.toList:=by
  rw[acc_eq,ek];exact r_ pr
 refine⟨.ref s.heap.objs.size,_,I.laid (t':=tk) kp (Sx _) (show ca X.prog X.w _ h' _ (.lst (ab.map λkv=>kV kv.1)) from⟨?_,acc.toList,c,vals,by rw[Wz];exact hl⟩),rfl,q _ (I.hok.fresh (Sx _))⟩;rw[Si];exact z
open PySem.Builtin.Str (occurrences lastOccurrence strSub subAt partsBetween)
open PySem PySem.Spec PyProof.Rows PySem.W
end L2
namespace L2
open PySem PySem.Spec PyProof.Rows
open PySem.Builtin.Str (strSub subAt occurrences)
def jr.of{sc scope:Scope}{N M ys:List Str}(h:decide (scope.kind=.function/\(∀y∈scope.names,y.2≠.cell)/\(∀y∈scope.names,y.2=.local->scope.names.lookup y.1=some .local)/\(∀y∈ys,scope.names.lookup y=some .local)/\(ys++M).Nodup/\M.length=N.length/\(∀p∈M.zip N,p.1=p.2\/(FH scope sc).lookup p.1=none)/\(∀y∈M,(FH scope sc).lookup y≠some .local)/\∀n∈scope.names,n.2=.free->sc.names.lookup n.1=some .cell)=true):jr sc N M ys scope:=by
 obtain⟨a,b,c,d,e,f,g,i,j⟩:=of_decide_eq_true h;exact⟨a,b,c,d,e,f,g,i,j⟩
abbrev P6:Expr->List Str
 |.Name x _=>[x]
 |.Tuple es _ _=>es.map λe=>match e with|.Name x _=>x|_=>YZ
 |_=>[]
section
variable{X:Cx}{x:Str}{scope:Scope}{elt iter tg cn:Expr}{pos py sp:Pos}{wi:TI}{g:TG}{tc:TT}{te:TE}{n i:Nat}{y:Str}
abbrev Sb:=@NJ X x X.N scope
abbrev R5:=@Qt X x X.N scope
abbrev R_:=@NG X scope elt iter tg pos wi g te n (P6 tg) X.N
abbrev R3:=@Nn X scope elt iter tg pos py sp wi g te i n y (P6 tg) X.N
abbrev Sa:=@NI X scope elt iter tg cn pos wi g tc te n (P6 tg) X.N
abbrev R4:=@Np X scope elt iter tg cn pos py sp wi g tc te i n y (P6 tg) X.N
end
nonrec def Kq:R2:=λx y H Q=>∃b,x=.bl b/\y=.bl true/\Q (.bl b) H
def NX:fe X (compareOp .Is) Kq:=by
 intro G s σ H x y v u Q I rx ry h;obtain⟨b,rfl,rfl,q⟩:=h;cases rx;cases ry;cases b
 .exact SN (aW I q rfl)
 .exact SN (aW I q rfl)
end L2
open L2
local macro_rules | `(tactic| fail "z")=>`(tactic| first
 |(show(0:Int)<_;omega)
 |(unfold Mh;omega)
 |(unfold CMul;omega)
 |exact⟨by decide,by decide,by decide⟩)
local macro_rules | `(tactic| fail "1")=>`(tactic| first
 |(with_reducible first|apply QW|apply OT|apply Dg)
 |((with_reducible refine' yX ?k1 ?_);(case k1=>exact rfl))
 |(with_reducible first|apply Sc|apply Q6|apply QY|apply Rg|apply Q7|apply Rc|apply Ou|apply QT|apply Ro|apply QX|apply OG|apply LB|apply OF|apply Rq|apply Q5|apply OV|apply Q4|apply OD|apply Re|apply LG|apply GU|apply OQ|apply OS|apply Ri|apply QR|apply Q8|apply QP|apply OA|apply QU|apply GT|apply OC|apply Ra|apply OO|apply LD|apply LF|apply OK|apply ON|apply OP|apply GV|apply LC|apply QN|apply Q_|apply OE|apply Rf|apply OR|apply Ox|apply Ow|apply Lz|apply OJ|apply Rm|apply Rj|apply Rh|apply LA|apply OL|apply OH|apply y6|apply Dm|apply Lv|apply Lw)
 |((with_reducible refine' vx ?k1 ?_);(case k1=>fail "z"))
 |((with_reducible refine' Q2 ?k1 ?_);(case k1=>(constructor <;> omega)))
 |((with_reducible refine' Q3 ?k1 ?_);(case k1=>(constructor <;> omega))))
local macro_rules | `(tactic| cbv)=>`(tactic| repeat fail "1")
namespace G1
open PySem L2 Fr
open PySem.W (Dat kqdOk)
nonrec def ends(Q:VK):cr:={nx:=λ_ H'=>Q .non H',rt:=Q}
abbrev iB(n:Nat)(hs:List Int):Prop:=hs.length=n/\∀x∈hs,0<=x/\x<=3
nonrec def dI(ns:List Int):Dat:=.tuple (ns.map TF)
def AccZ.ints{K:Fg}{ns:List Int}(A:AccZ K H0 l H (ns.map TF)):H l=some (.lst (ns.map V.int)):=by
 obtain⟨xs,h1,h2⟩:=A.at_;rw[RpL.ints_of h2] at h1;exact h1
def AccZ.strs{K:Fg}{ns:List Str}(A:AccZ K H0 l H (ns.map Z2)):H l=some (.lst (ns.map V.str)):=by
 obtain⟨xs,h1,h2⟩:=A.at_;rw[RpL.AH h2] at h1;exact h1
nonrec def az:Str:="abcdefghijklmnopqrstuvwxyz"
def RG:∀j:Nat,j<26->az.cps.toList[j]?=some (97+j):=by decide +kernel
def Px:az.length<=sizeLine:=by decide +kernel
def RF{i:Int}(h0:0<=i)(h1:i<26):qe az.cps.toList i=some (97+i.toNat):=by
 have e:i=((i.toNat:Nat):Int):=by lia
 have q:=aM (RG i.toNat ∅);rw[<- e] at q;exact q
abbrev Low(z:Str):Prop:=∀x∈z.cps.toList,97<=x/\x<=122
def IP(z:Str):z.cps.toList.length=z.length:=by simp[ZbK]
def Ll{c:Nat}(h0:97<=c)(h1:c<=122):Low ⟨#[c]⟩:=λx hx=>by
 have:x=c:=by simpa using hx
 lia
def Lm{lo:Option Int}(h:Low z):Low (lF z lo hi):=λx hx=>by
 have q:x∈(LM z.cps.toList hi).drop (lo.getD 0).toNat:=by simpa[lF] using hx
 have q2:=XV q;cases hi with
 |none=>exact h x q2
 |some j=>exact h x (UM q2)
def Fw(z:Str)(lo hi:Option Int):(lF z lo hi).length=(LM z.cps.toList hi).length-(lo.getD 0).toNat:=by
 show(Z3 (lo.getD 0).toNat (LM z.cps.toList hi)).toArray.size=_;rw[SZ,Ux]
abbrev PF(w:Str):Prop:=1<=w.length/\w.length<=8/\Low w
abbrev v_(ws:List Str):Prop:=ws.Nodup/\∀w∈ws,PF w
def cB{α:Type}{xs:List α}{x:α}(h:xs.Nodup)(n:x∉xs):(xs++[x]).Nodup:=by
 rw[Xo];refine⟨h,by simp,?_⟩;intro a ha b hb e;rw[SO.mp hb] at e;exact n (e ▸ ha)
def bV{α:Type}{P:α->Prop}{xs:List α}{x:α}(h:∀y∈xs,P y)(n:P x):∀y∈xs++[x],P y:=λy hy=>by
 rcases SQ.mp hy with q|q
 .exact h y q
 .rw[SO.mp q];exact n
abbrev iS(q d:Int):Prop:=0<q/\0<d/\Gd.gd q d=1/\q<=10000000000/\d<=10000000000
def ky(ns:List Int)(n:Nat):kqdOk (n+1) (dI ns)=true:=by
 show((ns.map TF).all (kqdOk n))=true;rw[Za];intro x hx;obtain⟨i,_,rfl⟩:=SE.mp hx;cases n <;> rfl
def Ea(h:dI a=dI b):a=b:=by
 have:=Dat.tuple.inj h
 exact(Zat (λx y e=>TF.inj e)).mp this
def CJ{hs:List (List Int)}:dI a∈hs.map dI↔a∈hs:=by
 rw[SE];constructor
 .rintro⟨b,hb,e⟩;rw[<- Ea e];exact hb
 .intro h;exact⟨a,h,rfl⟩
abbrev xV(n:Nat)(hs:List (List Int)):Prop:=hs.Nodup/\∀h∈hs,iB n h
end G1
namespace G1
open PySem L2 Fr
open PySem.W (Dat kqdOk)
structure Tn where
 fr:List Int
 to:List Int
 q:Int
 d:Int
abbrev dT(t:Tn):Dat:=.tuple [dI t.fr,dI t.to,dI [t.q,t.d]]
abbrev TurnOk(hs:List (List Int))(t:Tn):Prop:=t.fr∈hs/\t.to∈hs/\t.fr≠t.to/\iS t.q t.d
abbrev vF(t:Tn):List Int×List Int:=(t.fr,t.to)
structure wa (hs:List (List Int)) (ts:List Tn):Prop where
 ne:ts≠[]
 le:UD ts<=8
 nd:(ts.map vF).Nodup
 ok:∀t∈ts,TurnOk hs t
abbrev dP(p:Nat×Nat):Dat:=dI [(p.1:Int),(p.2:Int)]
def Pe(h:dP a=dP b):a=b:=by
 have e:=Ea h;have e1:(a.1:Int)=b.1:=(Vo e).1;have e2:(a.2:Int)=b.2:=(Vo (Vo e).2).1;obtain⟨a1,a2⟩:=a;obtain⟨b1,b2⟩:=b;have e1':a1=b1:=Wp e1;have e2':a2=b2:=Wp e2;rw[e1',e2']
def Oa{ps:List (Nat×Nat)}:dP a∈ps.map dP↔a∈ps:=by
 rw[SE];constructor
 .rintro⟨b,hb,e⟩;rw[<- Pe e];exact hb
 .intro h;exact⟨a,h,rfl⟩
abbrev m7(n:Nat)(p:Nat×Nat):Prop:=p.1<n/\p.2<n/\p.1≠p.2
abbrev sZ(hs:List (List Int))(p:Nat×Nat):List Int×List Int:=(hs.getD p.1 [],hs.getD p.2 [])
structure Good (hs:List (List Int)) (ps:List (Nat×Nat)) (ts:List Tn):Prop where
 nd:ps.Nodup
 le:UD ps<=8
 eq:ts.map vF=ps.map (sZ hs)
 ok:∀p∈ps,m7 (UD hs) p
 pc:∀t∈ts,iS t.q t.d
def getD_mem{hs:List (List Int)}{i:Nat}(h:i<UD hs):hs.getD i []∈hs:=by
 rw[Sj,Sk h];exact Ul h
def kH{hs:List (List Int)}(nd:hs.Nodup){i j:Nat}(hi:i<UD hs)(hj:j<UD hs)(e:hs.getD i []=hs.getD j []):i=j:=by
 rw[Sj,Sk hi,Sj,Sk hj] at e;have e':hs[i]=hs[j]:=e;have pw:=YB.mp nd;rcases Wu i j with z|z|z
 .exact absurd e' (pw i j hi hj z)
 .exact z
 .exact absurd e'.symm (pw j i hj hi z)
def nodup_map_on{α β:Type}{f:α->β}:∀{xs:List α},xs.Nodup->(∀a∈xs,∀b∈xs,f a=f b->a=b)->(xs.map f).Nodup
 |[],_,_=>VJ
 |x :: xs,h,hf=>by
  rw[TM,Uj];refine⟨λhm=>?_,nodup_map_on (Uj.mp h).2 λa ha b hb=>hf a (Sw _ ha) b (Sw _ hb)⟩;obtain⟨y,hy,e⟩:=SE.mp hm;rw[<- hf y (Sw _ hy) x Sv e] at h;exact(Uj.mp h).1 hy
def Good.turns{hs:List (List Int)}(g:Good hs ps ts)(nd:hs.Nodup)(ne:ps≠[]):wa hs ts:=by
 have len:UD ts=UD ps:=by have:=congrArg UD g.eq;simpa using this
 refine⟨λz=>?_,by rw[len];exact g.le,?_,λt ht=>?_⟩
 .rw[z] at len;exact ne (T0.mp len.symm)
 .rw[g.eq];refine nodup_map_on g.nd λa ha b hb e=>?_
  have oa:=g.ok a ha;have ob:=g.ok b hb;have e1:=kH nd oa.1 ob.1 (congrArg ZS e);have e2:=kH nd oa.2.1 ob.2.1 (congrArg Yu e);obtain⟨a1,a2⟩:=a;obtain⟨b1,b2⟩:=b;simp only at e1 e2;rw[e1,e2]
 .have hm:vF t∈ps.map (sZ hs):=by rw[<- g.eq];exact SE.mpr ⟨t,ht,rfl⟩
  obtain⟨p,hp,e⟩:=SE.mp hm;have op:=g.ok p hp;have e1:hs.getD p.1 []=t.fr:=congrArg ZS e;have e2:hs.getD p.2 []=t.to:=congrArg Yu e;refine⟨e1 ▸ getD_mem op.1,e2 ▸ getD_mem op.2.1,λz=>op.2.2 ?_,g.pc t ht⟩;rw[<- e1,<- e2] at z;exact kH nd op.1 op.2.1 z
structure iA (ws:List Str) (ts:List Tn):Prop where
 words:v_ ws
 w1:1<=UD ws
 w5:UD ws<=5
 turns:∃hs,xV (UD ws) hs/\hs.length<=8/\wa hs ts
abbrev dV(ws:List Str)(ts:List Tn):Dat:=.tuple [.tuple (ws.map Z2),.tuple (ts.map dT)]
end G1
namespace Sm
end Sm
namespace L2
nonrec def ρ(n:Nat)(sp:Sp)(t:TS):Prop:=∀⦃vs:List V⦄⦃H:Hp⦄⦃Q:VK⦄⦃E:XK⦄⦃N:List PySem.Str⦄,UD N=n->sp vs H Q E->t (G1.ends Q) (L2.start N vs) H
end L2
set_option hygiene false in
local macro_rules | `(tactic| fail "R")=>`(tactic| intro vs H Q E N hN h)
namespace Vs
open PySem L2 Fr G1 Sm
open PySem.W (Dat kqdOk)
abbrev bS(hs:List (List Int))(h:List Int):List (List Int):=if h∈hs then hs else hs++[h]
abbrev fQ(hs:List (List Int))(ts:List Tn):List (List Int):=ts.foldl (λhs t=>bS (bS hs t.fr) t.to) hs
abbrev aT(ts:List Tn):List (List Int):=fQ [] ts
def pM(hs:List (List Int))(h:List Int):(bS hs h).length<=UD hs+1:=by
 unfold bS;split
 .lia
 .simp
def pR:∀(ts:List Tn) (hs:List (List Int)),(fQ hs ts).length<=UD hs+2*UD ts
 |[],hs=>by simp[fQ]
 |t :: ts,hs=>by
  have h1:=pR ts (bS (bS hs t.fr) t.to);have h2:=pM (bS hs t.fr) t.to;have h3:=pM hs t.fr;show(fQ (bS (bS hs t.fr) t.to) ts).length<=_;rw[Tu];lia
def sk(hs:List (List Int))(ts:List Tn)(t:Tn):fQ hs (ts++[t])=bS (bS (fQ hs ts) t.fr) t.to:=by
 unfold fQ;rw[UJ];rfl
abbrev jt(h:List Int):List a9:=h.map WE
def mF(h:List Int):(jt h).map kV=h.map V.int:=by
 unfold jt;rw[TY];rfl
def zH(h:jt a=jt b):a=b:=(Zat (λx y e=>W8 e)).mp h
def rg{ab:List (List a9×V)}{hs:List (List Int)}(e:ab.map (·.1)=hs.map jt)(h:List Int)(v:V):(cA ab (jt h) v).map (·.1)=(bS hs h).map jt:=by
 have any:(ab.any λkv=>decide (kv.1=jt h))=decide (h∈hs):=by
  rw[Vx,List.any_eq_true,decide_eq_true_iff];constructor
  .rintro⟨kv,hm,q⟩
   have:kv.1∈hs.map jt:=by rw[<- e];exact SE.mpr ⟨kv,hm,rfl⟩
   obtain⟨g,hg,eg⟩:=SE.mp this;rw[of_decide_eq_true q] at eg;rw[<- zH eg];exact hg
  .intro hm
   have:jt h∈ab.map (·.1):=by rw[e];exact SE.mpr ⟨h,hm,rfl⟩
   obtain⟨kv,hk,ek⟩:=SE.mp this;exact⟨kv,hk,decide_eq_true ek⟩
 unfold cA bS;rw[any];by_cases z:h∈hs
 .rw[if_pos z,decide_eq_true z,if_pos rfl,TY,<- e];refine UV λkv _=>?_
  show(if kv.1=jt h then (kv.1,v) else kv).1=kv.1;split <;> rfl
 .rw[if_neg z,decide_eq_false z,if_neg SX,Sr,Sr,e];rfl
def C3{K:Fg}{H:Hp}:∀{ab:List (List a9×V)} {hs:List (List Int)} {bs:List Addr},ab.map (·.1)=hs.map jt->Paired (λ(p:List a9×V) b=>H b=some (.tup (p.1.map kV))) ab bs->RzL K H (bs.map V.ref) (hs.map dI)
 |[],[],_,_,.nil=>.nil
 |[],h :: hs,_,e,_=>by simp at e
 |kv :: ab,[],_,e,_=>by simp at e
 |kv :: ab,h :: hs,_,e,.cons q t=>by
  have e1:kv.1=jt h:=(Vo e).1;have e2:=(Vo e).2;rw[e1,mF] at q;exact .cons (.tup q (RpL.ints h)) (C3 e2 t)
abbrev jZ(K:Fg):Sp:=λvs H Q _=>∃(v:V) (ts:List Tn),vs=[v]/\Rz K H v (.tuple (ts.map dT))/\ts.length<=100/\∀(p:Addr) (H':Hp),AccZ K H p H' ((aT ts).map dI)->Q (.ref p) H'
abbrev jO(K:Fg):TS:=(ao (ay AB (ak 1))
 (ao (bo (mr K (aa 0)) (ak 2)
 (ao (qW (aa 1) (ar (aD K) (aa 2) (tC (.int 0))) (tC (.bl true)))
 (qW (aa 1) (ar (aD K) (aa 2) (tC (.int 1))) (tC (.bl true)))))
 (aA (bO HW (ac (aa 1) ae)))))
def pY{K:Fg}(h:Rz K H v (dT t)):∃(a:Addr) (v1 v2 v3:V),v=.ref a/\H a=some (.tup [v1,v2,v3])/\Rz K H v1 (dI t.fr)/\Rz K H v2 (dI t.to)/\Rz K H v3 (dI [t.q,t.d]):=by
 obtain⟨a,xs,e,ha,r⟩:=h.bM;cases r with
 |cons r1 r =>
  cases r with
  |cons r2 r =>
   cases r with
   |cons r3 r =>
    cases r;exact⟨a,_,_,_,e,ha,r1,r2,r3⟩
def dG{K:Fg}(h:Rz K H v (dI ns)):∃a:Addr,v=.ref a/\H a=some (.tup (ns.map V.int)):=by
 obtain⟨a,xs,e,ha,r⟩:=h.bM;rw[RpL.ints_of r] at ha;exact⟨a,e,ha⟩
def yF{K:Fg}:ρ 3 (jZ K) (jO K):=by
 fail "R";obtain⟨v,ts,rfl,rv,hl,k⟩:=h;obtain⟨a,xs,rfl,ha,rx⟩:=rv.bM;rw[L2.aI hN];walk_at "t";have lx:UD xs=UD ts:=by rw[rx.length,Si]
 unfold jO;cbv;intro d nd;cbv;refine Ov (SqT.of ((ai nd _) _ _ ha)) ?_;refine DQ (xs:=xs) (λi σ H2=>∃(ab:List (List a9×V)) (u:Option V),σ=[⇑a,⇑d,u]/\Same H H2/\H2 d=some (.dT ab)/\ab.map (·.1)=(aT (ts.take i)).map jt) ⟨[],none,rfl,ai nd _,ag,rfl⟩ ?_ ?_ ?_
 .rintro i σ H2 _ ⟨ab,u,rfl,S,ed,ek⟩;exact SqT.of (S _ _ ha)
 .rintro i z σ H2 hz ⟨ab,u,rfl,S,ed,ek⟩;obtain⟨dd,g1,g2⟩:=rx.get hz;rw[So] at g1;obtain⟨t,ht,rfl⟩:=SA.mp g1;obtain⟨at_,v1,v2,v3,rfl,hat,r1,r2,_⟩:=pY (g2.same S);obtain⟨b1,rfl,hb1⟩:=dG r1;obtain⟨b2,rfl,hb2⟩:=dG r2;have ti:i<UD ts:=(Sn.mp ht).1;have kl:UD ab=(aT (ts.take i)).length:=by have:=congrArg UD ek;simpa using this
  have hl2:=pR (ts.take i) [];rw[SL] at hl2;have kl2:UD ab<=2*i:=by rw[kl];unfold aT;simp only[WY] at hl2;lia
  have e1:=rg ek t.fr (.bl true);have e2:=rg e1 t.to (.bl true);have le1:=cC ab (jt t.fr) (.bl true);have n1:b1≠d:=mf hb1 ed (by intro z;cases z);have n2:b2≠d:=mf hb2 ed (by intro z;cases z);have n3:at_≠d:=mf hat ed (by intro z;cases z);cbv;refine aG (SqT.of hat) (v:=.ref b1) rfl ?_;refine⟨d,_,rfl,DPut.t ed (k:=jt t.fr) (by rw[mF];exact hb1) (am ∅),?_⟩;cbv;refine aG (SqT.of (by rw[aB n3];exact hat)) (v:=.ref b2) rfl ?_;refine⟨d,_,rfl,DPut.t ag (k:=jt t.to) (by rw[mF,aB n2];exact hb2) (am ∅),?_⟩;rw[Jh];refine⟨_,_,rfl,λb o q=>?_,ag,?_⟩
  .rw[aB (aq q nd)];exact S _ _ q
  .rw[e2];congr 1;have et:ts.take (i+1)=ts.take i++[t]:=by rw[SK,ht];rfl
   rw[et];exact(sk [] (ts.take i) t).symm
 .rintro σ H2 ⟨ab,u,rfl,S,ed,ek⟩;rw[lx,SD (Sx _)] at ek;cbv;refine⟨d,ab,rfl,ed,λl bs nl pr=>?_⟩;have S2:=ai nl (.lst (bs.map V.ref));exact k l _ ⟨S.trans S2,S.free nl,_,ag,(C3 ek pr).same S2⟩
abbrev c_(K:Fg):Sp:=λvs H Q _=>∃(v:V) (ws:List Str) (ts:List Tn),vs=[v]/\Rz K H v (dV ws ts)/\ts.length<=100/\∀(p:Addr) (H':Hp),AccZ K H p H' ((aT ts).map dI)->Q (.ref p) H'
def gA{K:Fg}(h:Rz K H v (dV ws ts)):∃(a:Addr) (v1 v2:V),v=.ref a/\H a=some (.tup [v1,v2])/\Rz K H v1 (.tuple (ws.map Z2))/\Rz K H v2 (.tuple (ts.map dT)):=by
 obtain⟨a,xs,e,ha,r⟩:=h.bM;cases r with
 |cons r1 r =>
  cases r with
  |cons r2 r =>
   cases r;exact⟨a,_,_,e,ha,r1,r2⟩
abbrev tY(K:Fg):TS:=(aA (aw (jZ K) [] E0 (ac (ar (aD K) (aa 0) (tC (.int 1))) ae)))
def F2{K:Fg}:ρ 1 (c_ K) (tY K):=by
 fail "R";obtain⟨v,ws,ts,rfl,rv,hl,k⟩:=h;obtain⟨a,v1,v2,rfl,ha,r1,r2⟩:=gA rv;rw[L2.aI hN];walk_at "t";unfold tY;cbv;refine aG (SqT.of ha) (v:=v2) rfl ?_;exact⟨v2,ts,rfl,r2,hl,k⟩
end Vs
namespace G2
open PySem L2 Fr G1
open PySem.W (Dat kqdOk)
abbrev Sg(n:Int):Prop:=0<=n/\n<2147483587
abbrev fR:Sp:=λvs H Q _=>∃c p:Int,vs=[.int c,.int p]/\0<=p/\p<=1000/\∀m:Int,Sg m->Q (.int m) H
nonrec def Fa(K:Fg):TS:=(ao (ay (ar a6 (ar bc (ar bc (ar (rI CMul λi j=>.int (i*j)) (aa 2) (aa 2)) (ar (rI CMul λi j=>.int (i*j)) (tC (.int 48271)) (aa 1))) (tC (.int 7))) (tC (.int 2147483629))) (ak 2))
 (aA (ar a6 (ar bc (ar (rI CMul λi j=>.int (i*j)) (aa 2) (aa 2)) (tC (.int 69621))) (tC (.int 2147483587)))))
abbrev Ac(K:Fg):TS:=(ao (ay (ar a6 (ar bc (ar bc (ar (rI CMul λi j=>.int (i*j)) (ar a6 (aa 0) (tC (.int 2147483629))) (tC (.int 16807))) (ar (rI CMul λi j=>.int (i*j)) (tC (.int 69621)) (aa 1))) (tC (.int 11))) (tC (.int 2147483629))) (ak 2))
 (Fa K))
def J2{K:Fg}:ρ 3 fR (Ac K):=by
 fail "R";obtain⟨c,p,rfl,h0,h1,k⟩:=h;rw[L2.aI hN];walk_at "t";unfold Ac;cbv;generalize hx:(c % 2147483629*16807+69621*p+11) % 2147483629=x;have x0:0<=x/\x<2147483629:=by lia
 cbv;generalize hy:(x*x+48271*p+7) % 2147483629=y;have y0:0<=y/\y<2147483629:=by lia
 cbv;exact k _ ⟨∅,∅⟩
abbrev Ar(K:Fg):TS:=(ao (eM (aK (ar HV (aa 1) (tC (.int 0))))
 (MB 0 1 (ac (aa 1) (ac (ar Km (aa 0) (aa 1)) ae))))
 (aA (bO M8 (ac (aa 0) ae))))
def J_{K:Fg}:ρ 2 oP (Ar K):=by
 fail "R";obtain⟨a,b,rfl,k⟩:=h;rw[L2.aI hN];walk_at "t";unfold Ar
 refine js (λσ H'=>H'=H/\∃i j:Int,σ=[↥i,↥j]/\Gd.gd i j=Gd.gd a b)
  (λσ _=>match σ with | [_,↥j]=>j.natAbs|_=>0) ⟨rfl,a,b,rfl,rfl⟩ ?_ ?_
 .rintro σ H' ⟨rfl,i,j,rfl,e⟩;refine⟨_,rfl,rfl,_,rfl,O0 (λhj=>?_) (λhj=>?_)⟩
  .refine⟨_,rfl,_,rfl,_,rfl,_,_,rfl,rfl,hj,_,_,rfl,⟨rfl,j,i.fmod j,rfl,(Gd.DG i j).trans e⟩,?_⟩;exact Gd.DH hj
  .subst hj;refine⟨_,rfl,_,rfl,?_⟩;rw[Gd.IB,e];exact k
 .rintro σ H' R R' h ⟨v,e,sc,c,ec,q⟩;exact⟨v,e,sc,c,ec,h _ _ q⟩
abbrev ib(K:Fg):Sp:=λvs H Q _=>∃a b:Int,vs=[.int a,.int b]/\∀(p:Addr) (q d:Int) (H':Hp),Same H H'->iS q d->Rz K H' (.ref p) (dI [q,d])->Q (.ref p) H'
def p9:(10:Int) ^ (9:Int).toNat=1000000000:=by decide +kernel
def Rv:Gd.gd 1 1=1:=by decide +kernel
abbrev gF(K:Fg):Sp:=λvs H Q _=>∃n m:Int,vs=[.int n,.int m]/\0<=n/\1<=m/\m<=5/\∀(p:Addr) (H':Hp) (ws:List Str),Same H H'->v_ ws->UD ws=m.toNat->Rz K H' (.ref p) (.tuple (ws.map Z2))->Q (.ref p) H'
def Jc:∀j:Nat,j<4->(lF "xyz" none (some (j:Int))).length<=3/\Low (lF "xyz" none (some (j:Int))):=by
 intro j hj;have sl:=Fw ("xyz":Str) none (some (j:Int));have l3:(("xyz":Str)).length=3:=by decide +kernel
 refine⟨?_,Lm ?_⟩
 .rw[sl];simp only[LM,SL,IP,l3,Option.getD];lia
 .intro x hx
  have:(("xyz":Str)).cps.toList=[120,121,122]:=by decide +kernel
  rw[this] at hx;simp only[S_,VG,or_false] at hx;lia
def kQ(a b:Str):(a++b).cps.toList=a.cps.toList++b.cps.toList:=by
 show(a.cps++b.cps).toList=_;exact Array.toList_append
def CP(h1:Low a)(h2:Low b):Low (a++b):=λx hx=>by
 rw[kQ] at hx;rcases SQ.mp hx with q|q
 .exact h1 x q
 .exact h2 x q
nonrec def x6 (K:Fg):TS:=(bF (dJ K "list" aJ (aa 3) (ac (ar Ks (ar Ks (aa 5) (HL M2 (tC (.str "xyz")) f9 (ot (ar a6 (ar cI (aa 0) (tC (.int 26))) (tC (.int 4)))))) (ar Ki (aa 5) (ar a6 (ar cI (aa 0) (tC (.int 104))) (tC (.int 2))))) ae)))
nonrec def x5(K:Fg):TS:=(ao (bo (cZ (ac (aa 1) ae)) (ak 4)
 (ao (ay (ar Ko (aa 2) (ar a6 (ar bc (aa 0) (ar (rI CMul λi j=>.int (i*j)) (tC (.int 5)) (aa 4))) (tC (.int 26)))) (ak 5))
 (x6 K)))
 (aA (bO (eT K) (ac (aa 3) ae))))
abbrev nN (K:Fg):TS:=(ao (ay (tC (.str "abcdefghijklmnopqrstuvwxyz")) (ak 2))
 (ao (ay (bK ae) (ak 3))
 (x5 K)))
def Bu{K:Fg}:ρ 6 (gF K) (nN K):=by
 fail "R";obtain⟨n,m,rfl,n0,m1,m5,k⟩:=h;rw[L2.aI hN];walk_at "t";unfold nN;cbv;refine⟨by decide,λl nl=>?_⟩;cbv
 refine bR (λi σ H2=>∃(ws:List Str) (v4 v5:Option V),σ=[↥n,↥m,some (.str az),⇑l,v4,v5]/\AccZ K H l H2 (ws.map Z2)/\ws.length=i/\v_ ws /\
   ∀(j:Nat) (w:Str),ws[j]?=some w->w.cps.toList[0]?=some (97+((n+5*(j:Int)) % 26).toNat))
  ⟨[],none,none,rfl,AccZ.start (Same.refl _) nl,rfl,⟨VJ,by simp⟩,by simp⟩ ?_ ?_
 .rintro i σ H2 hi ⟨ws,v4,v5,rfl,A,hl,hw,hj⟩;have e0:(0:Int)+(i:Int)=(i:Int):=by lia
  rw[e0];have f0:=U6 (n+5*(i:Int)) (b:=26) ∅;have f1:=UO (n+5*(i:Int)) (b:=26) ∅;cbv;refine Q9 Px (RF f0 f1) ?_;have lf:=Ll (c:=97+((n+5*(i:Int)) % 26).toNat) ∅ ∅;have len1:(⟨#[97+((n+5*(i:Int)) % 26).toNat]⟩:Str).length=1:=rfl;have hd1:(⟨#[97+((n+5*(i:Int)) % 26).toNat]⟩:Str).cps.toList[0]?=some (97+((n+5*(i:Int)) % 26).toNat):=rfl;generalize hf:(⟨#[97+((n+5*(i:Int)) % 26).toNat]⟩:Str)=fw at lf len1 hd1 ⊢;cbv;refine⟨A.ty,?_⟩;cbv;have j0:0<=n / 26 % 4:=by lia
  have ej:n / 26 % 4=(((n / 26 % 4).toNat:Nat):Int):=by lia
  have xc:=Jc (n / 26 % 4).toNat ∅;rw[<- ej] at xc;refine⟨_,rfl,by decide +kernel,trivial,j0,?_⟩;generalize lF "xyz" none (some (n / 26 % 4))=mid at xc ⊢;refine Ix (by rw[len1,show sizeLine=16777216 by decide];lia) ?_;cbv;refine Oy ∅ ?_;generalize he:(if n / 104 % 2=0 then YZ else fw)=tl
  have tlo:tl.length<=1/\Low tl:=by
   rw[<- he];split
   .exact⟨by decide,λx hx=>by cases hx⟩
   .exact⟨∅,lf⟩
  have lnew:(fw++mid++tl).length=fw.length+mid.length+tl.length:=by rw[Zae,Zae]
  refine Ix (by rw[Zae,len1,show sizeLine=16777216 by decide];lia) ?_;cbv;refine cx A (.str _) (am (by rw[Si];lia)) λH3 A3 _ _ _=>?_
  have hd2:(fw++mid++tl).cps.toList[0]?=some (97+((n+5*(i:Int)) % 26).toNat):=by
   rw[kQ,kQ,Ur,Tx (by rw[IP,len1];lia)];exact hd1
  cbv;refine⟨ws++[fw++mid++tl],_,_,rfl,by rw[Sr];exact A3,by simp[hl],⟨cB hw.1 λhx=>?_,bV hw.2 ⟨∅,∅,CP (CP lf xc.2) tlo.2⟩⟩,λj w e=>?_⟩
  .obtain⟨j,hj1,hj2⟩:=Uk.mp hx;have g:=hj j _ (by rw[Sk hj1,hj2]);rw[hd2] at g;have g':=SU g;omega
  .by_cases lt:j<UD ws
   .rw[Tx lt] at e;exact hj j w e
   .rw[TH ∅] at e
    have z:j-UD ws=0:=by
     rcases W4 (j-UD ws) with z|z
     .exact z
     .rw[Tj (by simp;lia)] at e;cases e
    rw[z] at e;have e':fw++mid++tl=w:=by simpa using e
    have ej2:j=i:=by lia
    rw[<- e',ej2];exact hd2
 .rintro σ H2 ⟨ws,v4,v5,rfl,A,hl,hw,hj⟩;have e:=AccZ.strs A;cbv;refine iP (SqL.of e) λp np=>?_
  exact k p _ ws (A.same.trans (ai np _)) hw hl (.tup ag (RpL.strs ws))
abbrev uu(K:Fg):Sp:=λvs H Q _=>∃(c k m t:Int) (pl:Bool),vs=[.int c,.int k,.int m,.int t,.bl pl]/\0<=k/\k<=100/\0<=m/\m<=5/\2<=t/\t<=4/\∀(p:Addr) (H':Hp) (hs:List Int),Same H H'->iB m.toNat hs->Rz K H' (.ref p) (dI hs)->Q (.ref p) H'
nonrec def Am(K:Fg):TS:=(a4 (tB (aa 4))
 (ao (bF (dJ K "list" aJ (aa 6) (ac (ar a6 (aa 5) (aa 3)) ae)))
 (ay (ar cI (aa 5) (aa 3)) (ak 5)))
 (bF (dJ K "list" aJ (aa 6) (ac (ar a6 (aw fR [] E0 (ac (aa 0) (ac (ar bc (ar (rI CMul λi j=>.int (i*j)) (tC (.int 5)) (aa 1)) (aa 7)) ae))) (aa 3)) ae))))
nonrec def Al(K:Fg):TS:=(ao (a4 (aK (ar zm (aa 1) (tC (.int 5))))
 (ay (ar cI (aa 0) (tC (.int 1024))) (ak 5))
 be)
 (ao (ay (bK ae) (ak 6))
 (ao (bo (cZ (ac (aa 2) ae)) (ak 7)
 (Am K))
 (aA (bO (eT K) (ac (aa 6) ae))))))
abbrev tZ(K:Fg):TS:=(ao (ay (aa 0) (ak 5))
 (Al K))
def F3{K:Fg}:ρ 8 (uu K) (tZ K):=by
 fail "R";obtain⟨c,kk,m,t,pl,rfl,k0,k1,m0,m5,t2,t4,k⟩:=h;rw[L2.aI hN];walk_at "t";unfold tZ;cbv;have rest:∀z0:Int,(ao (ay (bK ae) (ak 6)) (ao (bo (cZ (ac (aa 2) ae)) (ak 7)
 (a4 (tB (aa 4))
 (ao (bF (dJ K "list" aJ (aa 6) (ac (ar a6 (aa 5) (aa 3)) ae)))
 (ay (ar cI (aa 5) (aa 3)) (ak 5)))
 (bF (dJ K "list" aJ (aa 6) (ac (ar a6 (aw fR [] E0 (ac (aa 0) (ac (ar bc (ar (rI CMul λi j=>.int (i*j)) (tC (.int 5)) (aa 1)) (aa 7)) ae))) (aa 3)) ae)))))
 (aA (bO (eT K) (ac (aa 6) ae))))) (ends Q) [↥c,↥kk,↥m,↥t,some (.bl pl),↥z0,none,none] H:=by
  intro z0;cbv;refine⟨by decide,λl nl=>?_⟩;cbv;refine bR (λi σ H2=>∃(ns:List Int) (z:Int) (v:Option V),σ=[↥c,↥kk,↥m,↥t,some (.bl pl),↥z,⇑l,v]/\AccZ K H l H2 (ns.map TF)/\iB i ns) ⟨[],z0,none,rfl,AccZ.start (Same.refl _) nl,rfl,by simp⟩ ?_ ?_
  .rintro i σ H2 hi ⟨ns,z,v,rfl,A,hl,hb⟩
   have one:∀x:Int,iB (i+1) (ns++[x % t]):=λx=>⟨by simp[hl],λy hy=>by
    rcases SQ.mp hy with q|q
    .exact hb y q
    .rw[SO.mp q]
     have e1:=U6 x (b:=t) ∅
     have e2:=UO x (b:=t) ∅
     exact⟨∅,∅⟩⟩
   cbv;cases pl with
   |true =>
    cbv;refine⟨A.ty,?_⟩;cbv;refine cx A (.int _) (am (by rw[Si];lia)) λH3 A3 _ _ _=>?_
    cbv;exact⟨ns++[z % t],_,_,rfl,by simpa using A3,one z⟩
   |false =>
    cbv;refine⟨A.ty,?_⟩;cbv;refine⟨c,5*kk+(0+(i:Int)),rfl,∅,∅,λx hx=>?_⟩;cbv;refine cx A (.int _) (am (by rw[Si];lia)) λH3 A3 _ _ _=>?_
    cbv;exact⟨ns++[x % t],_,_,rfl,by simpa using A3,one x⟩
  .rintro σ H2 ⟨ns,z,v,rfl,A,hh⟩;cbv;have e:=AccZ.ints A;refine iP (SqL.of e) λp np=>?_
   exact k p _ ns (A.same.trans (ai np _)) hh (.tup ag (RpL.ints ns))
 refine aZ (λ_=>?_) (λ_=>?_)
 .fail "1";fail "1";fail "1";fail "1";fail "1";fail "1";exact rest _
 .exact rest _
def qg{K:Fg}(S:Same H H3)(A:AccZ K H3 l H' ds):AccZ K H l H' ds:=⟨S.trans A.same,S.free A.new,A.at_⟩
abbrev eN(h1:Int)(m:Nat):List Int:=(SJ m).map λj=>if j=0 then (if decide (h1=0)=true then 1 else 0) else 0
abbrev ul(K:Fg):Sp:=λvs H Q _=>∃(a:Addr) (ns:List Int) (t m s tp:Int) (pl:Bool),vs=[.ref a,.int t,.int m,.int s,.int tp,.bl pl]/\SqL K H a (ns.map V.int)/\0<=t/\1<=m/\m<=5/\2<=s/\s<=8/\2<=tp/\tp<=4 /\
 ∀(p:Addr) (H':Hp) (hs:List (List Int)),AccZ K H p H' (hs.map dI)->xV m.toNat hs->2<=UD hs->UD hs<=8->Q (.ref p) H'
nonrec def zX(K:Fg):TS:=(ao (ay (aw (uu K) [] E0 (ac (aw (fS K) [] E0 (ac (aa 0) (ac (ar bc (aa 1) (ar a6 (aa 7) (tC (.int 6)))) ae))) (ac (aa 7) (ac (aa 2) (ac (aa 4) (ac (aa 5) ae)))))) (ak 8))
 (a4 (aK (ar (i_ K true) (aa 8) (aa 6)))
 (bF (dJ K "list" aJ (aa 6) (ac (aa 8) ae)))
 be))
nonrec def zW (K:Fg):TS:=(bF (dJ K "list" aJ (aa 6) (ac (bO (eT K) (ac (ck (cZ (ac (aa 2) ae)) (bO Kr (ac (AE (ar ja (aa 0) (tC (.int 0))) (ar ja (ar (aD K) (ar (bP K) (aa 7) (tC (.int 0))) (tC (.int 0))) (tC (.int 0)))) ae))) ae)) ae)))
abbrev tN(K:Fg):TS:=(ao (ay (bK ae) (ak 6))
 (ao (bo (cZ (ac (aa 3) ae)) (ak 7)
 (zX K))
 (ao (a4 (aK (ar ja (bO (bz K) (ac (aa 6) ae)) (tC (.int 1))))
 (zW K)
 be)
 (aA (aa 6)))))
def FT{K:Fg}:ρ 9 (ul K) (tN K):=by
 fail "R";obtain⟨a,ns,t,m,s,tp,pl,rfl,hS,t0,m1,m5,s2,s8,p2,p4,k⟩:=h;rw[L2.aI hN];walk_at "t";unfold tN;cbv;refine⟨by decide,λl nl=>?_⟩;cbv
 refine bR (λi σ H2=>∃(hs:List (List Int)) (v7 v8:Option V),σ=[⇑a,↥t,↥m,↥s,↥tp,some (.bl pl),⇑l,v7,v8]/\AccZ K H l H2 (hs.map dI)/\hs.length<=i/\xV m.toNat hs/\(0<i->hs≠[]))
  ⟨[],none,none,rfl,AccZ.start (Same.refl _) nl,Sx _,⟨VJ,by simp⟩,by simp⟩ ?_ ?_
 .rintro i σ H2 hi ⟨hs,v7,v8,rfl,A,hl,hp,_⟩;cbv;refine⟨a,ns,t+(0+(i:Int)) % 6,rfl,A.same.seq hS,∅,?_⟩;generalize cellOf ns (t+(0+(i:Int)) % 6)=c1;cbv;refine⟨c1,0+(i:Int),m,tp,pl,rfl,∅,∅,∅,∅,p2,p4,λph H4 h S4' oh rh=>?_⟩;have A4:=A.on S4';cbv;refine gR rh.rep A4.rep (λe he=>by obtain⟨b,_,rfl⟩:=SE.mp he;exact ky b 7) (ky h 7) (λnm=>?_) (λmm=>?_)
  .cbv;refine⟨A4.ty,?_⟩;cbv;refine cx A4 rh (am (by rw[Si];lia)) λH5 A5 _ _ _=>?_
   cbv;exact⟨hs++[h],_,_,rfl,by rw[Sr];exact A5,by simp;lia,⟨cB hp.1 λz=>nm (CJ.mpr z),bV hp.2 oh⟩,by simp⟩
  .cbv;exact⟨hs,_,_,rfl,A4,∅,hp,λ_ z=>by rw[z] at mm;cases mm⟩
 .rintro σ H2 ⟨hs,v7,v8,rfl,A,hl,hp,hne⟩;have ne:=hne ∅;obtain⟨xs,sx,lx,rx⟩:=A.sq;rw[Si] at lx;cbv;refine bH sx ?_;cbv;refine aZ (λfew=>?_) (λfew=>?_)
  .have l1:UD hs=1:=by lia
   obtain⟨h,rfl⟩:∃x,hs=[x]:=US.mp l1;have oh:=hp.2 h (by simp);obtain⟨h1,hr,eh⟩:∃h1 hr,h=h1 :: hr:=UC (by have:=oh.1;lia);obtain⟨v,ev,rv⟩:=RpL.get' (i:=0) rx (d:=dI h) rfl;obtain⟨ah,ys,e1,sh,rh⟩:=rv.Ms;cases e1;cases RpL.ints_of rh;cbv;refine⟨A.ty,?_⟩;cbv;refine bU λDl nD=>⟨λj H4=>AccZ K H2 Dl H4 ((eN h1 j).map TF),AccZ.start (Same.refl _) nD,?_,?_⟩
   .intro j H4 hj B
    have put:∀x:Int,x=(if j=0 then (if decide (h1=0)=true then 1 else 0) else 0)->jq Dl m.toNat j (λj H4=>AccZ K H2 Dl H4 ((eN h1 j).map TF)) (.int x) H4:=by
     intro x ex;refine aH hj (B.bG (.int x) (am ?_) λH5 B5=>?_)
     .rw[Si];unfold eN;rw[Si,SV];lia
     .show AccZ K H2 Dl H5 ((eN h1 (j+1)).map TF);unfold eN;rw[U5,Sr,Sr,W5,W5,<- ex];exact B5
    cbv;refine aZ (λj0=>?_) (λj0=>?_)
    .cbv;refine bX (B.same.seq sx) (aM (j:=0) ev) ?_;cbv;refine aG (B.same.seqT sh) (v:=.int h1) (aM (j:=0) (by rw[eh];rfl)) ?_;cbv;refine put _ ?_;rw[if_pos (show j=0 by lia)]
    .cbv;refine put _ ?_;rw[if_neg (show ¬ j=0 by lia)];rfl
   .intro H4 B;have eB:=AccZ.ints B;cbv;refine iP (SqL.of eB) λp np=>?_
    cbv;have Sp:=ai np (.tup ((eN h1 m.toNat).map V.int));have A5:=(A.on B.same).on Sp;refine cx A5 (d:=dI (eN h1 m.toNat)) (.tup ag (RpL.ints _)) (am (by simp)) λH6 A6 _ _ _=>?_
    cbv
    have e0:(eN h1 m.toNat)[0]?=some (if decide (h1=0)=true then 1 else 0):=by
     unfold eN;rw[So,TC ∅];rfl
    refine k l H6 ([h]++[_]) (by rw[Sr];exact A6) ⟨cB hp.1 λz=>?_,bV hp.2 ⟨?_,λx hx=>?_⟩⟩ (by simp) (by simp)
    .have z':=SO.mp z;rw[z',eh] at e0;have z2:h1=(if decide (h1=0)=true then 1 else 0):=SU e0;by_cases h10:h1=0
     .rw[decide_eq_true h10] at z2;simp at z2;lia
     .rw[decide_eq_false h10] at z2;simp at z2;lia
    .unfold eN;rw[Si,SV]
    .unfold eN at hx;obtain⟨j,_,rfl⟩:=SE.mp hx;split
     .split <;> decide
     .decide
  .cbv
   have:0<UD hs:=V5.mpr ne
   exact k l H2 hs A hp ∅ ∅
abbrev IN(p:Int×Int):Dat:=dI [p.1,p.2]
abbrev FP(s:Int)(p:Int×Int):Prop:=0<=p.1/\p.1<s/\0<=p.2/\p.1≠p.2
abbrev oH(K:Fg):Sp:=λvs H Q _=>∃(a:Addr) (ns:List Int) (t s kd:Int) (pl:Bool),vs=[.ref a,.int t,.int s,.int kd,.bl pl]/\SqL K H a (ns.map V.int)/\0<=t/\2<=s/\s<=8/\0<=kd/\kd<=3 /\
 ∀(p:Addr) (H':Hp) (ps:List (Nat×Nat)),AccZ K H p H' (ps.map dP)->ps.Nodup->UD ps<=8->ps≠[]->(∀q∈ps,m7 s.toNat q)->Q (.ref p) H'
nonrec def yg(K:Fg):TS:=(ao (a4 (oA (aK (ar ja (aa 3) (tC (.int 3)))) (aK (ar zm (aa 2) (tC (.int 3)))))
 (bF (dJ K "list" aJ (aa 5) (ac (bC (ac (aa 6) (ac (ar bc (ar (rI CMul λi j=>.int (i*j)) (ar cI (aa 6) (tC (.int 2))) (tC (.int 2))) (ar a6 (ar bc (aa 6) (tC (.int 1))) (tC (.int 2)))) ae))) ae)))
 (a4 (aK (ar zm (aa 3) (tC (.int 0))))
 (bF (dJ K "list" aJ (aa 5) (ac (bC (ac (aa 6) (ac (aa 7) ae))) ae)))
 be))
 (a4 (aK (ar ja (aa 3) (tC (.int 2))))
 (bF (dJ K "list" aJ (aa 5) (ac (bC (ac (aa 7) (ac (aa 6) ae))) ae)))
 be))
nonrec def yf(K:Fg):TS:=(ao (a4 (tB (aa 4))
 (ao (ay (ar a6 (ar a6 (ar cI (aa 8) (tC (.int 5))) (tC (.int 8))) (aa 2)) (ak 9))
 (ay (ar a6 (ar a6 (ar cI (aa 8) (tC (.int 40))) (tC (.int 8))) (ar kf (aa 2) (tC (.int 1)))) (ak 10)))
 be)
 (bF (dJ K "list" aJ (aa 5) (ac (bC (ac (aa 9) (ac (ar a6 (ar bc (ar bc (aa 9) (tC (.int 1))) (aa 10)) (aa 2)) ae))) ae))))
nonrec def yd(K:Fg):TS:=(ao (ay (ar a6 (aw fR [] E0 (ac (aa 8) (ac (tC (.int 50)) ae))) (aa 2)) (ak 9))
 (ao (ay (ar a6 (aw fR [] E0 (ac (aa 8) (ac (tC (.int 51)) ae))) (ar kf (aa 2) (tC (.int 1)))) (ak 10))
 (yf K)))
nonrec def yc(K:Fg):TS:=(ao (ay (aw (fS K) [] E0 (ac (aa 0) (ac (ar bc (aa 1) (aa 6)) ae))) (ak 8))
 (a4 (HM (aK (ar ja (aa 3) (tC (.int 0)))) (aK (ar ja (ar a6 (aa 8) (tC (.int 5))) (tC (.int 1)))))
 (yd K)
 be))
nonrec def ya(K:Fg):TS:=(a4 (oA (aK (ar (i_ K true) (bC (ac (aa 9) (ac (aa 12) ae))) (aa 11))) (oA (aK (ar yJ (aa 12) (aa 2))) (aK (ar yJ (bO (bz K) (ac (aa 11) ae)) (tC (.int 8))))))
 (bF (dJ K "list" aJ (aa 11) (ac (bC (ac (aa 9) (ac (aa 12) ae))) ae)))
 be)
nonrec def x_(K:Fg):TS:=(ao (bo (cZ (ac (aa 2) ae)) (ak 6)
 (ao (ay (ar a6 (ar bc (aa 6) (tC (.int 1))) (aa 2)) (ak 7))
 (yg K)))
 (ao (bo (cZ (ac (tC (.int 8)) ae)) (ak 6)
 (yc K))
 (ao (ay (bK ae) (ak 11))
 (ao (bo (bY K (aa 5)) (cf K 2 (aS (ak 9) (aS (ak 12) cj)))
 (ya K))
 (aA (aa 11))))))
abbrev nW(K:Fg):TS:=(ao (ay (bK ae) (ak 5))
 (x_ K))
def mQ{K:Fg}{fs:List (Int×Int)}{x y:Int}{Q:VK}(A:AccZ K H l H2 (fs.map IN))(n:UD fs<=100)(k:∀H3,AccZ K H l H3 ((fs++[(x,y)]).map IN)->Q .non H3) :
  ([V.int x,.int y].length<=sizeLine/\∀p,H2 p=none->ae σ (upd H2 p (.tup [.int x,.int y])) λxs H3=>aJ (.ref l) (.ref p :: xs) H3 Q):=by
 refine⟨aR,λp np=>?_⟩;have S:=ai np (.tup [V.int x,.int y]);refine GU ?_;refine cx (A.on S) (d:=IN (x,y)) (.tup ag (RpL.ints [x,y])) (am (by rw[Si];lia)) λH3 A3 _ _ _=>k H3 ?_
 rw[Sr];exact A3
def iz{fs:List (Int×Int)}(h:∀q∈fs,FP s q)(n:FP s p):∀q∈fs++[p],FP s q:=bV h n
def N8{n u v:Int}(h1:0<=u)(h2:u<n)(h3:0<=v)(h4:v<n-1):(u+1+v) % n≠u:=by
 intro e;by_cases z:u+1+v<n
 .rw[ZaS ∅ z] at e;lia
 .have e2:(u+1+v) % n=u+1+v-n:=by
   rw[<- Int.sub_emod_right,ZaS ∅ ∅]
  lia
def DR{s:Int}{fs:List (Int×Int)}{p:Int×Int}(h:∃q∈fs,q.2<s):∃q∈fs++[p],q.2<s:=by
 obtain⟨q,h1,h2⟩:=h;exact⟨q,Te _ h1,h2⟩
def kM{s:Int}{fs:List (Int×Int)}{p:Int×Int}(h:p.2<s):∃q∈fs++[p],q.2<s:=⟨p,SW _ (SO.mpr rfl),h⟩
def BB{K:Fg}:ρ 13 (oH K) (nW K):=by
 fail "R";obtain⟨a,ns,t,s,kd,pl,rfl,hS,t0,s2,s8,k0,k3,k⟩:=h;rw[L2.aI hN];walk_at "t";unfold nW;cbv;refine⟨by decide,λl nl=>?_⟩;cbv
 refine bR (λi σ H2=>∃(fs:List (Int×Int)) (v6 v7:Option V),σ=[⇑a,↥t,↥s,↥kd,some (.bl pl),⇑l,v6,v7,none,none,none,none,none]/\AccZ K H l H2 (fs.map IN)/\fs.length<=2*i/\(∀q∈fs,FP s q)/\(0<i->0<kd->∃q∈fs,q.2<s))
  ⟨[],none,none,rfl,AccZ.start (Same.refl _) nl,Sx _,by simp,by simp⟩ ?_ ?_
 .rintro i σ H2 hi ⟨fs,v6,v7,rfl,A,hl,hf,hx⟩;have i8:(i:Int)<s:=by lia
  have hm0:=U6 (0+(i:Int)+1) (b:=s) ∅;have hm1:=UO (0+(i:Int)+1) (b:=s) ∅
  have hne:(0+(i:Int)+1) % s≠0+(i:Int):=by
   have z:=N8 (n:=s) (u:=0+(i:Int)) (v:=0) ∅ ∅ ∅ ∅;rw[UF] at z;exact z
  have back:∀(gs:List (Int×Int)) (H3:Hp) (D':cr),AccZ K H l H3 (gs.map IN)->UD gs<=2*i+1->(∀q∈gs,FP s q)->(0<kd->∃q∈gs,q.2<s) ->
    (∀σ' H',(∃(fs:List (Int×Int)) (v6 v7:Option V),σ'=[⇑a,↥t,↥s,↥kd,some (.bl pl),⇑l,v6,v7,none,none,none,none,none]/\AccZ K H l H' (fs.map IN)/\fs.length<=2*(i+1)/\(∀q∈fs,FP s q)/\(0<i+1->0<kd->∃q∈fs,q.2<s))->D'.nx σ' H') ->
    (a4 (aK (ar ja (aa 3) (tC (.int 2))))
     (bF (dJ K "list" aJ (aa 5) (ac (bC (ac (aa 7) (ac (aa 6) ae))) ae))) be) D' [⇑a,↥t,↥s,↥kd,some (.bl pl),⇑l,some (.int (0+(i:Int))),some (.int ((0+(i:Int)+1) % s)),none,none,none,none,none] H3:=by
   intro gs H3 D' B lg fg xg fin;cbv;refine aZ (λ_=>?_) (λ_=>?_)
   .cbv;refine⟨B.ty,?_⟩;cbv;refine mQ B ∅ λH4 B4=>?_
    exact fin _ _ ⟨_,_,_,rfl,B4,by simp;lia,iz fg ⟨hm0,hm1,by dsimp only;lia,λe=>hne e⟩,λ_ z=>DR (xg z)⟩
   .cbv;exact fin _ _ ⟨gs,_,_,rfl,B,∅,fg,λ_ z=>xg z⟩
  cbv;refine aZ (λe3=>?_) (λe3=>?_)
  .cbv;refine aZ (λs3=>?_) (λs3=>?_)
   .cbv;refine⟨A.ty,?_⟩;cbv;refine mQ A ∅ λH3 B=>?_
    refine back _ _ _ B (by simp;lia) (iz hf ⟨by dsimp only;lia,by dsimp only;lia,by dsimp only;lia,by dsimp only;lia⟩) (λz=>?_) λσ' H' z=>z
    by_cases i0:0<i
    .exact DR (hx i0 z)
    .exact kM (by dsimp only;lia)
   .cbv;refine aZ (λ_=>?_) (λz=>absurd z ∅);cbv;refine⟨A.ty,?_⟩;cbv;refine mQ A ∅ λH3 B=>?_
    exact back _ _ _ B (by simp;lia) (iz hf ⟨by dsimp only;lia,by dsimp only;lia,hm0,λe=>hne e.symm⟩) (λz=>kM hm1) λσ' H' z=>z
  .cbv;refine aZ (λkp=>?_) (λkp=>?_)
   .cbv;refine⟨A.ty,?_⟩;cbv;refine mQ A ∅ λH3 B=>?_
    exact back _ _ _ B (by simp;lia) (iz hf ⟨by dsimp only;lia,by dsimp only;lia,hm0,λe=>hne e.symm⟩) (λz=>kM hm1) λσ' H' z=>z
   .exact back fs _ _ A ∅ hf (λz=>absurd z kp) λσ' H' z=>z
 rintro σ H2 ⟨fs,v6,v7,rfl,A,hl,hf,hx⟩;have s8':s.toNat<=8:=by lia
 cbv
 refine bR (λi σ H3=>∃(gs:List (Int×Int)) (u6 u7 u8 u9 u10:Option V),σ=[⇑a,↥t,↥s,↥kd,some (.bl pl),⇑l,u6,u7,u8,u9,u10,none,none]/\AccZ K H l H3 (gs.map IN)/\gs.length<=16+i/\(∀q∈gs,FP s q)/\(0<kd\/0<i->∃q∈gs,q.2<s))
  ⟨fs,v6,v7,none,none,none,rfl,A,∅,hf,λz=>hx ∅ ∅⟩ ?_ ?_
 .rintro i σ H3 hi ⟨gs,u6,u7,u8,u9,u10,rfl,B,lg,fg,xg⟩;cbv;refine⟨a,ns,t+(0+(i:Int)),rfl,B.same.seq hS,∅,?_⟩;generalize cellOf ns (t+(0+(i:Int)))=c
  have draw:∀(D':cr),(∀σ' H',(∃(gs:List (Int×Int)) (u6 u7 u8 u9 u10:Option V),σ'=[⇑a,↥t,↥s,↥kd,some (.bl pl),⇑l,u6,u7,u8,u9,u10,none,none]/\AccZ K H l H' (gs.map IN)/\gs.length<=16+(i+1)/\(∀q∈gs,FP s q)/\(0<kd\/0<i+1->∃q∈gs,q.2<s))->D'.nx σ' H') ->
    (ao (ay (ar a6 (aw fR [] E0 (ac (aa 8) (ac (tC (.int 50)) ae))) (aa 2)) (ak 9))
    (ao (ay (ar a6 (aw fR [] E0 (ac (aa 8) (ac (tC (.int 51)) ae))) (ar kf (aa 2) (tC (.int 1)))) (ak 10))
    (ao (a4 (tB (aa 4))
    (ao (ay (ar a6 (ar a6 (ar cI (aa 8) (tC (.int 5))) (tC (.int 8))) (aa 2)) (ak 9))
    (ay (ar a6 (ar a6 (ar cI (aa 8) (tC (.int 40))) (tC (.int 8))) (ar kf (aa 2) (tC (.int 1)))) (ak 10)))
    be)
    (bF (dJ K "list" aJ (aa 5) (ac (bC (ac (aa 9) (ac (ar a6 (ar bc (ar bc (aa 9) (tC (.int 1))) (aa 10)) (aa 2)) ae))) ae)))))) D'
     [⇑a,↥t,↥s,↥kd,some (.bl pl),⇑l,some (.int (0+(i:Int))),u7,↥c,u9,u10,none,none] H3:=by
   intro D' fin
   have last:∀o st:Int,0<=o->o<s->0<=st->st<s-1->FP s (o,(o+1+st) % s)/\(o+1+st) % s<s:=λo st h1 h2 h3 h4 =>
    ⟨⟨h1,h2,U6 _ ∅,λe=>N8 h1 h2 h3 h4 e.symm⟩,UO _ ∅⟩
   cbv;refine⟨c,50,rfl,by decide,by decide,λy hy=>?_⟩;have y0:=U6 y (b:=s) ∅;have y1:=UO y (b:=s) ∅;cbv;refine⟨c,51,rfl,by decide,by decide,λw hw=>?_⟩;have w0:=U6 w (b:=s-1) ∅;have w1:=UO w (b:=s-1) ∅;cbv;cases pl with
   |true =>
    have z0:=U6 (c / 5 % 8) (b:=s) ∅;have z1:=UO (c / 5 % 8) (b:=s) ∅;have x0:=U6 (c / 40 % 8) (b:=s-1) ∅;have x1:=UO (c / 40 % 8) (b:=s-1) ∅;cbv;refine⟨B.ty,?_⟩;cbv;refine mQ B ∅ λH4 B4=>?_
    obtain⟨o1,o2⟩:=last (c / 5 % 8 % s) (c / 40 % 8 % (s-1)) z0 z1 x0 x1;exact fin _ _ ⟨_,_,_,_,_,_,rfl,B4,by simp;lia,iz fg o1,λ_=>kM o2⟩
   |false =>
    cbv;refine⟨B.ty,?_⟩;cbv;refine mQ B ∅ λH4 B4=>?_
    obtain⟨o1,o2⟩:=last (y % s) (w % (s-1)) y0 y1 w0 w1;exact fin _ _ ⟨_,_,_,_,_,_,rfl,B4,by simp;lia,iz fg o1,λ_=>kM o2⟩
  cbv;refine aZ (λz=>?_) (λz=>?_)
  .fail "1";exact draw _ λσ' H' z=>z
  .cbv;refine aZ (λy=>?_) (λy=>?_)
   .exact draw _ λσ' H' z=>z
   .cbv;exact⟨gs,_,_,_,_,_,rfl,B,∅,fg,λ_=>xg (.inl ∅)⟩
 rintro σ H3 ⟨gs,u6,u7,u8,u9,u10,rfl,B,lg,fg,xg⟩;have xg':=xg (.inr (by decide));obtain⟨xs,hl3,rx⟩:=B.at_;have lx:UD xs=UD gs:=by rw[rx.length,Si]
 cbv;refine⟨by decide,λl2 nl2=>?_⟩;cbv;have S2:=ai nl2 (.lst []);refine fO (SqL.of (S2 _ _ hl3)) ?_
 refine bg (xs:=xs) (λi σ H4=>∃(ps:List (Nat×Nat)) (w6 w7 w8 w9 w10 w12:Option V),σ=[⇑a,↥t,↥s,↥kd,some (.bl pl),⇑l,w6,w7,w8,w9,w10,⇑l2,w12]/\AccZ K H3 l2 H4 (ps.map dP)/\ps.Nodup/\ps.length<=8/\(∀q∈ps,m7 s.toNat q)/\((∃q∈gs.take i,q.2<s)->ps≠[]))
  ⟨[],u6,u7,u8,u9,u10,none,rfl,AccZ.start (Same.refl _) nl2,VJ,by decide,by simp,by simp⟩ ?_ ?_ ?_
 .rintro i σ H4 _ ⟨ps,w6,w7,w8,w9,w10,w12,rfl,C,_⟩;exact SqL.of (C.same _ _ hl3)
 .rintro i z σ H4 hz ⟨ps,w6,w7,w8,w9,w10,w12,rfl,C,nd,l8,okp,hne⟩;obtain⟨dd,g1,g2⟩:=rx.get hz;rw[So] at g1;obtain⟨g,eg,rfl⟩:=SA.mp g1;have og:=fg g (Sq eg);obtain⟨tz,zs,e1,st,rt⟩:=(g2.same C.same).bM;cases e1;cases RpL.ints_of (ns:=[g.1,g.2]) rt;obtain⟨x,y⟩:=g;obtain⟨o0,o1,o2,o3⟩:=og;dsimp only at o0 o1 o2 o3
  have oo:y<s->m7 s.toNat (x.toNat,y.toNat):=λys=>by
   clear hne xg xg' hx;exact⟨by show x.toNat<s.toNat;lia,by show y.toNat<s.toNat;lia,by show x.toNat≠y.toNat;lia⟩
  have tk:gs.take (i+1)=gs.take i++[(x,y)]:=by rw[SK,eg];rfl
  have old:(∃q∈gs.take (i+1),q.2<s)->¬ y<s->∃q∈gs.take i,q.2<s:=by
   rintro⟨q,h1,h2⟩ ny;rw[tk] at h1;rcases SQ.mp h1 with h|h
   .exact⟨q,h,h2⟩
   .rw[SO.mp h] at h2;exact absurd h2 ny
  have st':H4 tz=some (.tup [.int x,.int y]):=st;refine bu (SqT.of st') rfl ?_;cbv;refine⟨aR,λp np=>?_⟩;have S5:=ai np (.tup [V.int x,.int y]);have C5:=C.on S5;have r5:Rz K (upd H4 p (.tup [V.int x,.int y])) (.ref p) (dI [x,y]):=.tup ag (RpL.ints [x,y])
  have eP:dI [x,y]=dP (x.toNat,y.toNat):=by
   show dI [x,y]=dI [((x.toNat:Nat):Int),((y.toNat:Nat):Int)];rw[Z8 o0,Z8 o2]
  rw[eP] at r5;cbv;refine gR r5.rep C5.rep (λe he=>by obtain⟨b,_,rfl⟩:=SE.mp he;exact ky _ 7) (ky _ 7) (λnm=>?_) (λmm=>?_)
  .cbv;refine aZ (λys=>?_) (λys=>?_)
   .obtain⟨xs5,s5,n5,_⟩:=C5.sq;rw[Si] at n5;cbv;refine bH s5 ?_;cbv;refine aZ (λlt=>?_) (λge=>?_)
    .cbv;refine⟨C5.ty,?_⟩;cbv;refine⟨aR,λp' np'=>?_⟩;have S6:=ai np' (.tup [V.int x,.int y]);refine GU ?_;refine cx (C5.on S6) (d:=dP (x.toNat,y.toNat)) (by rw[<- eP];exact .tup ag (RpL.ints [x,y])) (am (by rw[Si];lia)) λH6 C6 _ _ _=>?_
     cbv;exact⟨ps++[(x.toNat,y.toNat)],_,_,_,_,_,_,rfl,by rw[Sr];exact C6,cB nd λz=>nm (Oa.mpr z),by simp;lia,bV okp (oo ys),by simp⟩
    .have lz:ps=[]->False:=λz=>by
      have z0:UD ps=0:=by rw[z];rfl
      clear hne xg xg' hx;lia
     cbv;exact⟨ps,_,_,_,_,_,_,rfl,C5,nd,l8,okp,λ_ z=>lz z⟩
   .cbv;exact⟨ps,_,_,_,_,_,_,rfl,C5,nd,l8,okp,λz=>hne (old z ys)⟩
  .cbv;exact⟨ps,_,_,_,_,_,_,rfl,C5,nd,l8,okp,λ_ z=>by rw[z] at mm;cases mm⟩
 .rintro σ H4 ⟨ps,w6,w7,w8,w9,w10,w12,rfl,C,nd,l8,okp,hne⟩;rw[lx,SD (Sx _)] at hne;cbv;exact k l2 H4 ps (qg B.same C) nd l8 (hne xg') okp
abbrev AO(K:Fg):Sp:=λvs H Q _=>∃(a:Addr) (ns:List Int) (t:Int),vs=[.ref a,.int t]/\SqL K H a (ns.map V.int)/\0<=t/\∀(p:Addr) (H':Hp) (ws:List Str) (ts:List Tn),Same H H'->iA ws ts->Rz K H' (.ref p) (dV ws ts)->Q (.ref p) H'
nonrec def E3 (K:Fg):TS:=(bF (dJ K "list" aJ (aa 8) (ac (bC (ac (ar (bP K) (aa 6) (aa 11)) (ac (ar (bP K) (aa 6) (aa 12)) (ac (aw (ib K) [] E0 (ac (ar cI (aa 10) (tC (.int 320))) (ac (ar a6 (ar cI (aa 2) (tC (.int 420))) (tC (.int 3))) ae))) ae)))) ae)))
nonrec def E2(K:Fg):TS:=(ao (ay (aw (fS K) [] E0 (ac (aa 0) (ac (ar bc (ar bc (aa 1) (tC (.int 7))) (aa 9)) ae))) (ak 10))
 (ao (ay (ar (bP K) (aa 7) (aa 9)) (cf K 2 (aS (ak 11) (aS (ak 12) cj))))
 (E3 K)))
nonrec def E1(K:Fg):TS:=(ao (bo (cZ (ac (bO (bz K) (ac (aa 7) ae)) ae)) (ak 9)
 (E2 K))
 (aA (bC (ac (aw (gF K) [] E0 (ac (ar cI (aa 2) (tC (.int 2520))) (ac (aa 3) ae))) (ac (bO (eT K) (ac (aa 8) ae)) ae)))))
nonrec def EZ(K:Fg):TS:=(ao (ay (aw (oH K) [] E0 (ac (aa 0) (ac (ar bc (aa 1) (tC (.int 7))) (ac (bO (bz K) (ac (aa 6) ae)) (ac (ar a6 (ar cI (aa 2) (tC (.int 105))) (tC (.int 4))) (ac (aa 5) ae)))))) (ak 7))
 (ao (ay (bK ae) (ak 8))
 (E1 K)))
nonrec def EY(K:Fg):TS:=(ao (ay (aw (ul K) [] E0 (ac (aa 0) (ac (ar bc (aa 1) (tC (.int 1))) (ac (aa 3) (ac (ar bc (tC (.int 2)) (ar a6 (ar cI (aa 2) (tC (.int 15))) (tC (.int 7)))) (ac (aa 4) (ac (aa 5) ae))))))) (ak 6))
 (EZ K))
nonrec def EX(K:Fg):TS:=(ao (ay (ar bc (tC (.int 1)) (ar a6 (aa 2) (tC (.int 5)))) (ak 3))
 (ao (ay (ar bc (tC (.int 2)) (ar a6 (ar cI (aa 2) (tC (.int 5))) (tC (.int 3)))) (ak 4))
 (ao (ay (ar ja (ar a6 (ar cI (aa 2) (tC (.int 1260))) (tC (.int 2))) (tC (.int 1))) (ak 5))
 (EY K))))
abbrev zK(K:Fg):TS:=(ao (ay (aw fR [] E0 (ac (aw (fS K) [] E0 (ac (aa 0) (ac (aa 1) ae))) (ac (tC (.int 1)) ae))) (ak 2))
 (EX K))
def JV{K:Fg}:ρ 13 (AO K) (zK K):=by
 fail "R";obtain⟨a,ns,t,rfl,hS,t0,k⟩:=h;rw[L2.aI hN];walk_at "t";unfold zK;cbv;refine⟨a,ns,t,rfl,hS,t0,?_⟩;generalize cellOf ns t=c;cbv;refine⟨c,1,rfl,by decide,by decide,λn ω=>?_⟩;obtain⟨n0,_⟩:=ω;cbv;generalize decide (n / 1260 % 2=1)=pl;refine⟨a,ns,t+1,1+n % 5,2+n / 15 % 7,2+n / 5 % 3,pl,rfl,hS,∅,∅,∅,∅,∅,∅,∅,λpp H1 hs A1 op h2 h8=>?_⟩;obtain⟨xs,hpp,rz⟩:=A1.at_;have lx:UD xs=UD hs:=by rw[rz.length,Si]
 have S1:=A1.same;cbv;refine bH (SqL.of hpp) ?_;cbv;refine⟨a,ns,t+7,(UD xs:Int),n / 105 % 4,pl,rfl,S1.seq hS,∅,∅,∅,∅,∅,λpr H2 ps A2 nd l8 ne okp=>?_⟩;obtain⟨ys,hpr,ry⟩:=A2.at_;have ly:UD ys=UD ps:=by rw[ry.length,Si]
 have S2:=A2.same;have S02:=S1.trans S2;cbv;refine⟨by decide,λl nl=>?_⟩;cbv;have Sl:=ai nl (.lst []);refine bH (SqL.of (Sl _ _ hpr)) ?_;rw[ly];cbv;have et:((UD ps:Nat):Int).toNat=UD ps:=by lia
 rw[et]
 refine bR (λi σ H3=>∃(ts:List Tn) (v9 v10 v11 v12:Option V),σ=[⇑a,↥t,↥n,↥(1+n % 5),↥(2+n / 5 % 3),some (.bl pl),⇑pp,⇑pr,⇑l,v9,v10,v11,v12]/\AccZ K H2 l H3 (ts.map dT)/\ts.map vF=(ps.take i).map (sZ hs)/\∀t∈ts,iS t.q t.d)
  ⟨[],none,none,none,none,rfl,AccZ.start (Same.refl _) nl,rfl,by simp⟩ ?_ ?_
 .rintro i σ H3 hi ⟨ts,v9,v10,v11,v12,rfl,A,em,pc⟩;have S3:=A.same
  have lts:UD ts=i:=by
   have:=congrArg UD em
   rw[Si,Si,SL] at this;lia
  have eq1:ps[i]?=some ps[i]:=Sk hi;have oq:=okp _ (Ul hi);generalize ps[i]=q at eq1 oq;have oq1:q.1<UD hs:=by have:=oq.1;lia
  have oq2:q.2<UD hs:=by have:=oq.2.1;lia
  obtain⟨w,ew,rw_⟩:=ry.get' (i:=i) (d:=dP q) (by rw[So,eq1];rfl);cbv;refine⟨a,ns,t+7+(0+(i:Int)),rfl,(S02.trans S3).seq hS,∅,?_⟩;generalize cellOf ns (t+7+(0+(i:Int)))=c2;cbv;refine bX (SqL.of (S3 _ _ hpr)) (v:=w) (by rw[UB];exact aM ew) ?_;obtain⟨tz,zs,rfl,st,rt⟩:=(rw_.same S3).bM;cases RpL.ints_of (ns:=[(q.1:Int),(q.2:Int)]) rt;have st':H3 tz=some (.tup [.int (q.1:Int),.int (q.2:Int)]):=st;refine bu (SqT.of st') rfl ?_;have g1:(hs.map dI)[q.1]?=some (dI (hs.getD q.1 [])):=by rw[So,Sj,Sk oq1];rfl
  have g2:(hs.map dI)[q.2]?=some (dI (hs.getD q.2 [])):=by rw[So,Sj,Sk oq2];rfl
  obtain⟨w1,ew1,rw1⟩:=rz.get' g1;obtain⟨w2,ew2,rw2⟩:=rz.get' g2;have S13:=S2.trans S3;cbv;refine⟨A.ty,?_⟩;cbv;refine bX (SqL.of (S13 _ _ hpp)) (aM ew1) ?_;cbv;refine bX (SqL.of (S13 _ _ hpp)) (aM ew2) ?_;cbv;refine⟨_,_,rfl,λpa pq pd H4 S4 ok4 r4=>?_⟩;cbv;refine⟨gg,λpt npt=>?_⟩;have S5:=ai npt (.tup [w1,w2,.ref pa]);have S15:=S13.trans (S4.trans S5);have r5:Rz K (upd H4 pt (.tup [w1,w2,.ref pa])) (.ref pt) (dT ⟨hs.getD q.1 [],hs.getD q.2 [],pq,pd⟩):=.tup ag (.cons (rw1.same S15) (.cons (rw2.same S15) (.cons (r4.same S5) .nil)));cbv;refine cx (A.on (S4.trans S5)) r5 (am (by rw[Si];lia)) λH6 A6 _ _ _=>?_
  cbv;refine⟨ts++[_],_,_,_,_,rfl,by rw[Sr];exact A6,?_,bV pc ok4⟩;rw[Sr,em,SK,eq1,Sr];rfl
 .rintro σ H3 ⟨ts,v9,v10,v11,v12,rfl,A,em,pc⟩;rw[SD (Sx _)] at em;have S3:=A.same;obtain⟨zs,hl,rzs⟩:=A.at_;have gd:G1.Good hs ps ts:=⟨nd,l8,em,λp hp=>by have:=okp p hp;have e:((UD xs:Nat):Int).toNat=UD hs:=∅;rw[e] at this;exact this,pc⟩
  have tk:=gd.turns op.1 ne;cbv;refine⟨n / 2520,1+n % 5,rfl,∅,∅,∅,λpw H4 ws S4 ow lw r4=>?_⟩;cbv;refine iP (SqL.of (S4 _ _ hl)) λp np=>?_
  have S5:=ai np (.tup zs);cbv;refine⟨aR,λr nr=>?_⟩;have S6:=ai nr (.tup [.ref pw,.ref p]);have r5:Rz K (upd H4 p (.tup zs)) (.ref p) (.tuple (ts.map dT)):=.tup ag ((rzs.same S4).same S5);refine k r _ ws ts (S02.trans (S3.trans (S4.trans (S5.trans S6)))) ⟨ow,∅,∅,hs,?_,h8,tk⟩ (.tup ag (.cons ((r4.same S5).same S6) (.cons (r5.same S6) .nil)));rw[lw];exact op
end G2
namespace Ti
open PySem L2 Fr G1 Sm Vs G2
open PySem.W (Dat kqdOk)
abbrev ix:List (List Int)->List Int->Nat
 |[],_=>0
 |x :: xs,h=>if x=h then 0 else ix xs h+1
def GX:∀{hs:List (List Int)} {h:List Int},h∈hs->hs[ix hs h]?=some h
 |x :: xs,h,m=>by
  unfold ix;by_cases e:x=h
  .rw[if_pos e,e];rfl
  .rw[if_neg e,Va];exact GX ((S_.mp m).resolve_left λz=>e z.symm)
def xj:∀{hs:List (List Int)} {h:List Int} {m:Nat},m<ix hs h->hs[m]?≠some h
 |[],_,m,l=>by unfold ix at l;lia
 |x :: xs,h,m,l=>by
  unfold ix at l;by_cases e:x=h
  .rw[if_pos e] at l;lia
  .rw[if_neg e] at l;cases m with
   |zero=>intro z;exact e (SU z)
   |succ m=>rw[Va];exact xj ∅
def OY:∀{hs:List (List Int)} {h:List Int} {i:Nat},hs.Nodup->hs[i]?=some h->ix hs h=i
 |x :: xs,h,0,nd,e=>by
  unfold ix;rw[if_pos (SU e)]
 |x :: xs,h,i+1,nd,e=>by
  rw[Uj] at nd;rw[Va] at e;unfold ix;rw[if_neg (show ¬ x=h from λz=>nd.1 (by rw[z];exact Sq e)),OY nd.2 e]
def OZ{hs:List (List Int)}{h:List Int}(m:h∈hs):ix hs h<UD hs:=(Sn.mp (GX m)).1
def pL{hs:List (List Int)}{x:List Int}(m:x∈hs):x∈bS hs h:=by
 unfold bS;split
 .exact m
 .exact Te _ m
def xl(hs:List (List Int))(h:List Int):h∈bS hs h:=by
 unfold bS;split
 .assumption
 .exact SW _ (SO.mpr rfl)
def pQ:∀{ts:List Tn} {hs:List (List Int)} {x:List Int},x∈hs->x∈fQ hs ts
 |[],_,_,m=>m
 |t :: ts,hs,x,m=>pQ (ts:=ts) (pL (pL m))
def dX:∀{ts:List Tn} {hs:List (List Int)} {t:Tn},t∈ts->t.fr∈fQ hs ts/\t.to∈fQ hs ts
 |u :: ts,hs,t,m=>by
  rcases S_.mp m with rfl|m
  .exact⟨pQ (ts:=ts) (pL (xl _ _)),pQ (ts:=ts) (xl _ _)⟩
  .exact dX (ts:=ts) m
def Dq{hs:List (List Int)}(nd:hs.Nodup):(bS hs h).Nodup:=by
 unfold bS;split
 .exact nd
 .rename_i z;exact cB nd z
def DC:∀(ts:List Tn) {hs:List (List Int)},hs.Nodup->(fQ hs ts).Nodup
 |[],_,nd=>nd
 |t :: ts,_,nd=>DC ts (Dq (Dq nd))
def IA(ts:List Tn):(aT ts).Nodup:=DC ts VJ
def pP{ts:List Tn}(l:UD ts<=100):(aT ts).length<=200:=by
 have:=pR ts []
 unfold aT;simp only[WY] at this;lia
abbrev aC(ts:List Tn):List (Nat×Nat):=ts.map λt=>(ix (aT ts) t.fr,ix (aT ts) t.to)
abbrev Mo(n:Nat)(es:List (Nat×Nat)):Prop:=∀e∈es,e.1<n/\e.2<n
def dq(ts:List Tn):Mo (aT ts).length (aC ts):=λe he=>by
 obtain⟨t,ht,rfl⟩:=SE.mp he
 have:=dX (hs:=[]) ht
 exact⟨OZ this.1,OZ this.2⟩
nonrec def yh(K:Fg):TS:=(ao (bo (mr K (ar (aD K) (aa 0) (tC (.int 1)))) (cf K 3 (aS (ak 2) (aS (ak 3) (aS (ak 4) cj))))
 (bo (bY K (bK (ac (aa 2) (ac (aa 3) ae)))) (ak 5)
 (a4 (aK (ar (i_ K true) (aa 5) (aa 1)))
 (bF (dJ K "list" aJ (aa 1) (ac (aa 5) ae)))
 be)))
 (aA (aa 1)))
abbrev nY(K:Fg):TS:=(ao (ay (bK ae) (ak 1))
 (yh K))
abbrev Ih(hs:List (List Int))(t:Tn):Nat->List (List Int)
 |0=>hs
 |1=>bS hs t.fr
 |_=>bS (bS hs t.fr) t.to
def BD{K:Fg}:ρ 6 (c_ K) (nY K):=by
 fail "R";obtain⟨v,ws,ts,rfl,rv,hl,k⟩:=h;obtain⟨a0,y1,y2,rfl,ha0,_,r2⟩:=gA rv;obtain⟨a,xs,rfl,ha,rx⟩:=r2.bM;rw[L2.aI hN];walk_at "t";have lx:UD xs=UD ts:=by rw[rx.length,Si]
 unfold nY;cbv;refine⟨by decide,λl nl=>?_⟩;have Sl:=ai nl (.lst []);cbv;refine aG (SqT.of (Sl _ _ ha0)) (v:=.ref a) rfl ?_;refine Ov (SqT.of (Sl _ _ ha)) ?_;refine DQ (xs:=xs) (λi σ H2=>∃u2 u3 u4 u5:Option V,σ=[⇑a0,⇑l,u2,u3,u4,u5]/\AccZ K H l H2 ((aT (ts.take i)).map dI)) ⟨none,none,none,none,rfl,AccZ.start (Same.refl _) nl⟩ ?_ ?_ ?_
 .rintro i σ H2 _ ⟨u2,u3,u4,u5,rfl,A⟩;exact SqT.of (A.same _ _ ha)
 .rintro i z σ H2 hz ⟨u2,u3,u4,u5,rfl,A⟩;obtain⟨dd,g1,g2⟩:=rx.get hz;rw[So] at g1;obtain⟨t,ht,rfl⟩:=SA.mp g1;obtain⟨at_,v1,v2,v3,rfl,hat,r1,r2,_⟩:=pY (g2.same A.same);have ti:i<UD ts:=(Sn.mp ht).1;refine bu (SqT.of hat) rfl ?_;cbv;refine⟨aR,λpt npt=>?_⟩;have S3:=ai npt (.lst [v1,v2]);have hpt:upd H2 pt (.lst [v1,v2]) pt=some (.lst [v1,v2]):=ag;have A3:=A.on S3;have q1:=r1.same S3;have q2:=r2.same S3
  have npl:pt≠l:=by
   obtain⟨_,z,_⟩:=A.at_;exact(aq z npt).symm
  generalize upd H2 pt (.lst [v1,v2])=H3 at S3 hpt A3 q1 q2 ⊢;refine fO (SqL.of hpt) ?_;have hl2:(aT (ts.take i)).length<=200:=pP (by rw[SL];lia);generalize hhs:aT (ts.take i)=hs at A3 hl2 A ⊢;refine bg (xs:=[v1,v2]) (λj σ H4=>∃u:Option V,σ=[⇑a0,⇑l,some v1,some v2,some v3,u]/\AccZ K H l H4 ((Ih hs t j).map dI)/\H4 pt=some (.lst [v1,v2])/\Rz K H4 v1 (dI t.fr)/\Rz K H4 v2 (dI t.to)) ⟨_,rfl,A3,hpt,q1,q2⟩ ?_ ?_ ?_
  .rintro j σ H4 _ ⟨u,rfl,_,e,_⟩;exact SqL.of e
  .rintro j y σ H4 hy ⟨u,rfl,B,e,p1,p2⟩
   have go:∀(w:V) (g:List Int) (ds:List (List Int)) (D':cr),Rz K H4 w (dI g)->AccZ K H l H4 (ds.map dI)->UD ds<=300->(∀H5,AccZ K H l H5 ((bS ds g).map dI)->H5 pt=some (.lst [v1,v2])->Rz K H5 v1 (dI t.fr)->Rz K H5 v2 (dI t.to)->D'.nx [⇑a0,⇑l,some v1,some v2,some v3,some w] H5) ->
     (a4 (aK (ar (i_ K true) (aa 5) (aa 1))) (bF (dJ K "list" aJ (aa 1) (ac (aa 5) ae))) be) D' [⇑a0,⇑l,some v1,some v2,some v3,some w] H4:=by
    intro w g ds D' rw_ Bd ld fin;cbv;refine gR rw_.rep Bd.rep (λe he=>by obtain⟨b,_,rfl⟩:=SE.mp he;exact ky b 7) (ky g 7) (λnm=>?_) (λmm=>?_)
    .cbv;refine⟨Bd.ty,?_⟩;cbv;refine cx Bd rw_ (am (by rw[Si];lia)) λH5 A5 keepZ keepB _=>?_
     refine fin H5 ?_ ((keepB pt npl).trans e) (keepZ p1) (keepZ p2);unfold bS;rw[if_neg (λz=>nm (CJ.mpr z)),Sr];exact A5
    .cbv;refine fin H4 ?_ e p1 p2;unfold bS;rw[if_pos (CJ.mp mm)];exact Bd
   match j,hy with
   |0,hy =>
    cases SU hy;exact go v1 t.fr hs _ p1 B ∅ λH5 A5 e5 z1 z2=>⟨_,rfl,A5,e5,z1,z2⟩
   |1,hy =>
    cases SU hy;exact go v2 t.to (bS hs t.fr) _ p2 B (by have:=pM hs t.fr;lia) λH5 A5 e5 z1 z2=>⟨_,rfl,A5,e5,z1,z2⟩
   |j+2,hy=>simp at hy
  .rintro σ H4 ⟨u,rfl,B,e,p1,p2⟩;refine⟨_,_,_,_,rfl,?_⟩;have et:ts.take (i+1)=ts.take i++[t]:=by rw[SK,ht];rfl
   have ep:aT (ts.take (i+1))=Ih hs t 2:=by
    rw[et,<- hhs];exact sk [] (ts.take i) t
   rw[ep];exact B
 .rintro σ H2 ⟨u2,u3,u4,u5,rfl,A⟩;rw[lx,SD (Sx _)] at A;cbv;exact k l H2 A
abbrev gJ(K:Fg):Sp:=λvs H Q _=>∃(v:V) (ws:List Str) (ts:List Tn),vs=[v]/\Rz K H v (dV ws ts)/\ts.length<=100/\∀(p:Addr) (H':Hp),AccZ K H p H' ((aC ts).map dP)->Q (.ref p) H'
def DV{K:Fg}{H:Hp}{σ:St}{Q:VK}{te:TE}{ts:List Tn}(l:UD ts<=100)(hb:H b=some (.tup xs))(rx:RzL K H xs (ts.map dT))
  (ht:∀(H2:Hp) (v:V) (t:Tn) (Q':VK),t∈ts->Same H H2->Rz K H2 v (dT t)->(∀p,H2 p=none->Q' (.ref p) (upd H2 p (.tup [.int (ix (aT ts) t.fr),.int (ix (aT ts) t.to)])))->te (some v :: σ) H2 Q')
  (hq:∀(D:Addr) (H':Hp),AccZ K H D H' ((aC ts).map dP)->Q (.ref D) H'):cy (tm K b) te σ Q H:=by
 have lx:UD xs=UD ts:=by rw[rx.length,Si]
 refine fJ (xs:=xs) λD nD=>⟨λi H2=>AccZ K H D H2 (((ts.take i).map λt=>(ix (aT ts) t.fr,ix (aT ts) t.to)).map dP),AccZ.start (Same.refl _) nD,λi H2 _ A=>SqT.of (A.same _ _ hb),?_,?_⟩
 .intro i z H2 hz A;obtain⟨dd,g1,g2⟩:=rx.get hz;rw[So] at g1;obtain⟨t,et,rfl⟩:=SA.mp g1;have li:i<UD ts:=(Sn.mp et).1;refine ht H2 z t _ (Sq et) A.same (g2.same A.same) λp np=>?_
  have S3:=ai np (.tup [V.int (ix (aT ts) t.fr),.int (ix (aT ts) t.to)]);refine aH ∅ ((A.on S3).bG (d:=dP (ix (aT ts) t.fr,ix (aT ts) t.to)) (.tup ag (RpL.ints [_,_])) (am ?_) λH4 A4=>?_)
  .rw[Si,Si,SL];lia
  .show AccZ K H D H4 (((ts.take (i+1)).map λt=>(ix (aT ts) t.fr,ix (aT ts) t.to)).map dP);rw[SK,et,Sr,Sr];exact A4
 .intro H2 A;rw[lx,SD (Sx _)] at A;exact hq D H2 A
nonrec def Ah (K:Fg):TS:=(aA (ck (mr K (ar (aD K) (aa 0) (tC (.int 1)))) (bC (ac (dJ K "list" (rf K) (aa 2) (ac (ar (aD K) (aa 0) (tC (.int 0))) ae)) (ac (dJ K "list" (rf K) (aa 2) (ac (ar (aD K) (aa 0) (tC (.int 1))) ae)) ae)))))
abbrev tV(K:Fg):TS:=(ao (ay (aw (c_ K) [] E0 (ac (aa 0) ae)) (ak 1))
 (Ah K))
def FZ{K:Fg}:ρ 2 (gJ K) (tV K):=by
 fail "R";obtain⟨v,ws,ts,rfl,rv,hl,k⟩:=h;rw[L2.aI hN];walk_at "t";unfold tV;cbv;refine⟨v,ws,ts,rfl,rv,hl,λp H1 A1=>?_⟩;have S1:=A1.same;obtain⟨a0,y1,y2,rfl,ha0,_,r2⟩:=gA (rv.same S1);obtain⟨a,xs,rfl,ha,rx⟩:=r2.bM;have hl2:=pP hl;cbv;refine aG (SqT.of ha0) (v:=.ref a) rfl ?_;refine yY (SqT.of ha) ?_;refine DV hl ha rx (λH2 z t Q' mt S2 rz q=>?_) λD H' A=>k D H' (qg S1 A)
 obtain⟨b,w1,w2,w3,rfl,hb,q1,q2,_⟩:=pY rz;have mm:=dX (hs:=[]) mt;have A2:=A1.on S2;have okd:∀e∈(aT ts).map dI,kqdOk 8 e=true:=λe he=>by obtain⟨b,_,rfl⟩:=SE.mp he;exact ky b 7
 have first:∀{g:List Int} {m:Nat},m<ix (aT ts) g->((aT ts).map dI)[m]?≠some (dI g):=λhm z=>by
  rw[So] at z;obtain⟨g',e1,e2⟩:=SA.mp z;exact xj hm (by rw[e1,Ea e2])
 have at_:∀{g:List Int},g∈aT ts->((aT ts).map dI)[ix (aT ts) g]?=some (dI g):=λm=>by rw[So,GX m];rfl
 cbv;refine⟨A2.ty,?_⟩;cbv;refine aG (SqT.of hb) (v:=w1) rfl ?_;cbv;refine vA q1.rep A2.rep okd (ky _ 7) (at_ mm.1) (λm hm=>first hm) (by rw[Si];lia) ?_;cbv;refine⟨A2.ty,?_⟩;cbv;refine aG (SqT.of hb) (v:=w2) rfl ?_;cbv;refine vA q2.rep A2.rep okd (ky _ 7) (at_ mm.2) (λm hm=>first hm) (by rw[Si];lia) ?_;cbv;exact⟨aR,q⟩
nonrec def Ff(K:Fg):TS:=(ao (bo (iw K (ac (aw (c_ K) [] E0 (ac (aa 0) ae)) ae)) (cf K 2 (aS (ak 2) (aS (ak 3) cj)))
 (qW (aa 1) (aa 3) (aa 2)))
 (aA (ck (mr K (ar (aD K) (aa 0) (tC (.int 1)))) (bC (ac (uc (aa 2) (ar (aD K) (aa 0) (tC (.int 0)))) (ac (uc (aa 2) (ar (aD K) (aa 0) (tC (.int 1)))) ae))))))
abbrev Ak(K:Fg):TS:=(ao (ay AB (ak 1))
 (Ff K))
def J7{K:Fg}:ρ 4 (gJ K) (Ak K):=by
 fail "R";obtain⟨v,ws,ts,rfl,rv,hl,k⟩:=h;rw[L2.aI hN];walk_at "t";have hl2:=pP hl;have nd:=IA ts;unfold Ak;cbv;intro d fd;have S0:=ai fd (.dT []);cbv;refine⟨v,ws,ts,rfl,rv.same S0,hl,λp H1 A1=>?_⟩;obtain⟨xs,hp,rx⟩:=A1.at_;have lx:UD xs=(aT ts).length:=by rw[rx.length,Si]
 have S1:=A1.same;have e1:H1 d=some (.dT []):=S1 _ _ ag;cbv;refine⟨p,xs,rfl,SqL.of hp,?_⟩
 refine dY (xs:=xs) (λi σ H2=>∃(ab:List (List a9×V)) (u2 u3:Option V),σ=[some v,⇑d,u2,u3]/\Same H H2/\(∀b o,b≠d->H1 b=some o->H2 b=some o)/\H2 d=some (.dT ab)/\ab.length<=i/\∀g:List Int,g∈(aT ts).take i->bJ ab (jt g)=some (.int (ix (aT ts) g)))
  ⟨[],none,none,rfl,S0.trans S1,λ_ _ _ z=>z,e1,Sx _,by simp⟩ ?_ ?_ ?_
 .rintro i σ H2 _ ⟨ab,u2,u3,rfl,S,kp,ed,ek,eg⟩;exact SqL.of (kp p _ (mf hp e1 (by intro z;cases z)) hp)
 .rintro i z σ H2 T hz ⟨ab,u2,u3,rfl,S,kp,ed,ek,eg⟩ nT;obtain⟨dd,g1,g2⟩:=rx.get hz;rw[So] at g1;obtain⟨g,hg,rfl⟩:=SA.mp g1;have li:i<(aT ts).length:=(Sn.mp hg).1;obtain⟨b,rfl,hb⟩:=dG g2;have nbd:b≠d:=mf hb e1 (by intro z;cases z);have S2:=ai nT (.tup [.int (i:Int),.ref b]);have nTd:T≠d:=(aq ed nT).symm;have ed2:=S2 _ _ ed;have hb2:=S2 _ _ (kp b _ nbd hb);refine bu (SqT.of ag) rfl ?_;cbv;refine⟨d,_,rfl,DPut.t ed2 (k:=jt g) (by rw[mF];exact hb2) (am ∅),?_⟩;have le1:=cC ab (jt g) (.int (i:Int));refine⟨_,_,_,rfl,λb' o q=>?_,λb' o n q=>?_,ag,∅,λg' mg=>?_⟩
  .rw[aB (aq q fd)];exact S2 _ _ (S _ _ q)
  .rw[aB n];exact S2 _ _ (kp b' o n q)
  .rw[nB];by_cases e:jt g'=jt g
   .rw[if_pos e,zH e,OY nd hg]
   .rw[if_neg e];refine eg g' ?_;rw[SK,hg] at mg;rcases SQ.mp mg with m|m
    .exact m
    .exact absurd (by rw[SO.mp m]) e
 .rintro σ H2 ⟨ab,u2,u3,rfl,S,kp,ed,ek,eg⟩;rw[lx,SD (Sx _)] at eg;obtain⟨a0,y1,y2,rfl,ha0,_,r2⟩:=gA (rv.same S);obtain⟨a,zs,rfl,ha,rz⟩:=r2.bM;cbv;refine aG (SqT.of ha0) (v:=.ref a) rfl ?_;refine yY (SqT.of ha) ?_;refine DV hl ha rz (λH3 z t Q' mt S3 rt q=>?_) λD H' A=>k D H' (qg S A)
  obtain⟨b,w1,w2,w3,rfl,hb,q1,q2,_⟩:=pY rt;obtain⟨b1,rfl,hb1⟩:=dG q1;obtain⟨b2,rfl,hb2⟩:=dG q2;have mm:=dX (hs:=[]) mt;cbv;refine aG (SqT.of hb) (v:=.ref b1) rfl ?_;refine⟨d,_,rfl,(by have:=DGet.t (S3 _ _ ed) (k:=jt t.fr) (b:=b1) (by rw[mF];exact hb1);rw[eg t.fr mm.1] at this;exact this),?_⟩;cbv;refine aG (SqT.of hb) (v:=.ref b2) rfl ?_;refine⟨d,_,rfl,(by have:=DGet.t (S3 _ _ ed) (k:=jt t.to) (b:=b2) (by rw[mF];exact hb2);rw[eg t.to mm.2] at this;exact this),?_⟩;cbv;exact⟨aR,q⟩
def bQ{α:Type}[DecidableEq α]:∀{l hs:List α},l.Nodup->(∀x∈l,x∈hs)->UD l<=UD hs
 |[],_,_,_=>TV _
 |x :: l,hs,nd,sub=>by
  rw[Uj] at nd;have hx:=sub x Sv
  have h:=bQ (l:=l) (hs:=hs.erase x) nd.2 λy hy=>by
   refine(ZT ?_).mpr (sub y (Sw _ hy));rintro rfl;exact nd.1 hy
  rw[YV hx] at h
  have:=Xp hx
  rw[Tu];lia
def yV{α:Type}[DecidableEq α]{l hs:List α}(nd:l.Nodup)(sub:∀x∈l,x∈hs)(le:UD hs<=UD l):∀y∈hs,y∈l:=λy hy=>by
 by_cases z:y∈l
 .exact z
 .have h:=bQ (l:=l) (hs:=hs.erase y) nd λx hx=>(ZT (by rintro rfl;exact z hx)).mpr (sub x hx)
  rw[YV hy] at h
  have:=Xp hy
  lia
inductive Rch (es:List (Nat×Nat)) (a:Nat):Nat->Prop
 |refl:Rch es a a
 |step {x y:Nat}:Rch es a x->(x,y)∈es->Rch es a y
abbrev Cl(es:List (Nat×Nat))(S:List Nat):Prop:=∀e∈es,e.1∈S->e.2∈S
def HU{S:List Nat}{a:Nat}(ha:a∈S)(c:Cl es S)(h:Rch es a b):b∈S:=by
 induction h with
 |refl=>exact ha
 |step _ m ih=>exact c _ m ih
abbrev dN(n:Nat):Dat:=.int (n:Int)
def rV{ns:List Nat}:dN x∈ns.map dN↔x∈ns:=by
 rw[SE];constructor
 .rintro⟨b,hb,e⟩;have e':=TF.inj e
  have:b=x:=Wp e'
  rw[<- this];exact hb
 .intro h;exact⟨x,h,rfl⟩
def K7(ns:List Nat):∀e∈ns.map dN,kqdOk 8 e=true:=λe he=>by
 obtain⟨b,_,rfl⟩:=SE.mp he;rfl
abbrev uk(K:Fg):Sp:=λvs H Q _=>∃(p:Addr) (xs:List V) (es:List (Nat×Nat)) (a:Nat),vs=[.ref p,.int (a:Int)]/\H p=some (.lst xs)/\RzL K H xs (es.map dP)/\es.length<=100 /\
 ∀(q:Addr) (H':Hp) (ns:List Nat),AccZ K H q H' (ns.map dN)->ns.Nodup->(∀x,x∈ns↔Rch es a x)->Q (.ref q) H'
def vM{K:Fg}(h:Rz K H v (dP q)):∃a:Addr,v=.ref a/\H a=some (.tup [.int (q.1:Int),.int (q.2:Int)]):=by
 obtain⟨a,xs,e,ha,r⟩:=h.bM;cases RpL.ints_of (ns:=[(q.1:Int),(q.2:Int)]) r;exact⟨a,e,ha⟩
nonrec def zU(K:Fg):TS:=(bo (bY K (aa 0)) (cf K 2 (aS (ak 4) (aS (ak 5) cj)))
 (a4 (oA (aK (ar (i_ K false) (aa 4) (aa 2))) (aK (ar (i_ K true) (aa 5) (aa 2))))
 (bF (dJ K "list" aJ (aa 2) (ac (aa 5) ae)))
 be))
abbrev tM(K:Fg):TS:=(ao (ay (bK (ac (aa 1) ae)) (ak 2))
 (ao (bo (cZ (ac (bO (bz K) (ac (aa 0) ae)) ae)) (ak 3)
 (zU K))
 (aA (aa 2))))
def FS{K:Fg}:ρ 6 (uk K) (tM K):=by
 fail "R";obtain⟨p,xs,es,a,rfl,hp,rx,le,k⟩:=h;rw[L2.aI hN];walk_at "t";have lx:UD xs=UD es:=by rw[rx.length,Si]
 unfold tM;cbv;refine⟨cT,λl nl=>?_⟩;have Sl:=ai nl (.lst [.int (a:Int)]);have A0:AccZ K H l (upd H l (.lst [.int (a:Int)])) ([a].map dN):=⟨Sl,nl,[.int (a:Int)],ag,.cons (.int _) .nil⟩
 cbv;refine bH (SqL.of (Sl _ _ hp)) ?_;rw[lx];cbv;have et:((UD es:Nat):Int).toNat=UD es:=by lia
 rw[et]
 refine bR (λi σ H2=>∃(ns:List Nat) (u3 u4 u5:Option V),σ=[⇑p,↥(a:Int),⇑l,u3,u4,u5]/\AccZ K H l H2 (ns.map dN)/\ns.Nodup/\(∀x∈ns,Rch es a x)/\a∈ns/\(∀x∈ns,x∈a :: es.map (·.2))/\(Cl es ns\/i+1<=UD ns))
  ⟨[a],none,none,none,rfl,A0,by simp,λx hx=>by rw[SO.mp hx];exact .refl,by simp,λx hx=>by rw[SO.mp hx];exact Sv,.inr (Sx _)⟩ ?_ ?_
 .rintro i σ H2 hi ⟨ns,u3,u4,u5,rfl,A,nd,rc,ma,sub,cl⟩;cbv;refine fO (SqL.of (A.same _ _ hp)) ?_
  refine bg (xs:=xs) (λj σ H3=>∃(ms:List Nat) (w4 w5:Option V),σ=[⇑p,↥(a:Int),⇑l,some (.int (0+(i:Int))),w4,w5]/\AccZ K H l H3 (ms.map dN)/\ms.Nodup/\(∀x∈ms,Rch es a x)/\a∈ms/\(∀x∈ms,x∈a :: es.map (·.2)) /\
    ((ms=ns/\∀m<j,∀e,es[m]?=some e->e.1∈ns->e.2∈ns)\/(UD ns<(UD ms)/\¬ Cl es ns)))
   ⟨ns,u4,u5,rfl,A,nd,rc,ma,sub,.inl ⟨rfl,λm hm=>absurd hm (TZ _)⟩⟩ ?_ ?_ ?_
  .rintro j σ H3 _ ⟨ms,w4,w5,rfl,B,_⟩;exact SqL.of (B.same _ _ hp)
  .rintro j z σ H3 hz ⟨ms,w4,w5,rfl,B,nd2,rc2,ma2,sub2,alt⟩;obtain⟨dd,g1,g2⟩:=rx.get hz;rw[So] at g1;obtain⟨e,he,rfl⟩:=SA.mp g1;obtain⟨x,y⟩:=e;obtain⟨b,rfl,hb⟩:=vM (g2.same B.same);have mem:(x,y)∈es:=Sq he
   have lm:UD ms<=101:=by
    have:=bQ nd2 sub2
    rw[Tu,Si] at this;lia
   have keep:(x∈ms->y∈ms)->((ms=ns/\∀m<j+1,∀e,es[m]?=some e->e.1∈ns->e.2∈ns)\/(UD ns<(UD ms)/\¬ Cl es ns)):=λz=>by
    rcases alt with⟨e1,e2⟩|q
    .refine .inl ⟨e1,λm hm e' ge=>?_⟩;by_cases mj:m<j
     .exact e2 m mj e' ge
     .have:m=j:=by lia
      rw[this,he] at ge;cases SU ge;rw[<- e1];exact z
    .exact .inr q
   refine bu (SqT.of hb) rfl ?_;cbv;refine OI (d:=dN x) (.int _) B.rep (K7 ms) rfl (λmx=>?_) (λmx=>?_)
   .cbv;refine gR (d:=dN y) (.int _) B.rep (K7 ms) rfl (λmy=>?_) (λmy=>?_)
    .have ny:y∉ms:=λz=>my (rV.mpr z)
     have mx':=rV.mp mx;cbv;refine⟨B.ty,?_⟩;cbv;refine cx B (d:=dN y) (.int _) (am (by rw[Si];lia)) λH4 B4 _ _ _=>?_
     cbv;refine⟨ms++[y],_,_,rfl,by rw[Sr];exact B4,cB nd2 ny,bV rc2 (.step (rc2 x mx') mem),Te _ ma2,bV sub2 (Sw _ (SE.mpr ⟨_,mem,rfl⟩)),.inr ?_⟩;rcases alt with⟨e1,e2⟩|⟨q1,q2⟩
     .rw[<- e1];exact⟨by simp,λc=>ny (c _ mem mx')⟩
     .exact⟨by simp;lia,q2⟩
    .cbv;exact⟨ms,_,_,rfl,B,nd2,rc2,ma2,sub2,keep λ_=>rV.mp my⟩
   .cbv;exact⟨ms,_,_,rfl,B,nd2,rc2,ma2,sub2,keep λz=>absurd (rV.mpr z) mx⟩
  .rintro σ H3 ⟨ms,w4,w5,rfl,B,nd2,rc2,ma2,sub2,alt⟩;refine⟨ms,_,_,_,rfl,B,nd2,rc2,ma2,sub2,?_⟩;rcases alt with⟨e1,e2⟩|⟨q1,q2⟩
   .refine .inl λe he=>?_
    obtain⟨m,hm,ge⟩:=Uk.mp he;rw[e1];exact e2 m ∅ e (by rw[Sk hm,ge])
   .exact .inr (by have:=cl.resolve_left q2;lia)
 .rintro σ H2 ⟨ns,u3,u4,u5,rfl,A,nd,rc,ma,sub,cl⟩
  have c:Cl es ns:=by
   rcases cl with c|l1
   .exact c
   .have f:=yV nd sub (by rw[Tu,Si];exact l1);exact λe he _=>f _ (Sw _ (SE.mpr ⟨e,he,rfl⟩))
  cbv;exact k l H2 ns A nd λx=>⟨rc x,HU ma c⟩
abbrev wB(K:Fg):Sp:=λvs H Q _=>∃(v:V) (ws:List Str) (ts:List Tn) (n:Nat),vs=[v,.int (n:Int)]/\Rz K H v (dV ws ts)/\ts.length<=100/\n<(aT ts).length/\∀H',Same H H'->Q .non H'
abbrev Av(K:Fg):TS:=(a4 (HM (oz (tB (aw jU [] E0 (ac (aa 1) ae)))) (oz (aK (wn RS yJ (tC (.int 0)) (aa 1) (bO (bz K) (ac (aw (c_ K) [] E0 (ac (aa 0) ae)) ae))))))
 qz
 be)
def Kb{K:Fg}:ρ 2 (wB K) (Av K):=by
 fail "R";obtain⟨v,ws,ts,n,rfl,rv,hl,ln,k⟩:=h;rw[L2.aI hN];walk_at "t";unfold Av;cbv;refine⟨(n:Int),rfl,?_⟩;cbv;refine aZ (λ_=>?_) (λz=>absurd z ∅);cbv;refine⟨v,ws,ts,rfl,rv,hl,λp H1 A1=>?_⟩;obtain⟨xs,hp,lx,_⟩:=A1.sq;rw[Si] at lx;cbv;refine bH hp ?_;cbv;refine fU (λz=>absurd z ∅) (λ_=>?_);cbv;exact k H1 A1.same
structure RI (es:List (Nat×Nat)) (a n:Nat) (H3:Hp) (rd ct:Addr) (cs:List Nat) (H:Hp):Prop where
 same:Same H3 H
 dict:∃ab:List (a9×V),H rd=some (.dK ab)/\ab.length<=(UD cs)/\(∀c:Nat,(bJ ab (.inl (c:Int))).isSome=true↔c∈cs)/\∀k v,bJ ab k=some v->∃q xs,v=.ref q/\H q=some (.lst xs)/\q≠ct/\xs.length<=UD cs
 come:H ct=some (.lst (cs.map λc:Nat=>V.int (c:Int)))
 nd:cs.Nodup
 lt:∀c∈cs,c<n
 one:a∈cs
 rch:∀c∈cs,Rch es a c
def RI.on(R:RI es a n H3 rd ct cs H)(S:Same H H'):RI es a n H3 rd ct cs H':=by
 obtain⟨ab,h1,h2,h3,h4⟩:=R.dict;refine⟨R.same.trans S,⟨ab,S _ _ h1,h2,h3,λk v e=>?_⟩,S _ _ R.come,R.nd,R.lt,R.one,R.rch⟩;obtain⟨q,xs,e1,e2,e3⟩:=h4 k v e;exact⟨q,xs,e1,S _ _ e2,e3⟩
def RI.len(R:RI es a n H3 rd ct cs H):UD cs<=n:=by
 have:=bQ (hs:=SJ n) R.nd λx hx=>Tv.mpr (R.lt x hx)
 rwa [SV] at this
def RI.more{ab:List (a9×V)}{y:Nat}(R:RI es a n H3 rd ct cs H)(nr:H3 rd=none)(nc:H3 ct=none)(ed:H rd=some (.dK ab))(ny:y∉cs)(ly:y<n)(ry:Rch es a y)
  (hp:H p=some (.lst xs)) (npc:p≠ct) (lxs:UD xs<=UD cs+1) :
  RI es a n H3 rd ct (cs++[y]) (upd (upd H rd (.dK (cA ab (.inl (y:Int)) (.ref p)))) ct (.lst ((cs.map λc:Nat=>V.int (c:Int))++[.int (y:Int)]))):=by
 obtain⟨kvs',h1,h2,h3,h4⟩:=R.dict;rw[ed] at h1;cases h1;have ncr:rd≠ct:=mf ed R.come (by intro z;cases z);have lp:=cC ab (WE (y:Int):a9) (.ref p);refine⟨λb o q=>?_,⟨_,by rw[aB ncr];exact ag,by rw[SC];simp only[Vj];lia,λc=>?_,λk v e=>?_⟩,by rw[ag,Sr];rfl,cB R.nd ny,bV R.lt ly,Te _ R.one,bV R.rch ry⟩
 .rw[aB (aq q nc),aB (aq q nr)];exact R.same b o q
 .rw[nB,SQ,SO];by_cases e:c=y
  .subst e;simp
  .rw[if_neg (show ¬ ((WE (c:Int):a9)=WE (y:Int)) from λz=>e (Wp (W8 z))),h3 c];simp[e]
 .rw[nB] at e
  have keep:∀q ys,H q=some (.lst ys)->q≠ct->upd (upd H rd (.dK (cA ab (.inl (y:Int)) (.ref p)))) ct (.lst ((cs.map λc:Nat=>V.int (c:Int))++[.int (y:Int)])) q=some (.lst ys):=λq ys hq nq=>by
   rw[aB nq,aB (mf hq ed (by intro z;cases z))];exact hq
  rw[SC];simp only[Vj];by_cases ek:k=.inl (y:Int)
  .rw[if_pos ek] at e;exact⟨p,xs,(SU e).symm,keep p xs hp npc,npc,lxs⟩
  .rw[if_neg ek] at e;obtain⟨q,ys,e1,e2,e3,e4⟩:=h4 k v e;exact⟨q,ys,e1,keep q ys e2 e3,e3,∅⟩
abbrev AR(K:Fg):Sp:=λvs H Q _=>∃(v:V) (ws:List Str) (ts:List Tn) (a b:Nat),vs=[v,.int (a:Int),.int (b:Int)]/\Rz K H v (dV ws ts)/\ts.length<=100/\a<(aT ts).length/\b<(aT ts).length /\
 (Rch (aC ts) a b->∀(p:Addr) (H':Hp),Same H H'->Q (.ref p) H')/\(¬ Rch (aC ts) a b->∀H',Same H H'->Q .non H')
nonrec def E_(K:Fg):TS:=(a4 (oA (aK (ar ja (ar (aD K) (aa 9) (tC (.int 0))) (aa 7))) (tB (ub (ar (aD K) (aa 9) (tC (.int 1))) (aa 4))))
 (ao (qW (aa 4) (ar (aD K) (aa 9) (tC (.int 1))) (ar lT (uc (aa 4) (aa 7)) (bK (ac (aa 8) ae))))
 (bF (dJ K "list" aJ (aa 5) (ac (ar (aD K) (aa 9) (tC (.int 1))) ae))))
 be)
nonrec def E9(K:Fg):TS:=(ao (eM (aK (ar yJ (aa 6) (bO (bz K) (ac (aa 5) ae))))
 (ao (ay (ar (bP K) (aa 5) (aa 6)) (ak 7))
 (ao (bo (iw K (ac (aa 3) ae)) (cf K 2 (aS (ak 8) (aS (ak 9) cj)))
 (E_ K))
 (ay (ar bc (aa 6) (tC (.int 1))) (ak 6)))))
 (aA (AD (aa 4) (aa 2))))
nonrec def E8(K:Fg):TS:=(ao (bF (aw (wB K) [] E0 (ac (aa 0) (ac (aa 2) ae))))
 (ao (ay (aw (gJ K) [] E0 (ac (aa 0) ae)) (ak 3))
 (ao (ay (Ju [((aa 1),(bK ae))]) (ak 4))
 (ao (ay (bK (ac (aa 1) ae)) (ak 5))
 (ao (ay (tC (.int 0)) (ak 6))
 (E9 K))))))
abbrev zT(K:Fg):TS:=(ao (bF (aw (wB K) [] E0 (ac (aa 0) (ac (aa 1) ae))))
 (E8 K))
def JZ{K:Fg}:ρ 10 (AR K) (zT K):=by
 fail "R";obtain⟨v,ws,ts,a,b,rfl,rv,hl,la,lb,kyes,kno⟩:=h;rw[L2.aI hN];walk_at "t";have hl2:=pP hl;have eo:=dq ts;unfold zT;cbv;refine⟨v,ws,ts,a,rfl,rv,hl,la,λH1 S1=>?_⟩;cbv;refine⟨v,ws,ts,b,rfl,rv.same S1,hl,lb,λH2 S2=>?_⟩;cbv;refine⟨v,ws,ts,rfl,(rv.same S1).same S2,hl,λpe H3 A3=>?_⟩;have S03:=S1.trans (S2.trans A3.same);obtain⟨xs,hpe,rx⟩:=A3.at_;have le:(aC ts).length=UD ts:=by unfold aC;rw[Si]
 have lx:UD xs=(aC ts).length:=by rw[rx.length,Si]
 generalize aC ts=es at kyes kno rx lx eo le;generalize (aT ts).length=n at la lb hl2 eo;cbv;intro rd nr;have T1:=ai nr (.dK []);unfold jR;cbv;refine⟨by decide,λq0 nq0=>?_⟩;have T2:=ai nq0 (.lst []);unfold jR;refine⟨T2 _ _ ag,[(.inl (a:Int),.ref q0)],rfl,by show 1<=15;decide,?_⟩;have nq:q0≠rd:=(aq (show upd H3 rd (.dK []) rd=some _ from ag) nq0).symm
 have S4:Same H3 (upd (upd (upd H3 rd (.dK [])) q0 (.lst [])) rd (.dK (d_ [] [(.inl (a:Int),.ref q0)]))):=λb' o q=>by
  rw[aB (aq q nr)];exact T2 _ _ (T1 _ _ q)
 have ed:upd (upd (upd H3 rd (.dK [])) q0 (.lst [])) rd (.dK (d_ [] [(.inl (a:Int),.ref q0)])) rd=some (.dK [((.inl (a:Int):a9),.ref q0)]):=ag;have eq0:upd (upd (upd H3 rd (.dK [])) q0 (.lst [])) rd (.dK (d_ [] [(.inl (a:Int),.ref q0)])) q0=some (.lst []):=by rw[aB nq];exact ag
 generalize upd (upd (upd H3 rd (.dK [])) q0 (.lst [])) rd (.dK (d_ [] [(.inl (a:Int),.ref q0)]))=H4 at S4 ed eq0 ⊢;cbv;refine⟨cT,λct nct=>?_⟩;have S5:=ai nct (.lst [.int (a:Int)]);have nc:H3 ct=none:=S4.free nct
 have R0:RI es a n H3 rd ct [a] (upd H4 ct (.lst [.int (a:Int)])):=by
  refine⟨S4.trans S5,⟨_,S5 _ _ ed,by simp,λc=>?_,λk v e=>?_⟩,ag,by simp,λc hc=>by rw[SO.mp hc];exact la,by simp,λc hc=>by rw[SO.mp hc];exact .refl⟩
  .by_cases e:c=a
   .subst e;rw[bB rfl];simp
   .rw[bp (show ¬ (WE (a:Int):a9)=WE (c:Int) from λz=>e (Wp (W8 z)).symm)];simp[e,wk]
  .by_cases e':(WE (a:Int):a9)=k
   .rw[bB e'] at e;exact⟨q0,[],(SU e).symm,S5 _ _ eq0,aq eq0 nct,by simp⟩
   .rw[bp e',wk] at e;cases e
 generalize upd H4 ct (.lst [.int (a:Int)])=H5 at R0;cbv
 refine js (λσ H6=>∃(cs:List Nat) (pl:Nat) (u7 u8 u9:Option V),σ=[some v,↥(a:Int),↥(b:Int),⇑pe,⇑rd,⇑ct,↥(pl:Int),u7,u8,u9]/\RI es a n H3 rd ct cs H6/\pl<=(UD cs)/\∀j<pl,∀x,cs[j]?=some x->∀y,(x,y)∈es->y∈cs)
  (λσ _=>match σ with | [_,_,_,_,_,_,↥pl,_,_,_]=>n-pl.toNat|_=>0) ⟨[a],0,none,none,none,rfl,R0,TV _,λj hj=>absurd hj (TZ _)⟩ ?_ ?_
 .rintro σ H6 ⟨cs,pl,u7,u8,u9,rfl,R,lpl,done⟩;have lcs:=R.len;cbv;refine bH (SqL.of R.come) ?_;rw[Si];cbv;refine aZ (λlt=>?_) (λge=>?_)
  .have lt':pl<UD cs:=by lia
   have ehere:cs[pl]?=some cs[pl]:=Sk lt';have mhere:=Ul lt';generalize cs[pl]=hr at ehere mhere;cbv;refine bX (SqL.of R.come) (v:=.int (hr:Int)) (aM (by rw[So,ehere];rfl)) ?_;cbv;refine⟨pe,xs,rfl,SqL.of (R.same _ _ hpe),?_⟩
   refine dY (xs:=xs) (λi σ H7=>∃(ex:List Nat) (w8 w9:Option V),σ=[some v,↥(a:Int),↥(b:Int),⇑pe,⇑rd,⇑ct,↥(pl:Int),↥(hr:Int),w8,w9]/\RI es a n H3 rd ct (cs++ex) H7/\∀j<i,∀y,es[j]?=some (hr,y)->y∈cs++ex)
    ⟨[],u8,u9,rfl,by rw[Vy];exact R,λj hj=>absurd hj (TZ _)⟩ ?_ ?_ ?_
   .rintro i σ H7 _ ⟨ex,w8,w9,rfl,R7,_⟩;exact SqL.of (R7.same _ _ hpe)
   .rintro i z σ H7 T hz ⟨ex,w8,w9,rfl,R7,dn⟩ nT;obtain⟨dd,g1,g2⟩:=rx.get hz;rw[So] at g1;obtain⟨e,he,rfl⟩:=SA.mp g1;obtain⟨x,y⟩:=e;have mem:(x,y)∈es:=Sq he;have oe:=eo _ mem;have S8:=ai nT (.tup [.int (i:Int),z]);have R8:=R7.on S8;obtain⟨pb,rfl,hpb⟩:=vM ((g2.same R7.same).same S8)
    have keep:(x=hr->y∈cs++ex)->∀j<i+1,∀y',es[j]?=some (hr,y')->y'∈cs++ex:=λq j hj y' ge=>by
     by_cases ji:j<i
     .exact dn j ji y' ge
     .have:j=i:=by lia
      rw[this,he] at ge;have e1:=SU ge;have e2:x=hr:=congrArg ZS e1;have e3:y=y':=congrArg Yu e1;rw[<- e3];exact q e2
    have hT:upd H7 T (.tup [.int (i:Int),.ref pb]) T=some (.tup [.int (i:Int),.ref pb]):=ag;refine bu (SqT.of ag) rfl ?_;cbv;generalize upd H7 T (.tup [.int (i:Int),.ref pb])=H8 at S8 R8 hpb hT ⊢;refine aG (SqT.of hpb) (v:=.int (x:Int)) rfl ?_;cbv;refine aZ (λex1=>?_) (λex1=>?_)
    .have exh:x=hr:=Wp ex1;cbv;refine aG (SqT.of hpb) (v:=.int (y:Int)) rfl ?_;cbv;obtain⟨ab,d1,d2,d3,d4⟩:=id R8.dict;refine⟨rd,_,rfl,(DGet.k d1:DGet H8 rd (kV (.inl (y:Int))) _),?_⟩;by_cases my:y∈cs++ex
     .rw[(d3 y).mpr my];cbv;exact⟨ex,_,_,rfl,R8,keep λ_=>my⟩
     .have nv:(bJ ab (.inl (y:Int))).isSome=false:=by
       cases hh:(bJ ab (.inl (y:Int):a9)).isSome with
       |false=>rfl
       |true=>exact absurd ((d3 y).mp hh) my
      rw[nv];cbv;obtain⟨vh,evh⟩:=WU.mp ((d3 hr).mpr (Te _ mhere));obtain⟨q,zs,rfl,hq,nqc,lz⟩:=d4 _ _ evh;have lall:=R8.len;refine⟨rd,_,rfl,(by have:=(DGet.k d1:DGet H8 rd (kV (.inl (hr:Int))) _);rw[evh] at this;exact this),?_⟩;cbv;refine⟨cT,λp1 np1=>?_⟩;have S9:=ai np1 (.lst [.int (i:Int)]);have hp1:upd H8 p1 (.lst [.int (i:Int)]) p1=some (.lst [.int (i:Int)]):=ag;have R9:=R8.on S9;have d9:=S9 _ _ d1;have hq9:=S9 _ _ hq;have hpb9:=S9 _ _ hpb;generalize upd H8 p1 (.lst [.int (i:Int)])=H9 at S9 hp1 R9 d9 hq9 hpb9 ⊢;refine⟨q,p1,zs,_,rfl,rfl,hq9,hp1,by rw[show sizeLine=16777216 by decide];simp only[Vj];lia,λp2 np2=>?_⟩;have S10:=ai np2 (.lst (zs++[.int (i:Int)]));have hp2:upd H9 p2 (.lst (zs++[.int (i:Int)])) p2=some (.lst (zs++[.int (i:Int)])):=ag;have R10:=R9.on S10;have d10:=S10 _ _ d9;have hpb10:=S10 _ _ hpb9;have np2c:p2≠ct:=(aq R9.come np2).symm;generalize upd H9 p2 (.lst (zs++[.int (i:Int)]))=H10 at S10 hp2 R10 d10 hpb10 ⊢;cbv;refine aG (SqT.of hpb10) (v:=.int (y:Int)) rfl ?_;refine⟨rd,_,rfl,(DPut.k d10 (am ∅):DPut H10 rd (kV (.inl (y:Int))) _ _),?_⟩;have ncr:ct≠rd:=(mf d10 R10.come (by intro z;cases z)).symm;have npr:pb≠rd:=mf hpb10 d10 (by intro z;cases z);have hc11:upd H10 rd (.dK (cA ab (.inl (y:Int)) (.ref p2))) ct=some (.lst ((cs++ex).map λc:Nat=>V.int (c:Int))):=by rw[aB ncr];exact R10.come
      have R11:=R10.more (y:=y) (p:=p2) (xs:=zs++[.int (i:Int)]) nr nc d10 my oe.2 (.step (R8.rch x (exh ▸ Te _ mhere)) mem) hp2 np2c (by rw[SC];simp only[Vj];lia);cbv;refine⟨vw hc11,?_⟩;cbv;refine aG (SqT.of (by rw[aB npr];exact hpb10)) (v:=.int (y:Int)) rfl ?_;refine GU ?_;refine GW hc11 (am (by rw[Si];lia)) ?_;cbv;refine⟨ex++[y],_,_,rfl,by rw[<- Ur];exact R11,λj hj y' ge=>?_⟩;rw[<- Ur];by_cases ji:j<i
      .exact Te _ (dn j ji y' ge)
      .have:j=i:=by lia
       rw[this,he] at ge;have e3:y=y':=congrArg Yu (SU ge);exact SW _ (by rw[e3];exact SO.mpr rfl)
    .cbv;exact⟨ex,_,_,rfl,R8,keep λz=>absurd (by rw[z]) ex1⟩
   .rintro σ H7 ⟨ex,w8,w9,rfl,R7,dn⟩;cbv;refine⟨⟨cs++ex,pl+1,_,_,_,rfl,R7,by rw[SC];lia,λj hj x gx y my=>?_⟩,?_⟩
    .by_cases jp:j<pl
     .rw[Tx ∅] at gx;exact Te _ (done j jp x gx y my)
     .have:j=pl:=by lia
      rw[this,Tx lt',ehere] at gx;cases SU gx;obtain⟨m,hm,ge⟩:=Uk.mp my;exact dn m ∅ y (by rw[Sk hm,ge])
    .show n-((pl:Int)+1).toNat<n-((pl:Int)).toNat;lia
  .have epl:pl=UD cs:=by lia
   have cl:Cl es cs:=λe he m1=>by
    obtain⟨j,hj,gj⟩:=Uk.mp m1;exact done j ∅ e.1 (by rw[Sk hj,gj]) e.2 he
   obtain⟨ab,d1,d2,d3,d4⟩:=id R.dict;cbv;refine⟨rd,rfl,.inl ⟨ab,.inl d1⟩,?_⟩;cbv;refine⟨_,(DGet.k d1:DGet H6 rd (kV (.inl (b:Int))) _),?_⟩;cases hv:bJ ab (.inl (b:Int)) with
   |none =>
    refine kno (λr=>?_) H6 (S03.trans R.same)
    have:=(d3 b).mpr (HU R.one cl r)
    rw[hv] at this;cases this
   |some w =>
    obtain⟨q,zs,rfl,_⟩:=d4 _ _ hv;exact kyes (R.rch b ((d3 b).mp (by rw[hv];rfl))) q H6 (S03.trans R.same)
 .rintro σ H' R R' h ⟨w1,e1,w2,e2,p,ys,e3,e4,i,j,e5,e6,kk,e7,q⟩;exact⟨w1,e1,w2,e2,p,ys,e3,e4,i,j,e5,e6,kk,e7,h _ _ q⟩
end Ti
namespace Sz
open PySem L2 Fr G1 Sm Vs G2 Rk
open PySem.W (Dat kqdOk)
abbrev dL(r:List Int):Dat:=.list (r.map TF)
def N6(ns:List Int)(n:Nat):kqdOk (n+1) (dL ns)=true:=by
 show((ns.map TF).all (kqdOk n))=true;rw[Za];intro x hx;obtain⟨i,_,rfl⟩:=SE.mp hx;cases n <;> rfl
def jk{K:Fg}(h:Rp K S H v (dL r)):∃b,v=.ref b/\S b/\H b=some (.lst (r.map V.int)):=by
 obtain⟨b,xs,rfl,s,hb,rx⟩:=Rp.kB h;rw[RpL.ints_of rx] at hb;exact⟨b,rfl,s,hb⟩
def jj{K:Fg}{S:Addr->Prop}{H:Hp}{r:List Int}(s:S b)(h:H b=some (.lst (r.map V.int))):Rp K S H (.ref b) (dL r):=.lst s h (RpL.ints r)
abbrev zj(n:Nat)(R:List (List Int)):Prop:=∀r∈R,∀c∈r,c.natAbs<2 ^ n
def mM{n:Nat}{r:List Int}(h:∀c∈r,c.natAbs<2 ^ n)(p:Nat):(pt r p).natAbs<2 ^ n:=by
 unfold pt;rw[Sj];cases e:r[p]? with
 |none=>exact Zw n
 |some c=>exact h c (Sq e)
def Eg{n:Nat}{by_ r:List Int}(hb:∀c∈by_,c.natAbs<2 ^ n)(hr:∀c∈r,c.natAbs<2 ^ n):∀c∈gW by_ p r,c.natAbs<2 ^ (2*n+1):=by
 intro c hc;unfold gW at hc;obtain⟨i,hi⟩:=Tb hc;rw[T_] at hi;cases e1:r[i]? with
 |none=>rw[e1] at hi;simp at hi
 |some one =>
  cases e2:by_[i]? with
  |none=>rw[e1,e2] at hi;simp at hi
  |some sZ =>
   rw[e1,e2] at hi;have hi':=SU hi;subst hi'
   have m1:(one*pt by_ p).natAbs<2 ^ n*2 ^ n:=by
    rw[Ud];exact V9 (hr one (Sq e1)) (mM hb p)
   have m2:(pt r p*sZ).natAbs<2 ^ n*2 ^ n:=by
    rw[Ud];exact V9 (mM hr p) (hb sZ (Sq e2))
   have e:2 ^ (2*n+1)=2 ^ n*2 ^ n+2 ^ n*2 ^ n:=by
    rw[Uy,ZU n,Xc];lia
   rw[e];generalize one*pt by_ p=x at m1 ⊢;generalize pt r p*sZ=y at m2 ⊢;generalize 2 ^ n*2 ^ n=z at m1 m2 ⊢;show(x-y).natAbs<z+z;lia
def Ip{n:Nat}{x y:Int}(h:n<=20000)(hx:x.natAbs<2 ^ n)(hy:y.natAbs<2 ^ n):EH x y:=⟨Tf hx (Tc (by decide) h),Tf hy (Tc (by decide) h)⟩
def kP{r:List Int}{i:Nat}(h:i<UD r):qe (r.map V.int) ((i:Nat):Int)=some (V.int (pt r i)):=by
 refine aM ?_;unfold pt;rw[So,Sj,Sk h];rfl
abbrev cS(t:Tn):List Int:=Up (λa b=>b-a) t.fr t.to
end Sz
namespace Sf
open Rk Sz
abbrev fp(r:List Int):Option Nat:=r.findIdx? (λx=>decide (x≠0))
def cW{i:Nat}(h:fp r=some i):i<(UD r)/\pt r i≠0/\∀j,j<i->pt r j=0:=by
 unfold fp at h;rw[VO] at h;obtain⟨l,h1,h2⟩:=h;refine⟨l,?_,λj hj=>?_⟩
 .unfold pt;rw[Sj,Sk l];simpa using h1
 .have:=h2 j hj
  unfold pt;rw[Sj,Sk ∅];simpa using this
def vC(h:fp r=none)(q:Nat):pt r q=0:=by
 unfold fp at h;rw[VP] at h;unfold pt;rw[Sj];cases e:r[q]? with
 |none=>rfl
 |some c=>simpa using h c (Sq e)
abbrev bf(r:List Int):Int:=r.foldl Gd.gd 0
def xt(a b:Int):Gd.gd a b∣a/\Gd.gd a b∣b:=⟨Y8 ..,YL ..⟩
def jA:∀(r:List Int) (g:Int),r.foldl Gd.gd g∣g/\∀x∈r,r.foldl Gd.gd g∣x
 |[],g=>⟨Int.dvd_refl g,by simp⟩
 |y :: r,g=>by
  obtain⟨h1,h2⟩:=jA r (Gd.gd g y);obtain⟨d1,d2⟩:=xt g y;refine⟨WW h1 d1,λx hx=>?_⟩;rcases S_.mp hx with rfl|hx
  .exact WW h1 d2
  .exact h2 x hx
def iy(h:pt r i≠0):bf r≠0:=by
 intro z;unfold pt at h;rw[Sj] at h;cases e:r[i]? with
 |none=>rw[e] at h;exact h rfl
 |some c =>
  rw[e] at h
  have:=(jA r 0).2 c (Sq e)
  unfold bf at z;rw[z] at this;exact h (Int.zero_dvd.mp this)
abbrev eI(r:List Int)(i:Nat):Int:=if pt r i<0 then -bf r else bf r
abbrev aV(r:List Int):List Int:=match fp r with
 |none=>r
 |some i=>r.map λx=>x.fdiv (eI r i)
def xF(h:pt r i≠0):eI r i≠0:=by
 have:=iy h
 unfold eI;split <;> lia
def vG(r:List Int)(i:Nat):∀x∈r,eI r i∣x:=λx hx=>by
 have:=(jA r 0).2 x hx
 unfold eI;split
 .exact(YM).mpr this
 .exact this
def ce(r:List Int):(aV r).length=UD r:=by
 unfold aV;split
 .rfl
 .rw[Si]
def gP(r:List Int):∃g:Int,g≠0/\∀q,g*pt (aV r) q=pt r q:=by
 unfold aV;split
 .exact⟨1,by decide,λq=>XW _⟩
 .rename_i i e
  have:=(cW e).2.1
  refine⟨eI r i,xF this,λq=>?_⟩;unfold pt;rw[Sj,So,Sj];cases e2:r[q]? with
  |none=>exact TL _
  |some c=>exact VX (vG r i c (Sq e2))
def w_{n:Nat}{r:List Int}(h:∀c∈r,c.natAbs<2 ^ n):∀c∈aV r,c.natAbs<2 ^ n:=by
 unfold aV;split
 .exact h
 .rename_i i e;intro c hc;obtain⟨x,hx,rfl⟩:=SE.mp hc;exact Tk (Gd.pS (xF (cW e).2.1) (vG r i x hx)) (h x hx)
abbrev stp(row s:List Int):List Int:=aV (gW s ((fp s).getD 0) row)
abbrev aU(row:List Int)(S:List (List Int)):List Int:=S.foldl stp row
abbrev aY(n i:Nat):List Int:=(SJ n).map λo=>if o=i then 1 else 0
structure tf where
 stairs:List (List Int)
 free:List Nat
 makers:List (List Int)
abbrev cU(n:Nat)(st:tf)(i:Nat)(r:List Int):List Int:=aU (r++aY n i) st.stairs
abbrev kc(n:Nat)(st:tf)(i:Nat)(r:List Int):tf :=
 if (fp (cU n st i r)).getD (UD r+n)<(UD r) then ⟨st.stairs++[cU n st i r],st.free++[i],st.makers⟩
 else ⟨st.stairs,st.free,st.makers++[aV ((cU n st i r).drop (UD r))]⟩
abbrev Bp(R:List (List Int)):Nat->tf
 |0=>⟨[],[],[]⟩
 |i+1=>kc (UD R) (Bp R i) i (R.getD i [])
abbrev rowsOf(R:List (List Int))(ix:List Nat):List (List Int):=ix.map λi=>R.getD i []
open Classical in
abbrev grd (R:List (List Int)):Nat->List Nat
 |0=>[]
 |i+1=>if bv (rowsOf R (grd R i)++[R.getD i []]) then grd R i++[i] else grd R i
open Classical in
def kG{R:List (List Int)}{r:List Int}(e:R.getD i []=r)(h:bv (rowsOf R (grd R i)++[r])):grd R (i+1)=grd R i++[i]:=by
 subst e;exact if_pos h
open Classical in
def so{R:List (List Int)}{r:List Int}(e:R.getD i []=r)(h : ¬ bv (rowsOf R (grd R i)++[r])):grd R (i+1)=grd R i:=by
 subst e;exact if_neg h
def eW{s:List Int}:pt (s.take w) q=if q<w then pt s q else 0:=by
 unfold pt;rw[Sj,Zas,Sj];split
 .rfl
 .rfl
def xI{w q:Nat}:∀(d:List Int) (S:List (List Int)),aO d (S.map (W9 w)) q=if q<w then aO d S q else 0
 |[],S=>by cases S <;> simp[aO]
 |x :: d,[]=>by simp[aO]
 |x :: d,s :: S=>by
  have ih:=xI (w:=w) (q:=q) d S;show x*pt (s.take w) q+aO d (S.map (W9 w)) q=_;rw[ih,eW];split
  .rfl
  .simp
def mG{w:Nat}:∀{S:List (List Int)} {ps:List Nat},cK S ps->(∀p∈ps,p<w)->cK (S.map (W9 w)) ps
 |_,_,.nil,_=>.nil
 |_,_,.cons h1 h2 r,hp=>.cons (by rw[eW,if_pos (hp _ Sv)];exact h1) (λt ht=>by
   obtain⟨u,hu,rfl⟩:=SE.mp ht
   rw[eW,if_pos (hp _ Sv)]
   exact h2 u hu) (mG r λp hpp=>hp p (Sw _ hpp))
def sD{w:Nat}(c:Clrd S ps x x')(hp:∀p∈ps,p<w):Clrd (S.map (W9 w)) ps (x.take w) (x'.take w):=by
 obtain⟨d,c0,G,ld,hc,hG,e⟩:=c.made;refine⟨⟨d,c0,G,by rw[ld,Si],hc,hG,λq=>?_⟩,λq hq=>by rw[eW,if_pos (hp q hq)];exact c.nought q hq,by rw[SL,SL,c.len]⟩;rw[eW,eW,xI];split
 .exact e q
 .simp
def Hs{x:List Int}{L:Nat}(lx:x.length=L):∀{S:List (List Int)} {ps:List Nat},cK S ps->(∀s∈S,UD s=L)->S.map fp=ps.map some->Clrd S ps x (aU x S):=by
 have go:∀(T:List (List Int)) (qs:List Nat) (S:List (List Int)) (ps:List Nat) (y:List Int),Clrd S ps x y->UD S=UD ps->cK (S++T) (ps++qs)->(∀s∈T,UD s=L)->T.map fp=qs.map some->Clrd (S++T) (ps++qs) x (aU y T):=by
  intro T
  induction T with
  |nil =>
   intro qs S ps y c _ _ _ e;cases qs with
   |nil=>simpa[aU] using c
   |cons=>simp at e
  |cons s T ih =>
   intro qs S ps y c l st hl e;cases qs with
   |nil=>simp at e
   |cons p qs =>
    obtain⟨e1,e2⟩:=Vo e;rw[show S++s :: T=(S++[s])++T by simp,show ps++p :: qs=(ps++[p])++qs by simp] at st ⊢
    have st':cK (S++[s]) (ps++[p]):=by
     have:∀(T:List (List Int)) {S:List (List Int)} {qs ps:List Nat},UD S=UD ps->cK (S++T) (ps++qs)->cK S ps:=by
      intro T S
      induction S with
      |nil =>
       intro qs ps l _
       have:ps=[]:=T0.mp l.symm
       subst this;exact .nil
      |cons t S ihS =>
       intro qs ps l h;cases ps with
       |nil=>simp at l
       |cons q ps =>
        cases h with
        |cons h1 h2 r=>exact .cons h1 (λu hu=>h2 u (Te _ hu)) (ihS (by simpa using l) r)
     exact this T (by simp[l]) st
    obtain⟨g,hg,eg⟩:=gP (gW s ((fp s).getD 0) y);have ls:UD s=L:=hl s Sv;have ly:y.length=s.length:=by rw[c.len,lx,ls]
    have lz:(stp y s).length=y.length:=by
     unfold stp;rw[ce,kO ly,ly]
    refine ih qs (S++[s]) (ps++[p]) (stp y s) (Clrd.snoc c st' l ly hg lz λq=>?_) (by simp[l]) st (λu hu=>hl u (Sw _ hu)) e2
    have:=eg q
    rw[e1] at this;unfold stp;rw[e1];exact this
 intro S ps st hl e
 have:=go S ps [] [] x Clrd.start rfl st hl e
 simpa using this
abbrev bits(b k:Nat):Nat:=(b+1)*2 ^ k-1
def sI(b k:Nat):bits b (k+1)=2*bits b k+1:=by
 unfold bits;have pos:0<(b+1)*2 ^ k:=UZ (ZaJ _) (Zw k)
 have:(b+1)*2 ^ (k+1)=2*((b+1)*2 ^ k):=by rw[Uy,<- Uv,UE]
 lia
def gY{k m:Nat}(h:k<=m):bits b k<=bits b m:=by
 unfold bits
 have:=Ue (b+1) (Tc (by decide:0<2) h)
 lia
abbrev Mi(b:Nat)(S:List (List Int)):Prop:=∀k s,S[k]?=some s->∀c∈s,c.natAbs<2 ^ bits b k
def gB{b:Nat}{x:List Int}(hx:∀c∈x,c.natAbs<2 ^ b){S:List (List Int)}(hS:Mi b S):∀k,k<=UD S->∀c∈aU x (S.take k),c.natAbs<2 ^ bits b k
 |0,_=>by simpa[aU,bits] using hx
 |k+1,h=>by
  have ih:=gB hx hS k ∅;have lk:k<UD S:=by lia
  rw[SK,Sk lk];show ∀c∈(S.take k++[S[k]]).foldl stp x,c.natAbs<2 ^ bits b (k+1);rw[UJ];show ∀c∈stp (aU x (S.take k)) S[k],c.natAbs<2 ^ bits b (k+1);rw[sI];exact w_ (Eg (hS k _ (Sk lk)) ih)
def wS{w j:Nat}{r:List Int}(lr:UD r=w):pt (r++aY n i) (w+j)=if j<n/\j=i then 1 else 0:=by
 unfold pt aY;rw[Sj,TH ∅,lr,show w+j-w=j by lia,So];by_cases h:j<n
 .rw[TC h];by_cases e:j=i
  .simp[e,e ▸ h]
  .simp[e]
 .rw[Tj (by simpa using h)];simp[h]
def dF:∀{S:List (List Int)},(∀s∈S,pt s q=0)->aO d S q=0:=by
 induction d with
 |nil=>intro S _;cases S <;> rfl
 |cons x d ih =>
  intro S h;cases S with
  |nil=>rfl
  |cons s S =>
   show x*pt s q+aO d S q=0;rw[h s Sv,ih λt ht=>h t (Sw _ ht)];lia
structure SI (R:List (List Int)) (w b i:Nat) (st:tf):Prop where
 sta:∃ps,cK st.stairs ps/\(∀p∈ps,p<w)/\st.stairs.map fp=ps.map some/\Eqv (rowsOf R st.free) (st.stairs.map (W9 w))
 len:∀s∈st.stairs,UD s=w+UD R
 own:∀s∈st.stairs,∀j,i<=j->pt s (w+j)=0
 cnt:st.stairs.length<=i
 bnd:Mi b st.stairs
 free:st.free=grd R i
 mks:st.makers.length<=i
structure RI (R:List (List Int)) (w b i:Nat) (st:tf) (r rest:List Int):Prop where
 len:UD rest=w+UD R
 ne:∃q,fp rest=some q/\q<=w+i
 bnd:∀c∈rest,c.natAbs<2 ^ bits b st.stairs.length
 own:∀j,i+1<=j->pt rest (w+j)=0
 free:bv (rowsOf R (grd R i)++[r])↔∃q,fp rest=some q/\q<w
def JR{st:tf}{r:List Int}(I:SI R w b i st)(hb:1<=b)(hi:i<UD R)(lr:UD r=w)(br:∀c∈r,c.natAbs<2 ^ b) :
  RI R w b i st r (cU R.length st i r)/\∃ps,cK st.stairs ps/\(∀p∈ps,p<w)/\st.stairs.map fp=ps.map some/\Eqv (rowsOf R st.free) (st.stairs.map (W9 w))/\Clrd st.stairs ps (r++aY R.length i) (cU R.length st i r):=by
 obtain⟨ps,s1,s2,s3,s4⟩:=I.sta;have lx:(r++aY R.length i).length=w+UD R:=by unfold aY;rw[SC,Si,SV,lr]
 have C:=Hs lx s1 I.len s3
 have hx:∀c∈r++aY R.length i,c.natAbs<2 ^ b:=by
  intro c hc;rcases SQ.mp hc with m|m
  .exact br c m
  .unfold aY at m;obtain⟨o,_,rfl⟩:=SE.mp m
   have:2 ^ 1<=2 ^ b:=Tc (by decide) hb
   split <;> lia
 have hbn:=gB hx I.bnd st.stairs.length (Sx _);rw[TX] at hbn;obtain⟨d,c,G,ld,hc,hG,e⟩:=C.made
 have at_i:pt (cU R.length st i r) (w+i)≠0:=by
  intro z;have e1:=e (w+i);have z':pt (aU (r++aY R.length i) st.stairs) (w+i)=0:=z;rw[z',wS lr,dF λs hs=>I.own s hs i (Sx _),if_pos ⟨hi,rfl⟩] at e1;lia
 have fq:∃q,fp (cU R.length st i r)=some q/\q<=w+i:=by
  cases f:fp (cU R.length st i r) with
  |none=>exact absurd (vC f (w+i)) at_i
  |some q =>
   refine⟨q,rfl,?_⟩;by_cases l:q<=w+i
   .exact l
   .exact absurd ((cW f).2.2 (w+i) ∅) at_i
 have tk:(r++aY R.length i).take w=r:=by rw[XX ∅,SD ∅]
 refine⟨⟨?_,fq,hbn,λj hj=>?_,?_⟩,ps,s1,s2,s3,s4,C⟩
 .show(aU _ _).length=_;rw[C.len,lx]
 .have e1:=e (w+j);rw[wS lr,dF λs hs=>I.own s hs j ∅,if_neg ∅] at e1
  have:G*pt (cU R.length st i r) (w+j)=0:=by
   show G*pt (aU (r++aY R.length i) st.stairs) (w+j)=0;rw[e1];lia
  exact(TJ.mp this).resolve_left hG
 .rw[<- I.free]
  have:=Ef s4 (mG s1 s2) (sD C s2)
  rw[tk] at this;rw[this];constructor
  .rintro⟨q,hq⟩;rw[eW] at hq;split at hq
   .rename_i lq;obtain⟨q',f1,f2⟩:=fq;refine⟨q',f1,?_⟩;by_cases l:q'<w
    .exact l
    .exact absurd ((cW f1).2.2 q ∅) hq
   .exact absurd rfl hq
  .rintro⟨q,f1,f2⟩;refine⟨q,?_⟩;rw[eW,if_pos f2];exact(cW f1).2.1
def JJ{st:tf}{r:List Int}(I:SI R w b i st)(hb:1<=b)(hr:R[i]?=some r)(lr:UD r=w)(br:∀c∈r,c.natAbs<2 ^ b):SI R w b (i+1) (kc R.length st i r):=by
 have hi:i<UD R:=(Sn.mp hr).1;obtain⟨Y,ps,s1,s2,s3,s4,C⟩:=JR I hb hi lr br;have er:R.getD i []=r:=by rw[Sj,hr];rfl
 unfold kc;generalize hz:cU R.length st i r=z at Y C;obtain⟨q,f1,f2⟩:=Y.ne;rw[f1];show SI R w b (i+1) (if q<(UD r) then _ else _);split
 .rename_i lq;rw[lr] at lq;have fr:bv (rowsOf R (grd R i)++[r]):=Y.free.mpr ⟨q,f1,lq⟩;have tk:(r++aY R.length i).take w=r:=by rw[XX ∅,SD ∅]
  refine⟨⟨ps++[q],s1.snoc C.nought (cW f1).2.1,λp hp=>?_,?_,?_⟩,λs hs=>?_,λs hs j hj=>?_,?_,λk s hk=>?_,?_,ZaT I.mks⟩
  .rcases SQ.mp hp with m|m
   .exact s2 p m
   .rw[SO.mp m];exact lq
  .show(st.stairs++[z]).map fp=_;rw[Sr,Sr,s3];show _++[fp z]=_++[some q]
   rw[f1]
  .show Eqv (rowsOf R (st.free++[i])) ((st.stairs++[z]).map (W9 w));unfold rowsOf at s4 ⊢;rw[Sr,Sr];show Eqv (_++[R.getD i []]) (_++[z.take w]);rw[er];obtain⟨d,c,G,ld,hc,hG,e⟩:=(sD C s2).made;rw[tk] at e;exact s4.snoc ld hc hG e
  .rcases SQ.mp hs with m|m
   .exact I.len s m
   .rw[SO.mp m];exact Y.len
  .rcases SQ.mp hs with m|m
   .exact I.own s m j ∅
   .rw[SO.mp m];exact Y.own j hj
  .show(st.stairs++[z]).length<=i+1;rw[SC];exact WH I.cnt
  .have hk':(st.stairs++[z])[k]?=some s:=hk;by_cases l:k<st.stairs.length
   .rw[Tx l] at hk';exact I.bnd k s hk'
   .rw[TH ∅] at hk'
    have k0:k=st.stairs.length:=by
     have:=(Sn.mp hk').1
     simp at this;lia
    subst k0;rw[ZaM] at hk';rw[<- SU hk'];exact Y.bnd
  .show st.free++[i]=grd R (i+1);rw[I.free];rw[kG er fr]
 .rename_i lq;rw[lr] at lq
  have nf : ¬ bv (rowsOf R (grd R i)++[r]):=λh=>by
   obtain⟨q',g1,g2⟩:=Y.free.mp h;rw[f1] at g1;cases g1;exact lq g2
  refine⟨I.sta,I.len,λs hs j hj=>I.own s hs j ∅,ZaT I.cnt,I.bnd,?_,?_⟩
  .show st.free=grd R (i+1);rw[I.free];rw[so er nf]
  .show(st.makers++[_]).length<=i+1;rw[SC];exact WH I.mks
def A_{R:List (List Int)}{w b:Nat}(hw:Wide w R)(hb:1<=b)(br:zj b R):∀i,i<=UD R->SI R w b i (Bp R i)
 |0,_=>⟨⟨[],.nil,(by simp),rfl,λT=>Zb6⟩,(λs hs=>by cases hs),(λs hs=>by cases hs),Sx _,(λk s hk=>by simp[Bp] at hk),rfl,Sx _⟩
 |i+1,h=>by
  have hr:R[i]?=some (R.getD i []):=by rw[Sj,Sk ∅];rfl
  exact JJ (A_ hw hb br i ∅) hb hr (hw _ (Sq hr)) (br _ (Sq hr))
end Sf
namespace Rw
open PySem L2 Fr G1 Sm Vs G2 Rk Sz Sf
open PySem.W (Dat kqdOk)
abbrev IE(r:List Int):V:=match fp r with
 |some i=>.int i
 |none=>.non
abbrev j3(K:Fg):Sp:=λvs H Q _=>∃(a:Addr) (r:List Int),vs=[.ref a]/\H a=some (.lst (r.map V.int))/\∀H',Same H H'->Q (IE r) H'
def RA{i:Nat}{c:Int}(h:∀j,j<i->pt r j=0)(hi:r[i]?=some c)(hc:c≠0):fp r=some i:=by
 unfold fp;rw[VO];obtain⟨l,e⟩:=Sn.mp hi;refine⟨l,by rw[e];simpa using hc,λj hj=>?_⟩
 have:=h j hj
 unfold pt at this;rw[Sj,Sk ∅] at this;simpa using this
def Ry{r:List Int}(h:∀j,j<UD r->pt r j=0):fp r=none:=by
 unfold fp;rw[VP];intro x hx;obtain⟨j,l,rfl⟩:=Uk.mp hx
 have:=h j l
 unfold pt at this;rw[Sj,Sk l] at this;simpa using this
abbrev t9(K:Fg):TS:=(ao (bo (iw K (ac (aa 0) ae)) (cf K 2 (aS (ak 1) (aS (ak 2) cj)))
 (a4 (aK (ar HV (aa 2) (tC (.int 0))))
 (aA (aa 1))
 be))
 (aA (tC .non)))
def F8{K:Fg}:ρ 3 (j3 K) (t9 K):=by
 fail "R";obtain⟨a,r,rfl,ha,k⟩:=h;rw[L2.aI hN];walk_at "t";unfold t9;cbv;refine⟨a,_,rfl,SqL.of ha,?_⟩;refine dY (xs:=r.map V.int) (λi σ H2=>∃u1 u2:Option V,σ=[⇑a,u1,u2]/\Same H H2/\∀j<i,pt r j=0) ⟨none,none,rfl,Same.refl _,λj hj=>absurd hj (TZ _)⟩ (by rintro i σ H2 _ ⟨_,_,_,S,_⟩;exact SqL.of (S _ _ ha)) ?_ ?_
 .rintro i z σ H2 T hz ⟨u1,u2,rfl,S,d⟩ nT;rw[So] at hz;obtain⟨c,hc,rfl⟩:=SA.mp hz;have S2:=S.trans (ai nT (.tup [.int (i:Int),.int c]));have hT:upd H2 T (.tup [.int (i:Int),.int c]) T=some (.tup [.int (i:Int),.int c]):=ag;generalize upd H2 T (.tup [.int (i:Int),.int c])=H3 at S2 hT ⊢;refine bu (SqT.of hT) rfl ?_;cbv;have ec:pt r i=c:=by unfold pt;rw[Sj,hc];rfl
  refine fU (λnz=>?_) (λz=>?_)
  .cbv
   have:=k H3 S2
   unfold IE at this;rw[RA d hc nz] at this;exact this
  .cbv;refine⟨_,_,rfl,S2,λj hj=>?_⟩;by_cases e:j=i
   .rw[e,ec,z]
   .exact d j ∅
 .rintro σ H2 ⟨u1,u2,rfl,S,d⟩;cbv
  have:=k H2 S
  unfold IE at this;rw[Ry λj hj=>d j (by rw[Si];exact hj)] at this;exact this
abbrev qC(K:Fg):Sp:=λvs H Q _=>∃(a:Addr) (r:List Int),vs=[.ref a]/\H a=some (.lst (r.map V.int))/\r.length<=100/\(∀c∈r,c.natAbs<2 ^ 9000)/\∀(p:Addr) (H':Hp),AccZ K H p H' ((aV r).map TF)->Q (.ref p) H'
def DL{r:List Int}{i:Nat}{c:Int}(h:r[i]?=some c):(r.take (i+1)).foldl Gd.gd 0=Gd.gd ((r.take i).foldl Gd.gd 0) c:=by
 rw[SK,h,UJ];rfl
def DK{n:Nat}(h:pt r i≠0)(hb:∀c∈r,c.natAbs<2 ^ n):(bf r).natAbs<2 ^ n:=by
 have d:bf r∣pt r i:=by
  unfold pt at h ⊢;rw[Sj] at h ⊢;cases e:r[i]? with
  |none=>rw[e] at h;exact absurd rfl h
  |some c=>exact(jA r 0).2 c (Sq e)
 have:=XN ∅ (Int.natAbs_dvd_natAbs.mpr d)
 exact Tk this (mM hb i)
abbrev Fo(K:Fg):Sp:=λvs H Q _=>∃(a:Addr) (r:List Int),vs=[.ref a]/\H a=some (.lst (r.map V.int))/\∀H',Same H H'->Q (.int (bf r)) H'
abbrev Js(K:Fg):TS:=(ao (ay (tC (.int 0)) (ak 1))
 (ao (bo (bY K (aa 0)) (ak 2)
 (ay (aw oP [] E0 (ac (aa 1) (ac (aa 2) ae))) (ak 1)))
 (aA (aa 1))))
def MY{K:Fg}:ρ 3 (Fo K) (Js K):=by
 fail "R";obtain⟨a,r,rfl,ha,k⟩:=h;rw[L2.aI hN];walk_at "t";unfold Js;cbv;refine fO (SqL.of ha) ?_;refine bg (xs:=r.map V.int) (λj σ H2=>∃u3:Option V,σ=[⇑a,some (.int ((r.take j).foldl Gd.gd 0)),u3]/\Same H H2) ⟨_,rfl,Same.refl _⟩ (by rintro j σ H2 _ ⟨_,_,S⟩;exact SqL.of (S _ _ ha)) ?_ ?_
 .rintro j z σ H2 hz ⟨u3,rfl,S⟩;rw[So] at hz;obtain⟨c,hc,rfl⟩:=SA.mp hz;cbv;refine⟨_,_,rfl,?_⟩;cbv;refine⟨_,by rw[DL hc];rfl,S⟩
 .rintro σ H2 ⟨u3,rfl,S⟩;rw[SD (by rw[Si];exact Sx _)];cbv;exact k H2 S
nonrec def Fb(K:Fg):TS:=(ao (ay (aw (Fo K) [] E0 (ac (aa 0) ae)) (ak 2))
 (ao (a4 (aK (ar yJ (ar (bP K) (aa 0) (aa 1)) (tC (.int 0))))
 (ay (Az (rU λi=>.int (-i)) (aa 2)) (ak 2))
 be)
 (aA (ck (bY K (aa 0)) (ar jb (aa 0) (aa 3))))))
abbrev Ae(K:Fg):TS:=(ao (ay (aw (j3 K) [] E0 (ac (aa 0) ae)) (ak 1))
 (ao (a4 (aK (ar BO (aa 1) (tC .non)))
 (aA (bO (eU K) (ac (aa 0) ae)))
 be)
 (Fb K)))
def J3{K:Fg}:ρ 3 (qC K) (Ae K):=by
 fail "R";obtain⟨a,r,rfl,ha,hl,hb,k⟩:=h;rw[L2.aI hN];walk_at "t";unfold Ae;cbv;refine⟨a,r,rfl,ha,λH1 S1=>?_⟩;unfold IE;cases f:fp r with
 |none =>
  cbv;refine aZ (λ_=>?_) (λz=>absurd rfl z);cbv;refine vz (SqL.of (S1 _ _ ha)) λl nl=>?_
  have e:aV r=r:=by unfold aV;rw[f]
  rw[e] at k;exact k l _ ⟨S1.trans (ai nl _),S1.free nl,_,ag,RpL.ints r⟩
 |some i =>
  obtain⟨f1,f2,f3⟩:=cW f;cbv;refine aZ (λz=>by cases z) (λ_=>?_);cbv;refine⟨a,r,rfl,S1 _ _ ha,λH2 S2=>?_⟩;have S:=S1.trans S2;cbv;refine bX (SqL.of (S _ _ ha)) (kP f1) ?_
  have fin:cy (sR K a) (ar jb (aa 0) (aa 3)) [⇑a,↥i,↥(eI r i)] (ends Q).rt H2:=by
   refine bZ (xs:=r.map V.int) λD nD=>⟨λj H3=>AccZ K H D H3 (((aV r).take j).map TF),by simpa using AccZ.start S nD,λj H3 _ A=>SqL.of (A.same _ _ ha),?_,?_⟩
   .intro j x H3 hx A;have lj:=(Sn.mp hx).1;rw[So] at hx;obtain⟨c,hc,rfl⟩:=SA.mp hx;cbv;refine⟨c,eI r i,rfl,rfl,⟨xF f2,?_⟩,?_⟩
    .have:=DK f2 hb
     have e:(eI r i).natAbs=(bf r).natAbs:=by unfold eI;split <;> lia
     rw[e];exact this
    refine aH lj ?_;refine A.bG (.int _) (am (by rw[Si,SL,ce];lia)) λH4 A4=>?_
    have e:(aV r)[j]?=some (c.fdiv (eI r i)):=by unfold aV;rw[f];show(r.map _)[j]? = _;rw[So,hc];rfl
    show AccZ K H D H4 (((aV r).take (j+1)).map TF);rw[SK,e,Sr];exact A4
   .intro H3 A;rw[SD (by rw[ce,Si];exact Sx _)] at A;exact k D H3 A
  cbv;refine aZ (λng=>?_) (λng=>?_)
  .cbv;refine mn (SqL.of (S _ _ ha)) ?_;have e:eI r i = -bf r:=by unfold eI;rw[if_pos ng]
   rw[e] at fin;exact fin
  .cbv;refine mn (SqL.of (S _ _ ha)) ?_;have e:eI r i=bf r:=by unfold eI;rw[if_neg ng]
   rw[e] at fin;exact fin
abbrev PK(K:Fg)(S:Addr->Prop)(H:Hp)(a:Addr)(T:List (List Int)):Prop:=∃xs,H a=some (.lst xs)/\RpL K S H xs (T.map dL)
abbrev JB(K:Fg):Sp:=λvs H Q _=>∃(a s:Addr) (r:List Int) (T:List (List Int)) (b:Nat),vs=[.ref a,.ref s]/\H a=some (.lst (r.map V.int))/\PK K (λ_=>True) H s T/\r.length<=100/\(∀t∈T,UD t=(UD r)/\∃i,fp t=some i)/\(∀c∈r,c.natAbs<2 ^ b)/\Mi b T/\bits b (UD T)<=9000 /\
 ∀(p:Addr) (H':Hp),Same H H'->(p=a\/H p=none)->H' p=some (.lst ((aU r T).map V.int))->Q (.ref p) H'
def sE{r:List Int}:∀{T:List (List Int)},(∀t∈T,UD t=UD r)->(aU r T).length=UD r:=by
 intro T
 have go:∀(T:List (List Int)) (y:List Int),y.length=r.length->(∀t∈T,UD t=UD r)->(aU y T).length=UD r:=by
  intro T
  induction T with
  |nil=>intro y ly _;exact ly
  |cons t T ih =>
   intro y ly h;refine ih (stp y t) ?_ λu hu=>h u (Sw _ hu)
   unfold stp
   have:=h t Sv
   rw[ce,kO ∅];exact this
 exact go T r rfl
def p_{t:List Int}{T:List (List Int)}{i:Nat}(h:T[i]?=some t):aU r (T.take (i+1))=stp (aU r (T.take i)) t:=by
 unfold aU;rw[SK,h,UJ];rfl
nonrec def Fi(K:Fg):TS:=(ay (aw (qC K) [] E0 (ac (c5 (mq K .L .L (ac (aa 0) (ac (aa 2) ae))) 2 (cf K 2 (aS (ak 0) (aS (ak 1) cj))) (ar kf (ar ik (ar (bP K) (aa 4) (aa 5)) (aa 0)) (ar ik (ar (bP K) (aa 2) (aa 5)) (aa 1)))) ae)) (ak 0))
abbrev Au(K:Fg):TS:=(ao (bo (bY K (aa 1)) (ak 2)
 (ao (ay (aw (j3 K) [] E0 (ac (aa 2) ae)) (ak 3))
 (Fi K)))
 (aA (aa 0)))
def Ka{K:Fg}:ρ 4 (JB K) (Au K):=by
 fail "R";obtain⟨a,s,r,T,b,rfl,ha,⟨xs,hs,rx⟩,hl,hT,hb,hB,hbits,k⟩:=h;rw[L2.aI hN];walk_at "t";have lx:UD xs=UD T:=by rw[rx.length,Si]
 unfold Au;cbv;refine fO (SqL.of hs) ?_;refine bg (xs:=xs) (λj σ H2=>∃(p:Addr) (u2 u3:Option V),σ=[⇑p,⇑s,u2,u3]/\Same H H2/\(p=a\/H p=none)/\H2 p=some (.lst ((aU r (T.take j)).map V.int))) ⟨a,none,none,rfl,Same.refl _,.inl rfl,by simpa[aU] using ha⟩ (by rintro j σ H2 _ ⟨_,_,_,_,S,_⟩;exact SqL.of (S _ _ hs)) ?_ ?_
 .rintro j z σ H2 hz ⟨p,u2,u3,rfl,S,hp,h2⟩;obtain⟨d,g1,g2⟩:=rx.get hz;rw[So] at g1;obtain⟨t,ht,rfl⟩:=SA.mp g1;obtain⟨b0,rfl,_,hb0⟩:=jk g2;obtain⟨lt,i,fi⟩:=hT t (Sq ht);obtain⟨f1,f2,f3⟩:=cW fi;have lj:j<UD T:=(Sn.mp ht).1;have ly:(aU r (T.take j)).length=UD r:=sE λt ht=>(hT t (UM ht)).1
  have by_:=gB hb hB j ∅;have bm:bits b (j+1)<=bits b T.length:=gY ∅;rw[sI] at bm;have hBt:=hB j t ht;rw[p_ ht];generalize aU r (T.take j)=y at h2 ly by_ ⊢;cbv;refine⟨b0,t,rfl,S _ _ hb0,λH3 S3=>?_⟩;have fv:IE t=.int i:=by unfold IE;rw[fi]
  rw[fv];have S4:=S.trans S3;have h3:=S3 _ _ h2;cbv;refine⟨p,b0,_,_,rfl,SqL.of h3,SqL.of (S4 _ _ hb0),?_⟩;refine jC (xs:=y.map V.int) (ys:=t.map V.int) λD nD=>⟨λm H5=>AccZ K H3 D H5 (((gW t i y).take m).map TF),AccZ.start (Same.refl _) nD,λm H5 _ C=>⟨SqL.of (C.same _ _ h3),SqL.of (C.same _ _ (S4 _ _ hb0))⟩,?_,?_⟩
  .intro m y1 y2 H5 T' e1 e2 C nT us hu
   obtain⟨u1,u2',rfl⟩:∃u0 u1,us=[u0,u1]:=ex2 hu
   rw[So] at e1 e2;obtain⟨m1,g1,rfl⟩:=SA.mp e1;obtain⟨m2,g2,rfl⟩:=SA.mp e2;have ec:(gW t i y)[m]?=some (m1*pt t i-pt y i*m2):=by unfold gW;rw[T_,g1,g2]
   have lm:=(Sn.mp g1).1;have lm2:=(Sn.mp g2).1;have C2:=C.on (ai nT (.tup [.int m1,.int m2]));have hT':upd H5 T' (.tup [.int m1,.int m2]) T'=some (.tup [.int m1,.int m2]):=ag;generalize upd H5 T' (.tup [.int m1,.int m2])=H7 at C2 hT' ⊢;refine bu (SqT.of hT') rfl ?_;cbv;refine⟨⟨[↥m1,↥m2],rfl,rfl⟩,?_⟩;cbv;refine bX (SqL.of (C2.same _ _ (S4 _ _ hb0))) (kP f1) ?_;cbv;refine⟨pt t i,m1,rfl,rfl,Ip ∅ (mM hBt i) (by_ _ (Sq g1)),?_⟩;cbv;refine bX (SqL.of (C2.same _ _ h3)) (kP ∅) ?_;cbv;refine⟨pt y i,m2,rfl,rfl,Ip ∅ (mM by_ i) (hBt _ (Sq g2)),?_⟩;cbv;refine aH (by rw[Si,Si];lia) ?_;rw[T9 (pt t i) m1];refine C2.bG (.int _) (am ?_) λH8 C8=>?_
   .rw[Si,SL];lia
   .show AccZ K H3 D H8 (((gW t i y).take (m+1)).map TF);rw[SK,ec,Sr];exact C8
  .intro H5 C;have lc:(gW t i y).length=UD t:=kO ∅;rw[SD (by rw[Si,Si];lia)] at C;cbv;refine⟨D,gW t i y,rfl,AccZ.ints C,∅,λc hc=>?_,λp2 H6 A6=>?_⟩
   .exact Tf (Eg hBt by_ c hc) (Tc (by decide) ∅)
   .cbv;refine⟨p2,_,_,rfl,S4.trans (C.same.trans A6.same),.inr ((S4.trans C.same).free A6.new),?_⟩;have e:stp y t=aV (gW t i y):=by unfold stp;rw[fi];rfl
    rw[e];exact AccZ.ints A6
 .rintro σ H2 ⟨p,u2,u3,rfl,S,hp,h2⟩;rw[SD ∅] at h2;cbv;exact k p H2 S hp h2
abbrev SS(H:Hp)(D1 D2 D3:Addr):Addr->Prop:=λa=>H a=none/\a≠D1/\a≠D2/\a≠D3
abbrev ni(l:List Nat):List Int:=l.map λi:Nat=>(i:Int)
structure SH (K:Fg) (H H2:Hp) (D1 D2 D3:Addr) (st:tf):Prop where
 same:Same H H2
 n1:H D1=none
 n2:H D2=none
 n3:H D3=none
 d12:D1≠D2
 d13:D1≠D3
 d23:D2≠D3
 a1:∃xs,H2 D1=some (.lst xs)/\RpL K (SS H D1 D2 D3) H2 xs (st.stairs.map dL)
 a2:H2 D2=some (.lst ((ni st.free).map V.int))
 a3:∃xs,H2 D3=some (.lst xs)/\RpL K (SS H D1 D2 D3) H2 xs (st.makers.map dL)
def SH.on{K:Fg}{st:tf}(A:SH K H H2 D1 D2 D3 st)(e:Same H2 H3):SH K H H3 D1 D2 D3 st:=by
 obtain⟨xs,h1,r1⟩:=A.a1;obtain⟨zs,h3,r3⟩:=A.a3;exact⟨A.same.trans e,A.n1,A.n2,A.n3,A.d12,A.d13,A.d23,⟨xs,e _ _ h1,r1.same e⟩,e _ _ A.a2,⟨zs,e _ _ h3,r3.same e⟩⟩
def SH.Qh{K:Fg}{H H2:Hp}{D1 D2 D3:Addr}{st:tf}{p:Addr}{z:List Int}{i:Nat}(A:SH K H H2 D1 D2 D3 st)(hp:SS H D1 D2 D3 p)(h:H2 p=some (.lst (z.map V.int))):∃xs,H2 D1=some (.lst xs)/\xs.length=st.stairs.length/\upd H2 D1 (.lst (xs++[.ref p])) D2=some (.lst ((ni st.free).map V.int)) /\
  SH K H (upd (upd H2 D1 (.lst (xs++[.ref p]))) D2 (.lst ((ni st.free).map V.int++[.int i]))) D1 D2 D3 ⟨st.stairs++[z],st.free++[i],st.makers⟩:=by
 obtain⟨xs,h1,r1⟩:=A.a1;obtain⟨zs,h3,r3⟩:=A.a3;have e2:upd H2 D1 (.lst (xs++[.ref p])) D2=some (.lst ((ni st.free).map V.int)):=by rw[aB A.d12.symm];exact A.a2
 refine⟨xs,h1,by rw[r1.length,Si],e2,⟨λb o q=>?_,A.n1,A.n2,A.n3,A.d12,A.d13,A.d23,⟨xs++[.ref p],?_,?_⟩,?_,⟨zs,?_,?_⟩⟩⟩
 .rw[aB (aq q A.n2),aB (aq q A.n1)];exact A.same b o q
 .rw[aB A.d12];exact ag
 .show RpL K (SS H D1 D2 D3) _ _ ((st.stairs++[z]).map dL);rw[Sr];exact((r1.append (.cons (jj hp h) .nil)).agr (Agr.dD h1 λw=>w.2.1 rfl)).agr (Agr.dD e2 λw=>w.2.2.1 rfl)
 .show upd _ D2 _ D2=some (.lst ((ni (st.free++[i])).map V.int));rw[ag];unfold ni;rw[Sr,Sr];rfl
 .rw[aB A.d23.symm,aB A.d13.symm];exact h3
 .exact(r3.agr (Agr.dD h1 λw=>w.2.1 rfl)).agr (Agr.dD e2 λw=>w.2.2.1 rfl)
def SH.maker{K:Fg}{st:tf}{z:List Int}(A:SH K H H2 D1 D2 D3 st)(hp:SS H D1 D2 D3 p)(h:H2 p=some (.lst (z.map V.int))):∃xs,H2 D3=some (.lst xs)/\xs.length=st.makers.length /\
  SH K H (upd H2 D3 (.lst (xs++[.ref p]))) D1 D2 D3 ⟨st.stairs,st.free,st.makers++[z]⟩:=by
 obtain⟨xs,h1,r1⟩:=A.a1;obtain⟨zs,h3,r3⟩:=A.a3;refine⟨zs,h3,by rw[r3.length,Si],⟨λb o q=>?_,A.n1,A.n2,A.n3,A.d12,A.d13,A.d23,⟨xs,?_,?_⟩,?_,⟨zs++[.ref p],ag,?_⟩⟩⟩
 .rw[aB (aq q A.n3)];exact A.same b o q
 .rw[aB A.d13];exact h1
 .exact r1.agr (Agr.dD h3 λw=>w.2.2.2 rfl)
 .rw[aB A.d23];exact A.a2
 .show RpL K (SS H D1 D2 D3) _ _ ((st.makers++[z]).map dL);rw[Sr];exact(r3.append (.cons (jj hp h) .nil)).agr (Agr.dD h3 λw=>w.2.2.2 rfl)
abbrev RowV(H:Hp)(x:V)(r:List Int):Prop:=∃c,x=.ref c/\(H c=some (.lst (r.map V.int))\/H c=some (.tup (r.map V.int)))
abbrev cJ(H:Hp)(a:Addr)(R:List (List Int)):Prop:=∃xs,H a=some (.lst xs)/\xs.length=R.length/\∀(i:Nat) (x:V) (r:List Int),xs[i]?=some x->R[i]?=some r->RowV H x r
def RowV.same(h:RowV H x r)(e:Same H H'):RowV H' x r:=by
 obtain⟨c,rfl,h⟩:=h;exact⟨c,rfl,h.imp (e _ _) (e _ _)⟩
abbrev wE(R:List (List Int)):tf:=Bp R (UD R)
abbrev dS(st:tf):Dat:=.tuple [dL (ni st.free),.list (st.makers.map dL)]
abbrev wz(K:Fg):Sp:=λvs H Q _=>∃(a:Addr) (R:List (List Int)) (w b:Nat),vs=[.ref a]/\cJ H a R/\Wide w R/\R.length<=20/\w<=20/\zj b R/\1<=b/\bits b (UD R)<=9000 /\
 ∀(p:Addr) (H':Hp),Same H H'->Rp K (λa=>H a=none) H' (.ref p) (dS (wE R))->Q (.ref p) H'
def FF{R:List (List Int)}{i:Nat}{r:List Int}(h:R[i]?=some r):Bp R (i+1)=kc (UD R) (Bp R i) i r:=by
 show kc (UD R) (Bp R i) i (R.getD i [])=_;rw[Sj,h];rfl
def De{K:Fg}{Q:VK}(e:RowV H x r)(h:∀l,H l=none->Q (.ref l) (upd H l (.lst (r.map V.int)))):eU K [x] H Q:=by
 obtain⟨c,rfl,e|e⟩:=e
 .exact vz (SqL.of e) h
 .exact Dd (SqT.of e) h
def Df{K:Fg}{Q:VK}(e:RowV H x r)(h:Q (.int (UD r)) H):bz K [x] H Q:=by
 obtain⟨c,rfl,e|e⟩:=e
 .exact bH (SqL.of e) (by rw[Si];exact h)
 .exact fT (SqT.of e) (by rw[Si];exact h)
def sB(xs:List V)(k:Nat):jm xs (some (k:Int)) none=xs.drop k:=by
 have e:HT.sIx (UD xs) 0 (some (k:Int))=min k (UD xs):=by
  show(if (k:Int)<0 then ((k:Int)+(UD xs:Nat)).toNat else min (k:Int).toNat (UD xs))=_;rw[if_neg ∅,TW]
 have e2:HT.sIx (UD xs) (UD xs) none=UD xs:=rfl;unfold jm;rw[e,e2];by_cases h:k<=UD xs
 .rw[X4 h,SD (by rw[Ux];exact Sx _)]
 .rw[XC ∅,Zn (Sx _),Zn ∅,List.take_nil]
abbrev ue(K:Fg):Sp:=λvs H Q _=>∃n i:Nat,vs=[.int (n:Int),.int (i:Int)]/\n<=100/\∀(p:Addr) (H':Hp),AccZ K H p H' ((aY n i).map TF)->Q (.ref p) H'
def cP(n i:Nat):(aY n i).length=n:=by unfold aY;rw[Si,SV]
abbrev tD(K:Fg):TS:=(aA (ck (cZ (ac (aa 0) ae)) (Mj (aK (ar ja (aa 0) (aa 2))) (tC (.int 1)) (tC (.int 0)))))
def FL{K:Fg}:ρ 2 (ue K) (tD K):=by
 fail "R";obtain⟨n,i,rfl,hn,k⟩:=h;rw[L2.aI hN];walk_at "t";unfold tD;cbv;rw[TW];refine bU (n:=n) λD nD=>⟨λj H4=>AccZ K H D H4 (((aY n i).take j).map TF),by simpa using AccZ.start (Same.refl _) nD,?_,?_⟩
 .intro j H4 hj B;have eo:(aY n i)[j]?=some (if j=i then 1 else 0):=by unfold aY;rw[So,TC hj];rfl
  have fin:∀(v:Int),v=(if j=i then 1 else 0)->jq D n j (λj H4=>AccZ K H D H4 (((aY n i).take j).map TF)) (.int v) H4:=by
   rintro v rfl;refine aH hj ?_;refine B.bG (.int _) (am (by rw[Si,SL];lia)) λH5 B5=>?_
   show AccZ K H D H5 (((aY n i).take (j+1)).map TF);rw[SK,eo,Sr];exact B5
  rw[UB];cbv;refine aZ (λe=>?_) (λe=>?_)
  .cbv;exact fin 1 (by rw[if_pos ∅])
  .cbv;exact fin 0 (by rw[if_neg ∅])
 intro H4 B;rw[SD (by rw[cP];exact Sx _)] at B;exact k D H4 B
abbrev jc(n:Nat):List (List Int):=(SJ n).map (aY n)
def dC(n:Nat):(jc n).length=n:=by unfold jc;rw[Si,SV]
def gN{n i:Nat}(h:i<n):(jc n)[i]?=some (aY n i):=by unfold jc;rw[So,TC h];rfl
abbrev ga(K:Fg):Sp:=λvs H Q _=>∃n:Nat,vs=[.int (n:Int)]/\n<=100/\∀(p:Addr) (H':Hp),Acc K H p H' ((jc n).map dL)->Q (.ref p) H'
abbrev tw(K:Fg):TS:=(aA (ck (cZ (ac (aa 0) ae)) (aw (ue K) [] E0 (ac (aa 1) (ac (aa 0) ae)))))
def FK{K:Fg}:ρ 1 (ga K) (tw K):=by
 fail "R";obtain⟨n,rfl,hn,k⟩:=h;rw[L2.aI hN];walk_at "t";unfold tw;cbv;rw[TW];refine bU (n:=n) λD nD=>⟨λj H3=>Acc K H D H3 (((jc n).take j).map dL),by simpa using Acc.start nD,?_,?_⟩
 .intro j H3 hj A;rw[UB];cbv;refine⟨n,j,rfl,hn,λp H4 C=>?_⟩;refine aH hj ?_;refine A.bG C.same (d:=dL (aY n j)) C.ref (am (by rw[Si,SL];lia)) λH5 A5=>?_
  show Acc K H D H5 (((jc n).take (j+1)).map dL);rw[SK,gN hj,Sr];exact A5
 .intro H3 A;rw[SD (by rw[dC];exact Sx _)] at A;exact k D H3 A
structure UN (K:Fg) (H H2:Hp) (D1 D2 D3 U:Addr) (n:Nat):Prop where
 s:SS H D1 D2 D3 U
 at_:∃xs,H2 U=some (.lst xs)/\RpL K (SS H D1 D2 D3) H2 xs ((jc n).map dL)
def UN.on{K:Fg}(A:UN K H H2 D1 D2 D3 U n)(e:Same H2 H3):UN K H H3 D1 D2 D3 U n:=by
 obtain⟨xs,h1,r1⟩:=A.at_;exact⟨A.s,xs,e _ _ h1,r1.same e⟩
def UN.upd{K:Fg}{D:Addr}(A:UN K H H2 D1 D2 D3 U n)(hD:D=D1\/D=D2\/D=D3)(h:H2 D=some (.lst l)):UN K H (L2.upd H2 D o) D1 D2 D3 U n:=by
 obtain⟨xs,h1,r1⟩:=A.at_
 have no:∀a,SS H D1 D2 D3 a->a≠D:=λa z e=>by
  rcases hD with rfl|rfl|rfl
  .exact z.2.1 e
  .exact z.2.2.1 e
  .exact z.2.2.2 e
 exact⟨A.s,xs,by rw[aB (no _ A.s)];exact h1,r1.agr (Agr.dD h λw=>no _ w rfl)⟩
def UN.get{K:Fg}{i:Nat}(A:UN K H H2 D1 D2 D3 U n)(hi:i<n):∃xs c,H2 U=some (.lst xs)/\xs[i]?=⇑c/\H2 c=some (.lst ((aY n i).map V.int)):=by
 obtain⟨xs,h1,r1⟩:=A.at_;obtain⟨x,e0,q0⟩:=r1.get' (i:=i) (d:=dL (aY n i)) (by rw[So,gN hi];rfl);obtain⟨c,rfl,_,hc⟩:=jk q0;exact⟨xs,c,h1,e0,hc⟩
nonrec def E7(K:Fg):TS:=(a4 (aK (ar yJ (aw (j3 K) [] E0 (ac (aa 7) ae)) (bO (bz K) (ac (aa 6) ae))))
 (ao (bF (dJ K "list" aJ (aa 1) (ac (aa 7) ae)))
 (bF (dJ K "list" aJ (aa 2) (ac (aa 5) ae))))
 (bF (dJ K "list" aJ (aa 3) (ac (aw (qC K) [] E0 (ac (HL (yI K) (aa 7) (ot (bO (bz K) (ac (aa 6) ae))) f9) ae)) ae))))
nonrec def E6(K:Fg):TS:=(ao (bo (iw K (ac (aa 0) ae)) (cf K 2 (aS (ak 5) (aS (ak 6) cj)))
 (ao (ay (aw (JB K) [] E0 (ac (ar lT (bO (eU K) (ac (aa 6) ae)) (ar (bP K) (aa 4) (aa 5))) (ac (aa 1) ae))) (ak 7))
 (E7 K)))
 (aA (bC (ac (aa 2) (ac (aa 3) ae)))))
abbrev zS(K:Fg):TS:=(ao (ay (bK ae) (ak 1))
 (ao (ay (bK ae) (ak 2))
 (ao (ay (bK ae) (ak 3))
 (ao (ay (aw (ga K) [] E0 (ac (bO (bz K) (ac (aa 0) ae)) ae)) (ak 4))
 (E6 K)))))
def JY{K:Fg}:ρ 8 (wz K) (zS K):=by
 fail "R";obtain⟨a,R,w,b,rfl,⟨xs,ha,lx,rx⟩,hw,hl,hw1,hb,hb1,hbits,k⟩:=h;rw[L2.aI hN];walk_at "t";unfold zS;cbv;refine⟨by decide,λD1 n1=>?_⟩;cbv;refine⟨by decide,λD2 n2=>?_⟩;cbv;refine⟨by decide,λD3 n3=>?_⟩
 have A0:SH K H (upd (upd (upd H D1 (.lst [])) D2 (.lst [])) D3 (.lst [])) D1 D2 D3 (Bp R 0):=by
  have S1:=ai n1 (.lst []);have S2:=ai n2 (.lst []);have S3:=ai n3 (.lst []);have h1:upd H D1 (.lst []) D1=some (.lst []):=ag;have h2:upd (upd H D1 (.lst [])) D2 (.lst []) D2=some (.lst []):=ag;exact⟨S1.trans (S2.trans S3),n1,S1.free n2,(S1.trans S2).free n3,aq h1 n2,aq (S2 _ _ h1) n3,aq h2 n3,⟨[],S3 _ _ (S2 _ _ h1),.nil⟩,S3 _ _ h2,⟨[],ag,.nil⟩⟩
 generalize upd (upd (upd H D1 (.lst [])) D2 (.lst [])) D3 (.lst [])=H0 at A0 ⊢;cbv;refine bH (SqL.of (A0.same _ _ ha)) ?_;rw[lx];cbv;refine⟨R.length,rfl,∅,λU H1 AU=>?_⟩
 have B0:UN K H H1 D1 D2 D3 U R.length:=by
  obtain⟨x1,hx1,_⟩:=A0.a1;obtain⟨x3,hx3,_⟩:=A0.a3;have ss:∀q,H0 q=none->SS H D1 D2 D3 q:=λq nq=>⟨A0.same.free nq,(aq hx1 nq).symm,(aq A0.a2 nq).symm,(aq hx3 nq).symm⟩
  obtain⟨ys,hy,ry⟩:=AU.at_;exact⟨ss U AU.new,ys,hy,ry.mono λq z=>ss q z.1⟩
 replace A0:=A0.on AU.same;clear AU;cbv;refine⟨a,xs,rfl,SqL.of (A0.same _ _ ha),?_⟩;refine dY (xs:=xs) (λi σ H2=>∃u5 u6 u7:Option V,σ=[⇑a,⇑D1,⇑D2,⇑D3,⇑U,u5,u6,u7]/\SH K H H2 D1 D2 D3 (Bp R i)/\UN K H H2 D1 D2 D3 U R.length) ⟨none,none,none,rfl,A0,B0⟩ (by rintro i σ H2 _ ⟨_,_,_,_,A,_⟩;exact SqL.of (A.same _ _ ha)) ?_ ?_
 .clear A0 B0 n1 n2 n3;rintro i x σ H2 T hx ⟨u5,u6,u7,rfl,A,B⟩ nT;have li:i<UD R:=by rw[<- lx];exact(Sn.mp hx).1
  obtain⟨r,hr⟩:∃r,R[i]?=some r:=⟨_,Sk li⟩
  have rv:=rx i x r hx hr;have I:=A_ hw hb1 hb i ∅;have lr:=hw r (Sq hr);have Y:=(JR I hb1 li lr (hb r (Sq hr))).1;have es:=FF hr;rw[es];generalize Bp R i=st at A I Y ⊢;have A2:=A.on (ai nT (.tup [.int (i:Int),x]));have B2:=B.on (ai nT (.tup [.int (i:Int),x]));have hT:upd H2 T (.tup [.int (i:Int),x]) T=some (.tup [.int (i:Int),x]):=ag;generalize upd H2 T (.tup [.int (i:Int),x])=H3 at A2 B2 hT ⊢;refine bu (SqT.of hT) rfl ?_;have lo:(aY R.length i).length=UD R:=cP _ _;cbv;refine De (rv.same A2.same) λl nl=>?_
  have A5:=A2.on (ai nl (.lst (r.map V.int)));have B5:=B2.on (ai nl (.lst (r.map V.int)));have hl5:upd H3 l (.lst (r.map V.int)) l=some (.lst (r.map V.int)):=ag;generalize upd H3 l (.lst (r.map V.int))=H5 at A5 B5 hl5 ⊢;obtain⟨us,D,hU,eD,hD5⟩:=B5.get li;cbv;refine bX (SqL.of hU) (v:=.ref D) (aM (j:=i) eD) ?_;cbv;refine⟨l,D,_,_,rfl,rfl,hl5,hD5,?_,λq nq=>?_⟩
  .have:(r.map V.int).length+((aY R.length i).map V.int).length<sizeLine:=am (by rw[Si,Si];lia)
   lia
  rw[<- Sr];have hq6:upd H5 q (.lst ((r++aY R.length i).map V.int)) q=some (.lst ((r++aY R.length i).map V.int)):=ag;have A6:=A5.on (ai nq (.lst ((r++aY R.length i).map V.int)));have B6:=B5.on (ai nq (.lst ((r++aY R.length i).map V.int)));obtain⟨x1,hx1,rx1⟩:=A5.a1;obtain⟨x3,hx3,rx3⟩:=A5.a3;have sq:SS H D1 D2 D3 q:=⟨A5.same.free nq,(aq hx1 nq).symm,(aq A5.a2 nq).symm,(aq hx3 nq).symm⟩
  generalize upd H5 q (.lst ((r++aY R.length i).map V.int))=H6 at hq6 A6 B6 ⊢;cbv;obtain⟨ps,s1,s2,s3,_⟩:=I.sta;have lxo:(r++aY R.length i).length=w+UD R:=by rw[SC,lo,lr]
  have bst:bits b st.stairs.length<=bits b R.length:=gY (by have:=I.cnt;lia);refine⟨q,D1,r++aY R.length i,st.stairs,b,rfl,hq6,?_,∅,λt ht=>⟨by rw[I.len t ht,lxo],?_⟩,?_,I.bnd,∅,λp H7 S7 hp h7=>?_⟩
  .obtain⟨y1,hy1,ry1⟩:=A6.a1;exact⟨y1,hy1,ry1.mono λ_ _=>trivial⟩
  .have:fp t∈st.stairs.map fp:=SE.mpr ⟨t,ht,rfl⟩
   rw[s3] at this;obtain⟨p0,_,e0⟩:=SE.mp this;exact⟨p0,e0.symm⟩
  .intro c hc;rcases SQ.mp hc with m|m
   .exact hb r (Sq hr) c m
   .unfold aY at m;obtain⟨o,_,rfl⟩:=SE.mp m
    have:2 ^ 1<=2 ^ b:=Tc (by decide) hb1
    split <;> lia
  have A7:=A6.on S7;have B7:=B6.on S7
  have sp:SS H D1 D2 D3 p:=by
   rcases hp with rfl|np
   .exact sq
   .obtain⟨y1,hy1,_⟩:=A6.a1;obtain⟨y3,hy3,_⟩:=A6.a3;exact⟨A6.same.free np,(aq hy1 np).symm,(aq A6.a2 np).symm,(aq hy3 np).symm⟩
  have h7':H7 p=some (.lst ((cU R.length st i r).map V.int)):=h7;cbv;refine⟨p,cU R.length st i r,rfl,h7',λH8 S8=>?_⟩;have A8:=A7.on S8;have B8:=B7.on S8;have h8:=S8 _ _ h7';obtain⟨f,f1,f2⟩:=Y.ne;have fv:IE (cU R.length st i r)=.int f:=by unfold IE;rw[f1]
  rw[fv];cbv;refine Df (rv.same A8.same) ?_;cbv;refine aZ (λc=>?_) (λc=>?_)
  .have c':f<UD r:=by lia
   have e1:kc R.length st i r=⟨st.stairs++[cU R.length st i r],st.free++[i],st.makers⟩:=by
    unfold kc;rw[f1];exact if_pos c'
   obtain⟨zs,z1,z2,z3,z4⟩:=A8.Qh (i:=i) sp h8;cbv;refine⟨vw z1,?_⟩;cbv;refine⟨D1,zs,_,rfl,rfl,z1,am (by have:=I.cnt;lia),?_⟩;cbv;refine⟨vw z3,?_⟩;cbv;refine⟨D2,_,_,rfl,rfl,z3,am ?_,?_⟩
   .have:st.free.length<=i:=by
     rw[I.free]
     have:∀i,(grd R i).length<=i:=by
      intro i
      induction i with
      |zero=>exact Sx _
      |succ i ih =>
       by_cases g:bv (rowsOf R (grd R i)++[R.getD i []])
       .rw[kG rfl g,SC];exact WH ih
       .rw[so rfl g];lia
     exact this i
    unfold ni;rw[Si,Si];lia
   .rw[e1];exact⟨_,_,_,rfl,z4,(B8.upd (.inl rfl) z1).upd (.inr (.inl rfl)) z3⟩
  .have c' : ¬ f<UD r:=by lia
   have e1:kc R.length st i r=⟨st.stairs,st.free,st.makers++[aV ((cU R.length st i r).drop (UD r))]⟩:=by
    unfold kc;rw[f1];exact if_neg c'
   obtain⟨y3,hy3,_⟩:=A8.a3;cbv;refine⟨vw hy3,?_⟩;cbv;refine Df (rv.same A8.same) ?_;cbv;refine⟨p,_,rfl,SqL.of h8,λt nt=>?_⟩;rw[sB,<- Zaf];have A9:=A8.on (ai nt (.lst (((cU R.length st i r).drop (UD r)).map V.int)));have B9:=B8.on (ai nt (.lst (((cU R.length st i r).drop (UD r)).map V.int)));have h9:upd H8 t (.lst (((cU R.length st i r).drop (UD r)).map V.int)) t=some (.lst (((cU R.length st i r).drop (UD r)).map V.int)):=ag;generalize upd H8 t (.lst (((cU R.length st i r).drop (UD r)).map V.int))=H9 at A9 B9 h9 ⊢;cbv;refine⟨t,_,rfl,h9,by rw[Ux,Y.len];lia,λc hc=>?_,λp2 H10 C2=>?_⟩
   .exact Tf (Y.bnd c (XV hc)) (Tc (by decide) ∅)
   .have A10:=A9.on C2.same;obtain⟨y1,hy1,_⟩:=A9.a1;obtain⟨y4,hy4,_⟩:=A9.a3;have sp2:SS H D1 D2 D3 p2:=⟨A9.same.free C2.new,(aq hy1 C2.new).symm,(aq A9.a2 C2.new).symm,(aq hy4 C2.new).symm⟩
    obtain⟨zs,z1,z2,z3⟩:=A10.maker sp2 (AccZ.ints C2);cbv;refine⟨D3,zs,_,rfl,rfl,z1,am (by have:=I.mks;lia),?_⟩;rw[e1];exact⟨_,_,_,rfl,z3,(B9.on C2.same).upd (.inr (.inr rfl)) z1⟩
 .rintro σ H2 ⟨u5,u6,u7,rfl,A,_⟩;rw[lx] at A;cbv;refine⟨aR,λp np=>?_⟩;obtain⟨x3,h3,r3⟩:=A.a3;have S:=ai np (.tup [.ref D2,.ref D3]);refine k p _ (A.same.trans S) (.tup ag (.cons (jj A.n2 (S _ _ A.a2)) (.cons (.lst A.n3 (S _ _ h3) ((r3.same S).mono λ_ z=>z.1)) .nil)))
abbrev oD(K:Fg):Sp:=λvs H Q _=>∃(v:V) (n:Nat) (ws:List Str) (ts:List Tn) (t:Tn),vs=[v,.int (n:Int)]/\Rz K H v (dV ws ts)/\ts[n]?=some t/\∀z,Rz K H z (dT t)->Q z H
abbrev nP(K:Fg):TS:=(ao (ay (ar (aD K) (aa 0) (tC (.int 1))) (ak 2))
 (ao (a4 (HM (oz (tB (aw jU [] E0 (ac (aa 1) ae)))) (oz (aK (wn RS yJ (tC (.int 0)) (aa 1) (bO (bz K) (ac (aa 2) ae))))))
 qz
 be)
 (aA (ar (aD K) (aa 2) (aa 1)))))
def Bw{K:Fg}:ρ 3 (oD K) (nP K):=by
 fail "R";obtain⟨v,n,ws,ts,t,rfl,rv,ht,k⟩:=h;obtain⟨a,v1,v2,rfl,ha,_,r2⟩:=gA rv;obtain⟨b,xs,rfl,hb,rx⟩:=r2.bM;have lx:UD xs=UD ts:=by rw[rx.length,Si]
 have ln:n<UD ts:=(Sn.mp ht).1;rw[L2.aI hN];walk_at "t";unfold nP;cbv;refine aG (SqT.of ha) (v:=.ref b) rfl ?_;cbv;refine⟨(n:Int),rfl,?_⟩;cbv;refine aZ (λ_=>?_) (λz=>absurd z ∅);cbv;refine fT (SqT.of hb) ?_;cbv;refine fU (λz=>absurd z ∅) (λ_=>?_);cbv;obtain⟨u,eu,ru⟩:=rx.get' (i:=n) (d:=dT t) (by rw[So,ht];rfl);refine aG (SqT.of hb) (v:=u) (aM eu) ?_;exact k u ru
abbrev JC(K:Fg):Sp:=λvs H Q _=>∃(v:V) (n:Nat) (ws:List Str) (ts:List Tn) (t:Tn),vs=[v,.int (n:Int)]/\Rz K H v (dV ws ts)/\ts[n]?=some t/\t.fr.length<=100/\∀(p:Addr) (H':Hp),Same H H'->Rz K H' (.ref p) (dI (cS t))->Q (.ref p) H'
abbrev Jt(K:Fg):TS:=(ao (ay (aw (oD K) [] E0 (ac (aa 0) (ac (aa 1) ae))) (ak 2))
 (aA (bO (eT K) (ac (c5 (mq K .T .T (ac (ar (aD K) (aa 2) (tC (.int 0))) (ac (ar (aD K) (aa 2) (tC (.int 1))) ae))) 2 (cf K 2 (aS (ak 0) (aS (ak 1) cj))) (ar kf (aa 1) (aa 0))) ae))))
def MZ{K:Fg}:ρ 3 (JC K) (Jt K):=by
 fail "R";obtain⟨v,n,ws,ts,t,rfl,rv,ht,hf3,k3⟩:=h;rw[L2.aI hN];walk_at "t";unfold Jt;cbv;refine⟨v,n,ws,ts,t,rfl,rv,ht,λu ru=>?_⟩;obtain⟨at_,w1,w2,w3,rfl,hat,q1,q2,_⟩:=pY ru;obtain⟨b1,rfl,hb1⟩:=dG q1;obtain⟨b2,rfl,hb2⟩:=dG q2;cbv;refine aG (SqT.of hat) (v:=.ref b1) rfl ?_;cbv;refine aG (SqT.of hat) (v:=.ref b2) rfl ?_;cbv;refine⟨b1,b2,_,_,rfl,SqT.of hb1,SqT.of hb2,?_⟩;refine jC (xs:=t.fr.map V.int) (ys:=t.to.map V.int) λD nD=>?_
 have ml:min (t.fr.map V.int).length (t.to.map V.int).length=(cS t).length:=by unfold cS;rw[UW,Si,Si]
 refine⟨λi H2=>AccZ K H D H2 (((cS t).take i).map TF),AccZ.start (Same.refl _) nD,λi H2 _ A=>⟨SqT.of (A.same _ _ hb1),SqT.of (A.same _ _ hb2)⟩,?_,?_⟩
 .intro i y1 y2 H2 T e1 e2 A nT us hu
  obtain⟨u0,u1,rfl⟩:∃u0 u1,us=[u0,u1]:=ex2 hu
  rw[So] at e1 e2;obtain⟨m1,f1,rfl⟩:=SA.mp e1;obtain⟨m2,f2,rfl⟩:=SA.mp e2;have ec:(cS t)[i]?=some (m2-m1):=by unfold cS;rw[T_,f1,f2]
  have li:i<(cS t).length:=(Sn.mp ec).1;refine bu (SqT.of ag) rfl ?_;cbv;refine⟨⟨[↥m1,↥m2],rfl,rfl⟩,?_⟩;cbv;refine aH (by rw[ml];exact li) ?_;refine(A.on (ai nT _)).bG (.int (m2-m1)) (am ?_) λH4 A4=>?_
  .rw[Si,SL]
   have:=(Sn.mp f1).1
   lia
  .show AccZ K H D H4 (((cS t).take (i+1)).map TF);rw[SK,ec,Sr];exact A4
 .intro H2 A;rw[ml,SD (Sx _)] at A;cbv;refine iP (SqL.of (AccZ.ints A)) λp np=>?_
  exact k3 p _ (A.same.trans (ai np _)) (.tup ag (RpL.ints _))
abbrev mJ(K:Fg):Sp:=λvs H Q _=>∃(v:V) (ws:List Str) (ts:List Tn),vs=[v]/\Rz K H v (dV ws ts)/\ts.length<=100/\(∀t∈ts,t.fr.length<=100)/\∀(p:Addr) (H':Hp),AccZ K H p H' ((ts.map cS).map dI)->Q (.ref p) H'
abbrev Aw(K:Fg):TS:=(aA (ck (cZ (ac (bO (bz K) (ac (ar (aD K) (aa 0) (tC (.int 1))) ae)) ae)) (aw (JC K) [] E0 (ac (aa 1) (ac (aa 0) ae)))))
def Kc{K:Fg}:ρ 1 (mJ K) (Aw K):=by
 fail "R";obtain⟨v,ws,ts,rfl,rv,hl,hf,k⟩:=h;have rv0:=rv;obtain⟨a,v1,v2,rfl,ha,_,r2⟩:=gA rv;obtain⟨b,xs,rfl,hb,rx⟩:=r2.bM;have lx:UD xs=UD ts:=by rw[rx.length,Si]
 rw[L2.aI hN];walk_at "t";unfold Aw;cbv;refine aG (SqT.of ha) (v:=.ref b) rfl ?_;cbv;refine fT (SqT.of hb) ?_;cbv;rw[lx,TW];refine bU (n:=ts.length) λD nD=>⟨λj H2=>AccZ K H D H2 (((ts.take j).map cS).map dI),by simpa using AccZ.start (Same.refl _) nD,?_,?_⟩
 .intro j H2 hj A;obtain⟨t,ht⟩:∃t,ts[j]?=some t:=⟨_,Sk hj⟩
  rw[UB];cbv;refine⟨.ref a,j,ws,ts,t,rfl,rv0.same A.same,ht,hf t (Sq ht),λp H3 S3 rp=>?_⟩;refine aH hj ?_;refine(A.on S3).bG rp (am (by rw[Si,Si,SL];lia)) λH4 A4=>?_
  show AccZ K H D H4 (((ts.take (j+1)).map cS).map dI);rw[SK,ht,Sr,Sr];exact A4
 .intro H2 A;rw[SD (Sx _)] at A;exact k D H2 A
abbrev uv(K:Fg):Sp:=λvs H Q _=>∃(a:Addr) (R:List (List Int)) (w b:Nat),vs=[.ref a]/\cJ H a R/\Wide w R/\R.length<=20/\w<=20/\zj b R/\1<=b/\bits b (UD R)<=9000 /\
 ∀(p:Addr) (H':Hp),AccZ K H p H' ((ni (wE R).free).map TF)->Q (.ref p) H'
abbrev t6(K:Fg):TS:=(aA (ar (aD K) (aw (wz K) [] E0 (ac (aa 0) ae)) (tC (.int 0))))
def F5{K:Fg}:ρ 1 (uv K) (t6 K):=by
 fail "R";obtain⟨a,R,w,b,rfl,hr,hw,hl,hw1,hb,hb1,hbits,k⟩:=h;rw[L2.aI hN];walk_at "t";unfold t6;cbv;refine⟨a,R,w,b,rfl,hr,hw,hl,hw1,hb,hb1,hbits,λp H1 S1 rp=>?_⟩;obtain⟨q,xs,e,hq,rx⟩:=rp.bM;cases e;cases rx with
 |cons h1 r1 =>
  obtain⟨c,rfl,nc,hc⟩:=jk h1;cbv;refine aG (SqT.of hq) (v:=.ref c) (aM (j:=0) rfl) ?_;exact k c H1 ⟨S1,nc,_,hc,RpL.ints _⟩
structure qi (w:Nat) (ts:List Tn):Prop where
 le:UD ts<=8
 w5:w<=5
 fr:∀t∈ts,t.fr.length=w
 wide:Wide w (ts.map cS)
 bnd:zj 2 (ts.map cS)
def L0(vo:iA ws ts):qi ws.length ts:=by
 obtain⟨hs,po,_,tk⟩:=vo.turns;have ho:∀t∈ts,iB ws.length t.fr/\iB ws.length t.to:=λt ht=>⟨po.2 _ (tk.ok t ht).1,po.2 _ (tk.ok t ht).2.1⟩
 refine⟨tk.le,vo.w5,λt ht=>(ho t ht).1.1,λr hr=>?_,λr hr c hc=>?_⟩
 .obtain⟨t,ht,rfl⟩:=SE.mp hr;unfold cS;rw[UW,(ho t ht).1.1,(ho t ht).2.1,Zo]
 .obtain⟨t,ht,rfl⟩:=SE.mp hr;unfold cS at hc;obtain⟨i,hi⟩:=Tb hc;rw[T_] at hi;cases e1:t.fr[i]? with
  |none=>rw[e1] at hi;simp at hi
  |some x =>
   cases e2:t.to[i]? with
   |none=>rw[e1,e2] at hi;simp at hi
   |some y =>
    rw[e1,e2] at hi;have hi':=SU hi;have b1:=(ho t ht).1.2 x (Sq e1);have b2:=(ho t ht).2.2 y (Sq e2);show c.natAbs<4;lia
abbrev oK(K:Fg):Sp:=λvs H Q _=>∃(v:V) (ws:List Str) (ts:List Tn) (w:Nat),vs=[v]/\Rz K H v (dV ws ts)/\qi w ts/\∀(p:Addr) (H':Hp),AccZ K H p H' ((ni (wE (ts.map cS)).free).map TF)->Q (.ref p) H'
def JQ{K:Fg}{R:List (List Int)}(A:AccZ K H0 p H (R.map dI)):cJ H p R:=by
 obtain⟨xs,h1,h2⟩:=A.at_;refine⟨xs,h1,by rw[h2.length,Si],λi x r hx hr=>?_⟩;obtain⟨d,g1,g2⟩:=h2.get hx;rw[So,hr] at g1;cases g1;obtain⟨b,rfl,hb⟩:=dG g2;exact⟨b,rfl,.inr hb⟩
def IR{n:Nat}(h:n<=8):bits 2 n<=9000:=Ta (gY h) (by decide)
abbrev t5(K:Fg):TS:=(aA (aw (uv K) [] E0 (ac (aw (mJ K) [] E0 (ac (aa 0) ae)) ae)))
def F4{K:Fg}:ρ 1 (oK K) (t5 K):=by
 fail "R";obtain⟨v,ws,ts,w,rfl,rv,co,k⟩:=h;rw[L2.aI hN];walk_at "t";unfold t5;have t8:=co.le;have w5:=co.w5;cbv;refine⟨v,ws,ts,rfl,rv,∅,λt ht=>by rw[co.fr t ht];lia,λp H1 A1=>?_⟩;cbv;refine⟨p,ts.map cS,w,2,rfl,JQ A1,co.wide,by rw[Si];lia,∅,co.bnd,by decide,IR (by rw[Si];exact t8),λq H2 A2=>?_⟩;exact k q H2 ⟨A1.same.trans A2.same,A1.same.free A2.new,A2.at_⟩
end Rw
namespace Cl
open Rk Sz Sf
abbrev xN(R:List (List Int))(k:Nat):List Int:=R.map λr=>pt r k
abbrev gU(w:Nat)(R:List (List Int)):List (List Int):=(SJ w).map (xN R)
end Cl
namespace Mk
open Rk Sz Sf Cl
def kg(a:List Int)(j:Nat):pt a.tail j=pt a (j+1):=by
 cases a with
 |nil=>rfl
 |cons x a=>rfl
def gT(a:List Int)(r:List Int)(R:List (List Int))(q:Nat):aO a (r :: R) q=pt a 0*pt r q+aO a.tail R q:=by
 cases a with
 |nil=>show(0:Int)=0*pt r q+aO [] R q;cases R <;> simp[aO]
 |cons x a=>rfl
def kN{α β:Int}{q:Nat}:∀{R:List (List Int)} {a b c:List Int},(∀j,pt c j=α * pt a j + β * pt b j)->aO c R q=α * aO a R q + β * aO b R q
 |[],a,b,c,_=>by rw[pU,pU,pU];simp
 |r :: R,a,b,c,h=>by
  have ih:=kN (R:=R) (a:=a.tail) (b:=b.tail) (c:=c.tail) (q:=q) λj=>by rw[kg,kg,kg];exact h (j+1)
  rw[gT,gT,gT,ih,h 0,WB,Vb,Vb,SY,SY];lia
def eY(s:List Int)(w j:Nat):pt (s.drop w) j=pt s (w+j):=by
 unfold pt;rw[Sj,Sj,W3]
def xH{q:Nat}:∀{R:List (List Int)} {a:List Int} {i:Nat} {r:List Int},R[i]?=some r->(∀j,pt a j=if j=i then 1 else 0)->aO a R q=pt r q
 |x :: R,a,0,r,e,h=>by
  have e':x=r:=SU e;have z:aO a.tail R q=0*aO [] R q+0*aO [] R q:=kN λj=>by rw[kg,h (j+1)];simp
  rw[gT,z,h 0,e'];simp
 |x :: R,a,i+1,r,e,h=>by
  have ih:=xH (R:=R) (a:=a.tail) (i:=i) (q:=q) (by simpa using e) λj=>by rw[kg,h (j+1)];simp
  rw[gT,ih,h 0];simp
abbrev Md(w:Nat)(R:List (List Int))(s:List Int):Prop:=∀q<w,pt s q=aO (s.drop w) R q
def Oc{w:Nat}{R:List (List Int)}{r:List Int}{i:Nat}(hr:R[i]?=some r)(lr:UD r=w):Md w R (r++aY (UD R) i):=by
 intro q hq;have hi:i<UD R:=(Sn.mp hr).1
 have e:pt (r++aY (UD R) i) q=pt r q:=by
  unfold pt;rw[Sj,Tx ∅,Sj]
 rw[e];refine(xH hr λj=>?_).symm;rw[eY,wS lr];by_cases z:j=i
 .rw[if_pos ⟨z ▸ hi,z⟩,if_pos z]
 .rw[if_neg (λy=>z y.2),if_neg z]
def Ob(my:Md w R y)(ms:Md w R s)(l:y.length=s.length):Md w R (stp y s):=by
 intro q hq;unfold stp;generalize (fp s).getD 0=p;obtain⟨g,hg,eg⟩:=gP (gW s p y)
 have e1:g*pt (aV (gW s p y)) q=g*aO ((aV (gW s p y)).drop w) R q:=by
  have a1:aO ((gW s p y).drop w) R q=g*aO ((aV (gW s p y)).drop w) R q+0*aO [] R q:=kN λj=>by
   rw[eY,eY,eg (w+j)];simp
  have a2:aO ((gW s p y).drop w) R q=pt s p*aO (y.drop w) R q+(-pt y p)*aO (s.drop w) R q:=kN λj=>by
   rw[eY,eY,eY,rl l,T9 (pt y (w+j)),UY];lia
  rw[eg q,rl l,my q hq,ms q hq];rw[a1,Uq,UF] at a2;rw[a2,T9 (aO (y.drop w) R q),UY];lia
 exact Ug hg e1
def mO{w L:Nat}{R:List (List Int)}:∀(S:List (List Int)) (y:List Int),(∀s∈S,UD s=L/\Md w R s)->y.length=L->Md w R y->Md w R (aU y S)
 |[],y,_,_,m=>m
 |s :: S,y,h,l,m=>by
  have hs:=h s Sv;refine mO S (stp y s) (λt ht=>h t (Sw _ ht)) ?_ (Ob m hs.2 (by rw[l,hs.1]));unfold stp;rw[ce,kO (by rw[l,hs.1]),hs.1]
def DJ{g:Int}:∀(r:List Int) (d:Int),(r.map λx=>g*x).foldl Gd.gd (g*d)=(g.natAbs:Int)*r.foldl Gd.gd d\/(r=[]/\(r.map λx=>g*x).foldl Gd.gd (g*d)=g*d)
 |[],d=>.inr ⟨rfl,rfl⟩
 |x :: r,d=>by
  refine .inl ?_
  have e:Gd.gd (g*d) (g*x)=(g.natAbs:Int)*Gd.gd d x:=by
   unfold Gd.gd;rw[Y9];simp
  show(r.map λx=>g*x).foldl Gd.gd (Gd.gd (g*d) (g*x))=(g.natAbs:Int)*r.foldl Gd.gd (Gd.gd d x);rw[e]
  have abs:∀(r:List Int) (d:Int),(r.map λx=>g*x).foldl Gd.gd ((g.natAbs:Int)*d)=(g.natAbs:Int)*r.foldl Gd.gd d:=by
   intro r
   induction r with
   |nil=>intro d;rfl
   |cons y r ih =>
    intro d
    have e:Gd.gd ((g.natAbs:Int)*d) (g*y)=(g.natAbs:Int)*Gd.gd d y:=by
     unfold Gd.gd
     have:ZbE ((g.natAbs:Int)*d) (g*y)=ZbE (g*d) (g*y):=by
      rw[X7,X7,Ud,Ud,Ud];simp
     rw[this,Y9];simp
    show(r.map λx=>g*x).foldl Gd.gd (Gd.gd ((g.natAbs:Int)*d) (g*y))=_;rw[e,ih];rfl
  exact abs r _
def kI:∀(r:List Int) (d:Int),0<=d->0<=r.foldl Gd.gd d
 |[],d,h=>h
 |x :: r,d,_=>kI r _ (Gd.sr d x)
def wZ{i:Nat}(h:fp r=some i):bf (aV r)=1/\fp (aV r)=some i/\0<pt (aV r) i:=by
 obtain⟨f1,f2,f3⟩:=cW h;have d0:=xF f2;have dd:=vG r i;have el:aV r=r.map λx=>x.fdiv (eI r i):=by unfold aV;rw[h]
 have back:r=(aV r).map λx=>eI r i*x:=by
  rw[el,TY]
  conv=>lhs;rw[<- List.map_id r]
  refine UV λx hx=>?_
  show x=eI r i*x.fdiv (eI r i);rw[VX (dd x hx)]
 have ptl:∀q,eI r i*pt (aV r) q=pt r q:=by
  intro q;rw[el];unfold pt;rw[Sj,So,Sj];cases e2:r[q]? with
  |none=>exact TL _
  |some c=>exact VX (dd c (Sq e2))
 have g0:=iy f2;have gn:0<=bf r:=kI r 0 (XY _);have gp:0<bf r:=by lia
 have da:((eI r i).natAbs:Int)=bf r:=by unfold eI;split <;> lia
 refine⟨?_,?_,?_⟩
 .have:=DJ (g:=eI r i) (aV r) 0
  rw[TL,<- back] at this;rcases this with e|⟨e,_⟩
  .have e':bf r=bf r*bf (aV r):=by rw[da] at e;exact e
   have:bf r*bf (aV r)=bf r*1:=by lia
   exact Ug g0 this
  .rw[e] at back;rw[back] at f1;simp at f1
 .have nz:pt (aV r) i≠0:=λz=>f2 (by rw[<- ptl i,z,TL])
  have l:i<(aV r).length:=by rw[ce];exact f1
  unfold fp;rw[VO];refine⟨l,?_,λj hj=>?_⟩
  .unfold pt at nz;rw[Sj,Sk l] at nz;simpa using nz
  .have z:pt (aV r) j=0:=by
    have:=ptl j
    rw[f3 j hj] at this;exact(TJ.mp this).resolve_left d0
   unfold pt at z;rw[Sj,Sk ∅] at z;simpa using z
 .have e:=ptl i;unfold eI at e;split at e
  .rename_i ng;by_cases z:0<pt (aV r) i
   .exact z
   .have:0<=bf r * -pt (aV r) i:=WC gn ∅
    rw[Vq] at this;rw[UY] at e;lia
  .rename_i ng;by_cases z:0<pt (aV r) i
   .exact z
   .have:0<=bf r * -pt (aV r) i:=WC gn ∅
    rw[Vq] at this;lia
def DN(h:bv M)(n:pt m p≠0)(z:∀t∈M,pt t p=0):bv (M++[m]):=by
 intro a la ha;obtain⟨a1,a2,rfl,l1,l2⟩:=split_len la;obtain⟨x,rfl⟩:∃x,a2=[x]:=US.mp l2
 have x0:x=0:=by
  have:=ha p
  rw[cE _ _ _ l1,dF z] at this;have e:0+(x*pt m p+0)=0:=this;exact(TJ.mp (by lia:x*pt m p=0)).resolve_right n
 intro c hc;rcases SQ.mp hc with q|q
 .refine h a1 l1 (λk=>?_) c q
  have:=ha k
  rw[cE _ _ _ l1,x0] at this;have e:aO a1 M k+(0*pt m k+0)=0:=this;lia
 .rw[SO.mp q];exact x0
def qB:∀{S:List (List Int)} {ps:List Nat},cK S ps->UD S=UD ps
 |_,_,.nil=>rfl
 |_,_,.cons _ _ r=>congrArg (· + 1) (qB r)
def ww{p:Nat}:∀{S:List (List Int)} {ps:List Nat},cK S ps->(∀t∈S,pt t p=0)->p∉ps
 |_,_,.nil,_=>by simp
 |_,_,.cons (s:=s) (p:=q) h1 _ r,z=>λm=>by
  rcases S_.mp m with e|m
  .exact h1 (by rw[<- e];exact z s Sv)
  .exact ww r (λt ht=>z t (Sw _ ht)) m
def wx:∀{S:List (List Int)} {ps:List Nat},cK S ps->ps.Nodup
 |_,_,.nil=>VJ
 |_,_,.cons _ h2 r=>Uj.mpr ⟨ww r h2,wx r⟩
def Fl{w:Nat}(h:cK S ps)(l:∀p∈ps,p<w):UD S<=w:=by
 have:=Ti.bQ (hs:=SJ w) (wx h) λp hp=>Tv.mpr (l p hp)
 rw[SV] at this;rw[qB h];exact this
structure Good (R:List (List Int)) (w b:Nat) (m:List Int):Prop where
 len:m.length=R.length
 nought:∀q,aO m R q=0
 low:bf m=1
 first:∃k,fp m=some k/\0<pt m k
 bnd:∀c∈m,c.natAbs<2 ^ bits b (min w (UD R))
structure MI (R:List (List Int)) (w b i:Nat) (st:tf):Prop where
 cnt:st.makers.length+st.free.length=i
 md:∀s∈st.stairs,Md w R s
 good:∀m∈st.makers,Good R w b m
 last:∀m∈st.makers,∀j,i<=j->pt m j=0
 free:bv st.makers
def Hk{q:Nat}(hw:Wide w R)(hq:w<=q):aO a R q=0:=dF λs hs=>by
 unfold pt;rw[Sj,Tj (by rw[hw s hs];exact hq)];rfl
def Ld{st:tf}{r:List Int}(hw:Wide w R)(I:SI R w b i st)(J:MI R w b i st)(hb:1<=b)(hr:R[i]?=some r)(br:∀c∈r,c.natAbs<2 ^ b):MI R w b (i+1) (kc R.length st i r):=by
 have lr:=hw r (Sq hr);have hi:i<UD R:=(Sn.mp hr).1;obtain⟨Y,ps,s1,s2,s3,s4,C⟩:=JR I hb hi lr br;have lx:(r++aY R.length i).length=w+UD R:=by unfold aY;rw[SC,Si,SV,lr]
 have M:Md w R (cU R.length st i r):=mO st.stairs _ (λs hs=>⟨I.len s hs,J.md s hs⟩) lx (Oc hr lr);have ws:=Fl s1 s2;obtain⟨d,c,G,ld,hc,hG,e⟩:=C.made
 have at_i:pt (cU R.length st i r) (w+i)≠0:=by
  intro z;have e1:=e (w+i);rw[z,wS lr,dF λs hs=>I.own s hs i (Sx _),if_pos ⟨hi,rfl⟩] at e1;lia
 unfold kc;generalize cU R.length st i r=z at Y C M at_i;obtain⟨q,f1,f2⟩:=Y.ne;rw[f1];show MI R w b (i+1) (if q<(UD r) then _ else _);split
 .refine⟨?_,λs hs=>?_,J.good,λm hm j hj=>J.last m hm j ∅,J.free⟩
  .show st.makers.length+(st.free++[i]).length=i+1;rw[SC]
   have:=J.cnt
   show st.makers.length+(st.free.length+1)=i+1;lia
  .rcases SQ.mp hs with m|m
   .exact J.md s m
   .rw[SO.mp m];exact M
 .rename_i lq;rw[lr] at lq;have z0:∀k,k<w->pt z k=0:=λk hk=>(cW f1).2.2 k ∅
  rw[lr];have dn:pt (z.drop w) i≠0:=by rw[eY];exact at_i
  obtain⟨k,fk⟩:∃k,fp (z.drop w)=some k:=by
   cases f:fp (z.drop w) with
   |none=>exact absurd (vC f i) dn
   |some k=>exact⟨k,rfl⟩
  obtain⟨l1,l2,l3⟩:=wZ fk;obtain⟨g,hg,eg⟩:=gP (z.drop w)
  have zero:∀j,pt (z.drop w) j=0->pt (aV (z.drop w)) j=0:=λj h=>by
   have:=eg j
   rw[h] at this;exact(TJ.mp this).resolve_left hg
  have G1:Good R w b (aV (z.drop w)):=by
   refine⟨?_,λq=>?_,l1,⟨k,l2,l3⟩,?_⟩
   .rw[ce,Ux,Y.len];lia
   .by_cases hq:q<w
    .have a1:aO (z.drop w) R q=g*aO (aV (z.drop w)) R q+0*aO [] R q:=kN λj=>by rw[eg j];simp
     rw[<- M q hq,z0 q hq,Uq,UF] at a1;exact(TJ.mp a1.symm).resolve_left hg
    .exact Hk hw ∅
   .refine w_ λc hc=>?_
    exact Tf (Y.bnd c (XV hc)) (Tc (by decide) (gY (by have:=I.cnt;lia)))
  refine⟨?_,J.md,λm hm=>?_,λm hm j hj=>?_,?_⟩
  .show(st.makers++[_]).length+st.free.length=i+1;rw[SC]
   have:=J.cnt
   show st.makers.length+1+st.free.length=i+1;lia
  .rcases SQ.mp hm with y|y
   .exact J.good m y
   .rw[SO.mp y];exact G1
  .rcases SQ.mp hm with y|y
   .exact J.last m y j ∅
   .rw[SO.mp y];exact zero j (by rw[eY];exact Y.own j hj)
  .refine DN (p:=i) J.free (λy=>dn ?_) λt ht=>J.last t ht i (Sx _)
   rw[<- eg i,y,TL]
def Le{R:List (List Int)}{w b:Nat}(hw:Wide w R)(hb:1<=b)(br:zj b R):∀i,i<=UD R->MI R w b i (Bp R i)
 |0,_=>⟨rfl,(λs hs=>by cases hs),(λs hs=>by cases hs),(λs hs=>by cases hs),λa la _ c hc=>by
   have:a=[]:=T0.mp la
   subst this
   cases hc⟩
 |i+1,h=>by
  have hr:R[i]?=some (R.getD i []):=by rw[Sj,Sk ∅];rfl
  exact Ld hw (A_ hw hb br i ∅) (Le hw hb br i ∅) hb hr (br _ (Sq hr))
def Ee(w:Nat)(B:List (List Int)):Wide (UD B) (gU w B):=λr hr=>by
 unfold gU at hr;obtain⟨k,_,rfl⟩:=SE.mp hr;unfold xN;rw[Si]
def xM(w:Nat)(B:List (List Int)):(gU w B).length=w:=by unfold gU;rw[Si,SV]
def Hr(h:zj b B):zj b (gU w B):=λr hr c hc=>by
 unfold gU at hr;obtain⟨k,_,rfl⟩:=SE.mp hr;unfold xN at hc;obtain⟨s,hs,rfl⟩:=SE.mp hc;exact mM (h s hs) k
end Mk
namespace Rw
open PySem L2 Fr G1 Sm Vs G2 Rk Sz Sf Cl
open PySem.W (Dat kqdOk)
abbrev dM(M:List (List Int)):Dat:=.list (M.map dL)
abbrev oI(K:Fg):Sp:=λvs H Q _=>∃(a:Addr) (R:List (List Int)) (w b:Nat),vs=[.ref a]/\cJ H a R/\Wide w R/\R.length<=20/\w<=20/\zj b R/\1<=b/\bits b (UD R)<=9000 /\
 ∀(p:Addr) (H':Hp),Same H H'->Rp K (λa=>H a=none) H' (.ref p) (dM (wE R).makers)->Q (.ref p) H'
abbrev nX(K:Fg):TS:=(aA (ar (aD K) (aw (wz K) [] E0 (ac (aa 0) ae)) (tC (.int 1))))
def BC{K:Fg}:ρ 1 (oI K) (nX K):=by
 fail "R";obtain⟨a,R,w,b,rfl,hr,hw,hl,hw1,hb,hb1,hbits,k⟩:=h;rw[L2.aI hN];walk_at "t";unfold nX;cbv;refine⟨a,R,w,b,rfl,hr,hw,hl,hw1,hb,hb1,hbits,λp H1 S1 rp=>?_⟩;obtain⟨q,xs,e,hq,rx⟩:=rp.bM;cases e;cases rx with
 |cons h1 r1 =>
  cases r1 with
  |cons h2 r2 =>
   cases r2;obtain⟨c,ys,rfl,nc,hc,ry⟩:=Rp.kB h2;cbv;refine aG (SqT.of hq) (v:=.ref c) (aM (j:=1) rfl) ?_;exact k c H1 S1 h2
abbrev oQ(K:Fg):Sp:=λvs H Q _=>∃(a:Addr) (xs:List V) (R:List (List Int)) (w k:Nat),vs=[.ref a,.int (k:Int)]/\H a=some (.lst xs)/\RzL K H xs (R.map dI)/\Wide w R/\k<w/\R.length<=100/\∀(p:Addr) (H':Hp),AccZ K H p H' ((xN R k).map TF)->Q (.ref p) H'
abbrev oi(K:Fg):TS:=(aA (ck (bY K (aa 0)) (ar (aD K) (aa 0) (aa 2))))
def BH{K:Fg}:ρ 2 (oQ K) (oi K):=by
 fail "R";obtain⟨a,xs,R,w,j,rfl,ha,rx,hw,hj,hl,k⟩:=h;rw[L2.aI hN];walk_at "t";have lx:UD xs=UD R:=by rw[rx.length,Si]
 have lc:(xN R j).length=UD R:=by unfold xN;rw[Si]
 unfold oi;cbv;refine mn (SqL.of ha) ?_;refine bZ (xs:=xs) λD nD=>⟨λm H4=>AccZ K H D H4 (((xN R j).take m).map TF),by simpa using AccZ.start (Same.refl _) nD,λm H4 _ C=>SqL.of (C.same _ _ ha),?_,?_⟩
 .intro m x H4 hx C;have lm:=(Sn.mp hx).1;obtain⟨d,g1,g2⟩:=rx.get hx;rw[So] at g1;obtain⟨r,hr,rfl⟩:=SA.mp g1;obtain⟨b0,rfl,hb0⟩:=dG g2;have lr:=hw r (Sq hr);have ecm:(xN R j)[m]?=some (pt r j):=by unfold xN;rw[So,hr];rfl
  cbv;refine aG (SqT.of (C.same _ _ hb0)) (kP ∅) ?_;refine aH lm ?_;refine C.bG (.int _) (am (by rw[Si,SL];lia)) λH5 C5=>?_
  show AccZ K H D H5 (((xN R j).take (m+1)).map TF);rw[SK,ecm,Sr];exact C5
 .intro H4 C;rw[SD ∅] at C;exact k D H4 C
abbrev j4(K:Fg):Sp:=λvs H Q _=>∃(a:Addr) (xs:List V) (R:List (List Int)) (w:Nat),vs=[.ref a]/\H a=some (.lst xs)/\RzL K H xs (R.map dI)/\Wide w R/\R≠[]/\w<=100/\R.length<=100/\∀(p:Addr) (H':Hp),Acc K H p H' ((gU w R).map dL)->Q (.ref p) H'
abbrev jQ(K:Fg):TS:=(aA (ck (cZ (ac (bO (bz K) (ac (ar (bP K) (aa 0) (tC (.int 0))) ae)) ae)) (aw (oQ K) [] E0 (ac (aa 1) (ac (aa 0) ae)))))
def yH{K:Fg}:ρ 1 (j4 K) (jQ K):=by
 fail "R";obtain⟨a,xs,R,w,rfl,ha,rx,hw,hne,hw1,hl,k⟩:=h;rw[L2.aI hN];walk_at "t";unfold jQ
 obtain⟨r0,R',rfl⟩:∃r0 R',R=r0 :: R':=by
  cases R with
  |nil=>exact absurd rfl hne
  |cons r R=>exact⟨r,R,rfl⟩
 obtain⟨x0,e0,q0⟩:=rx.get' (i:=0) (d:=dI r0) rfl;obtain⟨b0,rfl,hb0⟩:=dG q0;have l0:=hw r0 Sv;cbv;refine bX (SqL.of ha) (v:=.ref b0) (aM (j:=0) e0) ?_;cbv;refine fT (SqT.of hb0) ?_;rw[Si,l0];cbv;rw[TW];generalize r0 :: R'=R at *;refine bU (n:=w) λD nD=>⟨λj H3=>Acc K H D H3 (((gU w R).take j).map dL),by simpa using Acc.start nD,?_,?_⟩
 .intro j H3 hj A;have ec:(gU w R)[j]?=some (xN R j):=by unfold gU;rw[So,TC hj];rfl
  rw[UB];cbv;refine⟨a,xs,R,w,j,rfl,A.same _ _ ha,rx.same A.same,hw,hj,hl,λp H4 C=>?_⟩;refine aH hj ?_;refine A.bG C.same (d:=dL (xN R j)) C.ref (am (by rw[Si,SL];lia)) λH5 A5=>?_
  show Acc K H D H5 (((gU w R).take (j+1)).map dL);rw[SK,ec,Sr];exact A5
 .intro H3 A;rw[SD (by rw[Mk.xM];exact Sx _)] at A;exact k D H3 A
def Bt{K:Fg}{R:List (List Int)}(A:Acc K H0 p H (R.map dL)):cJ H p R:=by
 obtain⟨xs,h1,h2⟩:=A.at_;refine⟨xs,h1,by rw[h2.length,Si],λi x r hx hr=>?_⟩;obtain⟨d,g1,g2⟩:=h2.get hx;rw[So,hr] at g1;cases g1;obtain⟨b,rfl,_,hb⟩:=jk g2;exact⟨b,rfl,.inl hb⟩
end Rw
namespace L2
open PySem
def xi{c:TT}{tb:TS}{D:cr}{H:Hp}(W:Nat->St->Hp->Prop)(m:Nat)(h0:W m σ H)(hs:∀m σ H,W m σ H->c σ H λb H1=>if b=true then ∃N:St->Hp->Prop,(∀σ' H',N σ' H'->∃m',m'<m/\W m' σ' H')/\tb {D with nx:=N,ct:=N,bk:=D.nx} σ H1 else D.nx σ H1):eM c tb D σ H:=⟨W,⟨m,h0⟩,hs⟩
def Du{k:Nat}:∀{S:List Nat},O3 (.int (k:Int)) ((Dn.nI S).map V.int)=decide (k∈S)
 |[]=>rfl
 |j :: S=>by
  have ih:=Du (k:=k) (S:=S);show(EI (.int (j:Int)) (.int (k:Int)) || O3 (.int (k:Int)) ((Dn.nI S).map V.int))=_;rw[ih]
  have e:EI (.int (j:Int)) (.int (k:Int))=decide (j=k):=by
   show((j:Int) == (k:Int))=_;by_cases h:j=k
   .subst h;simp
   .have : ¬ (j:Int)=k:=by lia
    simp[h,this]
  rw[e];by_cases h:j=k
  .subst h;simp
  .have:k≠j:=λz=>h z.symm
   simp[h,this]
def sy:∀ns:List Int,(ns.map V.int).all mz=true
 |[]=>rfl
 |n :: ns=>by show(true && (ns.map V.int).all mz)=true;rw[sy ns];rfl
def Rb{K:Fg}{Q:VK}{k:Nat}(e:SqT K H a ((Dn.nI S).map V.int))(h:Q (.bl (decide (k∈S))) H):Qo K false (.int (k:Int)) (.ref a) H Q:=by
 refine⟨a,_,rfl,.inr e,rfl,sy _,?_⟩;show Q (.bl (O3 (.int (k:Int)) _)) H;rw[Du];exact h
def AccZ.ext{K:Fg}(A:AccZ K H0 l H ds)(hb:H b=some (.lst zs))(rz:RzL K H zs es)(n:UD ds+UD es<=1000){Q:VK}(h:∀H2,AccZ K H0 l H2 (ds++es)->(∀{us:List V} {fs:List PySem.W.Dat},RzL K H us fs->RzL K H2 us fs)->(∀c,c≠l->H2 c=H c)->Q .non H2):eV (.ref l) [.ref b] H Q:=by
 obtain⟨xs,h1,h2⟩:=A.at_
 have lz:UD xs+UD zs<=sizeLine:=by
  have:=am n
  rw[h2.length,rz.length];lia
 refine⟨l,b,xs,zs,rfl,rfl,h1,hb,lz,h _ ⟨λc o q=>?_,A.new,_,L2.ag,?_⟩ (λr=>r.agr (Agr.dD h1 λw=>w)) λc hc=>L2.aB hc⟩
 .rw[L2.aB (aq q A.new)];exact A.same c o q
 .exact(h2.append rz).agr (Agr.dD h1 λw=>w)
end L2
namespace Dn
open PySem L2 Fr G1 Sm Vs G2 Rk Sz
open PySem.W (Dat kqdOk)
abbrev dS(S:List Nat):Dat:=dI (nI S)
abbrev jv(K:Fg):Sp:=λvs H Q _=>∃n:Nat,vs=[.int (n:Int)]/\n<=5/\∀(p:Addr) (H':Hp),AccZ K H p H' ((gh n).map dS)->Q (.ref p) H'
def Hn{K:Fg}(h:Rz K H v (dS S)):∃a:Addr,v=.ref a/\H a=some (.tup ((nI S).map V.int)):=dG h
def wV(S:List Nat):(nI S).length=UD S:=Si _
def Io{i:Nat}{x:V}(h:((nI S).map V.int)[i]?=some x):∃k,S[i]?=some k/\x=.int (k:Int):=by
 unfold nI at h;rw[So,So] at h;cases e:S[i]? with
 |none=>rw[e] at h;cases h
 |some k=>rw[e] at h;cases h;exact⟨k,rfl,rfl⟩
def Er{S:List Nat}(h:S≠[]):qe ((nI S).map V.int) (-1)=some (.int ((S.getLastD 0:Nat):Int)):=by
 have e:S.dropLast++[S.getLastD 0]=S:=by
  rw[YC,XZ h];exact Wn h
 have e2:(nI S).map V.int=(nI S.dropLast).map V.int++[V.int ((S.getLastD 0:Nat):Int)]:=by
  conv=>lhs;rw[<- e]
  unfold nI;rw[Sr,Sr];rfl
 rw[e2];exact L2.jF _ _
nonrec def x9(K:Fg):TS:=(ao (bo (bY K (aa 2)) (ak 4)
 (bF (dJ K "list" eV (aa 3) (ac (ck (LK (ac (ar bc (ar (aD K) (aa 4) (Az (rU λi=>.int (-i)) (tC (.int 1)))) (tC (.int 1))) (ac (aa 0) ae))) (ar (M7 K) (aa 5) (bC (ac (aa 0) ae)))) ae))))
 (ay (aa 3) (ak 2)))
nonrec def x8(K:Fg):TS:=(ao (ay (ck (cZ (ac (aa 0) ae)) (bC (ac (aa 0) ae))) (ak 2))
 (ao (eM (aK (ar zm (bO (bz K) (ac (aa 2) ae)) (tC (.int 0))))
 (ao (bF (dJ K "list" eV (aa 1) (ac (aa 2) ae)))
 (ao (ay (bK ae) (ak 3))
 (x9 K))))
 (aA (aa 1))))
abbrev nR(K:Fg):TS:=(ao (ay (bK ae) (ak 1))
 (x8 K))
def By{K:Fg}:ρ 5 (jv K) (nR K):=by
 fail "R";obtain⟨n,rfl,hn,k⟩:=h;rw[L2.aI hN];walk_at "t";have n6:n<6:=by lia
 unfold nR;cbv;refine⟨by decide,λT nT=>?_⟩;have AT:AccZ K H T (upd H T (.lst [])) (([]:List (List Nat)).map dS):=AccZ.start (Same.refl _) nT;have hT0:upd H T (.lst []) T=some (.lst []):=ag;generalize upd H T (.lst [])=H0 at AT hT0 ⊢;cbv;rw[TW];refine bU (n:=n) λL nL=>⟨λj H2=>AccZ K H0 L H2 (((jx n 0).take j).map dS),by simpa using AccZ.start (Same.refl _) nL,?_,?_⟩
 .intro j H2 hj A;have e0:(jx n 0)[j]?=some [j]:=by show((SJ n).map _)[j]? = _;rw[So,TC hj];rfl
  rw[UB];cbv;refine⟨cT,λp np=>?_⟩;refine aH hj ?_;refine(A.on (ai np _)).bG (d:=dS [j]) (.tup ag (RpL.ints (nI [j]))) (am (by rw[Si,SL];lia)) λH3 A3=>?_
  show AccZ K H0 L H3 (((jx n 0).take (j+1)).map dS);rw[SK,e0,Sr];exact A3
 intro H2 A;rw[SD (by show((SJ n).map _).length<=n;rw[Si,SV];exact Sx _)] at A;cbv;have neTL:T≠L:=aq hT0 nL;refine xi (λm σ H3=>∃(i:Nat) (L:Addr) (u3 u4:Option V),m=n-i/\i<=n/\σ=[↥(n:Int),⇑T,⇑L,u3,u4]/\T≠L/\AccZ K H T H3 ((HJ n i).map dS)/\AccZ K H L H3 ((jx n i).map dS)) n ⟨0,L,none,none,rfl,TV _,rfl,neTL,AT.on A.same,⟨AT.same.trans A.same,AT.same.free A.new,A.at_⟩⟩ ?_;clear A neTL nL L AT hT0 nT;rintro m σ H3 ⟨i,L,u3,u4,rfl,hi,rfl,neTL,AT,AL⟩;obtain⟨zs,hz,rz⟩:=AL.at_;have lz:UD zs=(jx n i).length:=by rw[rz.length,Si]
 cbv;refine bH (SqL.of hz) ?_;cbv;refine aZ (λc=>?_) (λc=>?_)
 .have li:i<n:=by
   rcases Vf i n with l|l
   .exact l
   .have e:i=n:=by lia
    subst e;rw[Lf i n6] at lz;rw[lz] at c;exact absurd c (by decide)
  obtain⟨l1,l2⟩:=CK n n6 i ∅;refine⟨λσ H4=>∃(L:Addr) (u3 u4:Option V),σ=[↥(n:Int),⇑T,⇑L,u3,u4]/\T≠L/\AccZ K H T H4 ((HJ n (i+1)).map dS)/\AccZ K H L H4 ((jx n (i+1)).map dS),(by rintro σ' H' ⟨L,u3,u4,e,q⟩;exact ⟨n-(i+1),∅,i+1,L,u3,u4,rfl,∅,e,q⟩),?_⟩;cbv;refine⟨AT.ty,?_⟩;cbv;refine AT.ext hz rz (by rw[Si,Si];lia) λH4 AT4 keep oth=>?_
  have AT4':AccZ K H T H4 ((HJ n (i+1)).map dS):=by
   show AccZ K H T H4 ((HJ n i++jx n i).map dS);rw[Sr];exact AT4
  have hz4:H4 L=some (.lst zs):=by rw[oth L neTL.symm];exact hz
  have nL:=AL.new;have rz4:RzL K H4 zs ((jx n i).map dS):=keep rz;clear AT4 AT AL oth keep hz rz;cbv;refine⟨by decide,λG nG=>?_⟩;have SG:=ai nG (.lst []);have AT5:=AT4'.on SG
  have neTG:T≠G:=by
   obtain⟨_,q,_⟩:=AT4'.at_;exact aq q nG
  have neLG:L≠G:=aq hz4 nG;have AG:AccZ K H G (upd H4 G (.lst [])) ((((jx n i).take 0).flatMap (gu n)).map dS):=⟨AT5.same,AT4'.same.free nG,[],ag,.nil⟩
  have hz5:=SG _ _ hz4;have rz5:=rz4.same SG;generalize upd H4 G (.lst [])=H5 at SG AT5 AG hz5 rz5 ⊢;cbv;refine fO (SqL.of hz5) ?_;refine bg (xs:=zs) (λj σ H6=>∃u4:Option V,σ=[↥(n:Int),⇑T,⇑L,⇑G,u4]/\AccZ K H T H6 ((HJ n (i+1)).map dS)/\H6 L=some (.lst zs)/\RzL K H6 zs ((jx n i).map dS)/\AccZ K H G H6 ((((jx n i).take j).flatMap (gu n)).map dS)) ⟨_,rfl,AT5,hz5,rz5,AG⟩ (by rintro j σ H6 _ ⟨_,_,_,h,_⟩;exact SqL.of h) ?_ ?_
  .clear AT5 hz5 rz5 AG SG AT4' hz4 rz4;rintro j x σ H6 hx ⟨u4,rfl,AT,hz,rz,AG⟩;obtain⟨d,g1,g2⟩:=rz.get hx;rw[So] at g1;obtain⟨S,hS,rfl⟩:=SA.mp g1;obtain⟨b0,rfl,hb0⟩:=Hn g2;have Sin:=Sq hS;obtain⟨S1,S2,S3⟩:=Og n n6 i ∅ S Sin;have S4:=GH n n6 i ∅ S Sin;cbv;refine⟨AG.ty,?_⟩;cbv;refine aG (SqT.of hb0) (Er S1) ?_;cbv
   have lastn:S.getLastD 0<n:=by
    obtain⟨y,ys,rfl⟩:=List.exists_cons_of_ne_nil S1;exact S3 _ (by rw[YC,XZ S1];exact List.getLast_mem S1)
   refine QZ ⟨∅,∅,∅,∅⟩ ?_;rw[show((n:Int)-(((S.getLastD 0:Nat):Int)+1)).toNat=n-(S.getLastD 0+1) by lia];refine bU (n:=n-(S.getLastD 0+1)) λC nC=>⟨λm H7=>AccZ K H6 C H7 (((gu n S).take m).map dS),by simpa using AccZ.start (Same.refl _) nC,?_,?_⟩
   .intro m H7 hm AC;have e0:(gu n S)[m]?=some (S++[S.getLastD 0+1+m]):=by unfold gu;rw[So,TC hm];rfl
    have ev:(((S.getLastD 0:Nat):Int)+1+(m:Int))=((S.getLastD 0+1+m:Nat):Int):=by lia
    rw[ev];cbv;refine⟨cT,λp np=>?_⟩;have Sp:=ai np (.tup [.int ((S.getLastD 0+1+m:Nat):Int)]);have hp:upd H7 p (.tup [.int ((S.getLastD 0+1+m:Nat):Int)]) p=some (.tup [.int ((S.getLastD 0+1+m:Nat):Int)]):=ag;have AC2:=AC.on Sp;generalize upd H7 p (.tup [.int ((S.getLastD 0+1+m:Nat):Int)])=H8 at Sp hp AC2 ⊢;refine⟨b0,p,_,_,rfl,rfl,SqT.of (AC2.same _ _ hb0),SqT.of hp,?_,?_,λz=>(List.cons_ne_nil _ _ z).elim,λ_ q nq=>?_⟩
    .intro z;apply S1
     have:=congrArg UD z
     rw[Si,wV] at this;exact T0.mp this
    .have:=am (n:=S.length+1) ∅
     rw[Si,wV];show (UD S)+1<=sizeLine;lia
    .refine aH hm ?_;refine(AC2.on (ai nq _)).bG (d:=dS (S++[S.getLastD 0+1+m])) ?_ (am (by rw[Si,SL];lia)) λH9 A9=>?_
     .have e:(nI S).map V.int++[.int ((S.getLastD 0+1+m:Nat):Int)]=(nI (S++[S.getLastD 0+1+m])).map V.int:=by
       unfold nI;rw[Sr,Sr];rfl
      rw[e];exact .tup ag (RpL.ints _)
     .show AccZ K H6 C H9 (((gu n S).take (m+1)).map dS);rw[SK,e0,Sr];exact A9
   .intro H7 AC;rw[SD (by unfold gu;rw[Si,SV];exact Sx _)] at AC;obtain⟨cs,hc,rc⟩:=AC.at_;have AG7:=AG.on AC.same;have AT7:=AT.on AC.same;have hz7:=AC.same _ _ hz;have rz7:=rz.same AC.same
    have fl:((jx n i).take (j+1)).flatMap (gu n)=((jx n i).take j).flatMap (gu n)++gu n S:=by
     rw[SK,hS,WP];simp
    have len5:(((jx n i).take (j+1)).flatMap (gu n)).length<=10:=by
     have h1:=(CK n n6 (i+1) ∅).1
     have h2:((jx n i).take (j+1)).flatMap (gu n)++((jx n i).drop (j+1)).flatMap (gu n)=jx n (i+1):=by
      rw[<- WP,Xx];rfl
     rw[<- h2,SC] at h1;lia
    cbv;refine AG7.ext hc rc ?_ λH8 A8 keep oth=>?_
    .rw[fl,SC] at len5;rw[Si,Si];lia
    .obtain⟨ys,hy,ry⟩:=AT7.at_;refine⟨_,rfl,⟨A8.same,AT7.new,ys,by rw[oth T neTG];exact hy,keep ry⟩,by rw[oth L neLG];exact hz7,keep rz7,?_⟩;rw[fl,Sr];exact A8
  .rintro σ H6 ⟨u4,rfl,AT,hz,rz,AG⟩;rw[SD ∅] at AG;cbv;exact⟨G,_,_,rfl,neTG,AT,AG⟩
 .have e:i=n:=by
   rcases Vf i n with l|l
   .have:=V5.mpr (Of n n6 i l)
    exact absurd (show(0:Int)<(UD zs:Nat) by lia) c
   .lia
  subst e;cbv;exact k T H3 AT
abbrev dz(K:Fg):Sp:=λvs H Q _=>∃(v w:V) (h:List Int) (S:List Nat),vs=[v,w]/\Rz K H v (dI h)/\Rz K H w (dS S)/\(∀k∈S,k<UD h)/\S.length<=100/\∀H',Same H H'->Q (.bl (hs h S)) H'
def any_map{α:Type}(f:α->Bool)(l:List α):(l.map f).any id=l.any f:=by rw[List.any_map];rfl
def all_map{α:Type}(f:α->Bool)(l:List α):(l.map f).all id=l.all f:=by rw[ZaU];rfl
abbrev jP(K:Fg):TS:=(aA (bO (Gb K) (ac (ck (mr K (aa 1)) (ar zm (ar (aD K) (aa 1) (aa 0)) (tC (.int 0)))) ae)))
def yG{K:Fg}:ρ 2 (dz K) (jP K):=by
 fail "R";obtain⟨v,w,h,S,rfl,rv,rw_,hS,hl,k⟩:=h;obtain⟨a,rfl,ha⟩:=dG rv;obtain⟨b,rfl,hb⟩:=Hn rw_;rw[L2.aI hN];walk_at "t";unfold jP;cbv;refine yY (SqT.of hb) ?_;have lS:((nI S).map V.int).length=UD S:=by rw[Si,wV]
 refine fJ (xs:=(nI S).map V.int) λD nD=>⟨λj H2=>AccZ K H D H2 (((S.take j).map λk=>decide (0<pt h k)).map WD),by simpa using AccZ.start (Same.refl _) nD,λj H2 _ A=>SqT.of (A.same _ _ hb),?_,?_⟩
 .intro j x H2 hx A;have lj:=(Sn.mp hx).1;obtain⟨m,hm,rfl⟩:=Io hx;cbv;refine aG (SqT.of (A.same _ _ ha)) (kP (hS m (Sq hm))) ?_;cbv;refine aH lj ?_;refine A.bG (d:=.bool (decide (0<pt h m))) (.bl _) (am (by rw[Si,Si,SL];lia)) λH3 A3=>?_
  show AccZ K H D H3 (((S.take (j+1)).map λk=>decide (0<pt h k)).map WD);rw[SK,hm,Sr,Sr];exact A3
 .intro H2 A;rw[lS,SD (Sx _)] at A;cbv;refine OU A.bls ?_;rw[any_map];exact k H2 A.same
abbrev pr(t:Tn):Tp:=(t.fr,t.to)
abbrev jY(K:Fg):Sp:=λvs H Q _=>∃(v w:V) (ws:List Str) (ts:List Tn) (S:List Nat),vs=[v,w]/\Rz K H v (dV ws ts)/\Rz K H w (dS S)/\(∀t∈ts,∀k∈S,k<t.fr.length/\k<t.to.length)/\S.length<=100/\ts.length<=100/\∀H',Same H H'->Q (.bl (isD (ts.map pr) S)) H'
abbrev oJ(K:Fg):Sp:=λvs H Q _=>∃(v w:V) (ws:List Str) (ts:List Tn) (S:List Nat),vs=[v,w]/\Rz K H v (dV ws ts)/\Rz K H w (dS S)/\(∀t∈ts,∀k∈S,k<t.fr.length/\k<t.to.length)/\S.length<=100/\ts.length<=100/\∀H',Same H H'->Q (.bl (isT (ts.map pr) S)) H'
abbrev jN(K:Fg):TS:=(aA (bO (BP K) (ac (ck (mr K (ar (aD K) (aa 0) (tC (.int 1)))) (Fj (aw (dz K) [] E0 (ac (ar (aD K) (aa 0) (tC (.int 0))) (ac (aa 2) ae))) (AA (aw (dz K) [] E0 (ac (ar (aD K) (aa 0) (tC (.int 1))) (ac (aa 2) ae)))))) ae)))
def yE{K:Fg}:ρ 2 (jY K) (jN K):=by
 fail "R";obtain⟨v,w,ws,ts,S,rfl,rv,rw_,hS,hl,ht,k⟩:=h;obtain⟨a,v1,v2,rfl,ha,_,r2⟩:=gA rv;obtain⟨b,xs,rfl,hb,rx⟩:=r2.bM;have lx:UD xs=UD ts:=by rw[rx.length,Si]
 rw[L2.aI hN];walk_at "t";unfold jN;cbv;refine aG (SqT.of ha) (v:=.ref b) rfl ?_;refine yY (SqT.of hb) ?_;refine fJ (xs:=xs) λD nD=>⟨λj H2=>AccZ K H D H2 (((ts.take j).map λt=>hs t.fr S || !hs t.to S).map WD),by simpa using AccZ.start (Same.refl _) nD,λj H2 _ A=>SqT.of (A.same _ _ hb),?_,?_⟩
 .intro j x H2 hx A;have lj:=(Sn.mp hx).1;obtain⟨d,g1,g2⟩:=rx.get hx;rw[So] at g1;obtain⟨t,htj,rfl⟩:=SA.mp g1;obtain⟨c,w1,w2,w3,rfl,hc,q1,q2,_⟩:=pY g2;have hk:=hS t (Sq htj)
  have fin:∀(H3:Hp) (bb:Bool),Same H2 H3->bb=(hs t.fr S || !hs t.to S)->jq D (UD xs) j (λj H2=>AccZ K H D H2 (((ts.take j).map λt=>hs t.fr S || !hs t.to S).map WD)) (.bl bb) H3:=by
   rintro H3 bb S3 rfl;refine aH lj ?_;refine(A.on S3).bG (d:=.bool (hs t.fr S || !hs t.to S)) (.bl _) (am (by rw[Si,Si,SL];lia)) λH4 A4=>?_
   show AccZ K H D H4 (((ts.take (j+1)).map λt=>hs t.fr S || !hs t.to S).map WD);rw[SK,htj,Sr,Sr];exact A4
  cbv;refine aG (SqT.of (A.same _ _ hc)) (v:=w1) rfl ?_;cbv;refine⟨w1,w,t.fr,S,rfl,q1.same A.same,rw_.same A.same,λk h=>(hk k h).1,hl,λH3 S3=>?_⟩;cbv;cases e1:hs t.fr S with
  |true =>
   cbv;exact fin H3 true S3 (by rw[e1];rfl)
  |false =>
   cbv;refine aG (SqT.of ((A.on S3).same _ _ hc)) (v:=w2) rfl ?_;cbv;refine⟨w2,w,t.to,S,rfl,q2.same (A.on S3).same,rw_.same (A.on S3).same,λk h=>(hk k h).2,hl,λH4 S4=>?_⟩;cbv;exact fin H4 _ (S3.trans S4) (by rw[e1];rfl)
 .intro H2 A;rw[lx,SD (Sx _)] at A;cbv;refine Di A.bls ?_;rw[all_map]
  have:=k H2 A.same
  unfold isD at this;rw[ZaU] at this;exact this
abbrev nZ(K:Fg):TS:=(aA (bO (BP K) (ac (ck (mr K (ar (aD K) (aa 0) (tC (.int 1)))) (Fj (aw (dz K) [] E0 (ac (ar (aD K) (aa 0) (tC (.int 1))) (ac (aa 2) ae))) (AA (aw (dz K) [] E0 (ac (ar (aD K) (aa 0) (tC (.int 0))) (ac (aa 2) ae)))))) ae)))
def BE{K:Fg}:ρ 2 (oJ K) (nZ K):=by
 fail "R";obtain⟨v,w,ws,ts,S,rfl,rv,rw_,hS,hl,ht,k⟩:=h;obtain⟨a,v1,v2,rfl,ha,_,r2⟩:=gA rv;obtain⟨b,xs,rfl,hb,rx⟩:=r2.bM;have lx:UD xs=UD ts:=by rw[rx.length,Si]
 rw[L2.aI hN];walk_at "t";unfold nZ;cbv;refine aG (SqT.of ha) (v:=.ref b) rfl ?_;refine yY (SqT.of hb) ?_;refine fJ (xs:=xs) λD nD=>⟨λj H2=>AccZ K H D H2 (((ts.take j).map λt=>hs t.to S || !hs t.fr S).map WD),by simpa using AccZ.start (Same.refl _) nD,λj H2 _ A=>SqT.of (A.same _ _ hb),?_,?_⟩
 .intro j x H2 hx A;have lj:=(Sn.mp hx).1;obtain⟨d,g1,g2⟩:=rx.get hx;rw[So] at g1;obtain⟨t,htj,rfl⟩:=SA.mp g1;obtain⟨c,w1,w2,w3,rfl,hc,q1,q2,_⟩:=pY g2;have hk:=hS t (Sq htj)
  have fin:∀(H3:Hp) (bb:Bool),Same H2 H3->bb=(hs t.to S || !hs t.fr S)->jq D (UD xs) j (λj H2=>AccZ K H D H2 (((ts.take j).map λt=>hs t.to S || !hs t.fr S).map WD)) (.bl bb) H3:=by
   rintro H3 bb S3 rfl;refine aH lj ?_;refine(A.on S3).bG (d:=.bool (hs t.to S || !hs t.fr S)) (.bl _) (am (by rw[Si,Si,SL];lia)) λH4 A4=>?_
   show AccZ K H D H4 (((ts.take (j+1)).map λt=>hs t.to S || !hs t.fr S).map WD);rw[SK,htj,Sr,Sr];exact A4
  cbv;refine aG (SqT.of (A.same _ _ hc)) (v:=w2) rfl ?_;cbv;refine⟨w2,w,t.to,S,rfl,q2.same A.same,rw_.same A.same,λk h=>(hk k h).2,hl,λH3 S3=>?_⟩;cbv;cases e1:hs t.to S with
  |true =>
   cbv;exact fin H3 true S3 (by rw[e1];rfl)
  |false =>
   cbv;refine aG (SqT.of ((A.on S3).same _ _ hc)) (v:=w1) rfl ?_;cbv;refine⟨w1,w,t.fr,S,rfl,q1.same (A.on S3).same,rw_.same (A.on S3).same,λk h=>(hk k h).1,hl,λH4 S4=>?_⟩;cbv;exact fin H4 _ (S3.trans S4) (by rw[e1];rfl)
 .intro H2 A;rw[lx,SD (Sx _)] at A;cbv;refine Di A.bls ?_;rw[all_map]
  have:=k H2 A.same
  unfold isT at this;rw[ZaU] at this;exact this
abbrev oC(K:Fg):Sp:=λvs H Q _=>∃(v w:V) (M S:List Nat),vs=[v,w]/\Rz K H v (dS M)/\Rz K H w (dS S)/\M.length<=100/\∀H',Same H H'->Q (.bl (within M S)) H'
abbrev nO(K:Fg):TS:=(aA (bO (BP K) (ac (ck (mr K (aa 0)) (ar (Qo K false) (aa 0) (aa 2))) ae)))
def Bv{K:Fg}:ρ 2 (oC K) (nO K):=by
 fail "R";obtain⟨v,w,M,S,rfl,rv,rw_,hl,k⟩:=h;obtain⟨a,rfl,ha⟩:=Hn rv;obtain⟨b,rfl,hb⟩:=Hn rw_;rw[L2.aI hN];walk_at "t";unfold nO;cbv;refine yY (SqT.of ha) ?_;have lS:((nI M).map V.int).length=UD M:=by rw[Si,wV]
 refine fJ (xs:=(nI M).map V.int) λD nD=>⟨λj H2=>AccZ K H D H2 (((M.take j).map λk=>decide (k∈S)).map WD),by simpa using AccZ.start (Same.refl _) nD,λj H2 _ A=>SqT.of (A.same _ _ ha),?_,?_⟩
 .intro j x H2 hx A;have lj:=(Sn.mp hx).1;obtain⟨m,hm,rfl⟩:=Io hx;cbv;refine Rb (SqT.of (A.same _ _ hb)) ?_;refine aH lj ?_;refine A.bG (d:=.bool (decide (m∈S))) (.bl _) (am (by rw[Si,Si,SL];lia)) λH3 A3=>?_
  show AccZ K H D H3 (((M.take (j+1)).map λk=>decide (k∈S)).map WD);rw[SK,hm,Sr,Sr];exact A3
 .intro H2 A;rw[lS,SD (Sx _)] at A;cbv;refine Di A.bls ?_;rw[all_map];exact k H2 A.same
abbrev gI(K:Fg):Sp:=λvs H Q _=>∃(a:Addr) (xs:List V) (L:List (List Nat)),vs=[.ref a]/\H a=some (.lst xs)/\RzL K H xs (L.map dS)/\L.length<=100/\(∀S∈L,UD S<=100)/\∀(p:Addr) (H':Hp),AccZ K H p H' ((lst L).map dS)->Q (.ref p) H'
def GL{L:List (List Nat)}{i:Nat}{S:List Nat}(h:L[i]?=some S):lst (L.take (i+1))=jS (lst (L.take i)) S:=by
 unfold lst;rw[SK,h,UJ];rfl
nonrec def tW(K:Fg):TS:=(ao (bo (bY K (aa 0)) (ak 2)
 (a4 (oz (tB (bO (Gb K) (ac (ck (bY K (aa 1)) (aw (oC K) [] E0 (ac (aa 0) (ac (aa 3) ae)))) ae))))
 (bF (dJ K "list" aJ (aa 1) (ac (aa 2) ae)))
 be))
 (aA (aa 1)))
abbrev jL(K:Fg):TS:=(ao (ay (bK ae) (ak 1))
 (tW K))
def yC{K:Fg}:ρ 3 (gI K) (jL K):=by
 fail "R";obtain⟨a,xs,L,rfl,ha,rx,hl,hS,k⟩:=h;have lx:UD xs=UD L:=by rw[rx.length,Si]
 rw[L2.aI hN];walk_at "t";unfold jL;cbv;refine⟨by decide,λl nl=>?_⟩;have A0:AccZ K H l (upd H l (.lst [])) ((lst (L.take 0)).map dS):=AccZ.start (Same.refl _) nl;generalize upd H l (.lst [])=H0 at A0 ⊢;cbv;refine fO (SqL.of (A0.same _ _ ha)) ?_;refine bg (xs:=xs) (λi σ H2=>∃u2:Option V,σ=[⇑a,⇑l,u2]/\AccZ K H l H2 ((lst (L.take i)).map dS)) ⟨none,rfl,A0⟩ (by rintro i σ H2 _ ⟨_,_,A⟩;exact SqL.of (A.same _ _ ha)) ?_ ?_
 .rintro i x σ H2 hx ⟨u2,rfl,A⟩;obtain⟨d,g1,g2⟩:=rx.get hx;rw[So] at g1;obtain⟨S,hSi,rfl⟩:=SA.mp g1;have ll:(lst (L.take i)).length<=100:=Ta (Lh _) (by rw[SL];lia);have lM:∀M∈lst (L.take i),UD M<=100:=λM hM=>hS M (UM (Lg M hM))
  rw[GL hSi];generalize lst (L.take i)=acc at A ll lM ⊢;obtain⟨ys,hy,ry⟩:=A.at_;have ly:UD ys=UD acc:=by rw[ry.length,Si]
  cbv;refine mn (SqL.of hy) ?_;refine bZ (xs:=ys) λD nD=>⟨λj H3=>AccZ K H2 D H3 (((acc.take j).map λM=>within M S).map WD),by simpa using AccZ.start (Same.refl _) nD,λj H3 _ B=>SqL.of (B.same _ _ hy),?_,?_⟩
  .intro j y H3 hyj B;have lj:=(Sn.mp hyj).1;obtain⟨d,g3,g4⟩:=ry.get hyj;rw[So] at g3;obtain⟨M,hM,rfl⟩:=SA.mp g3;cbv;refine⟨y,x,M,S,rfl,g4.same B.same,(g2.same A.same).same B.same,lM M (Sq hM),λH4 S4=>?_⟩;refine aH lj ?_;refine(B.on S4).bG (d:=.bool (within M S)) (.bl _) (am (by rw[Si,Si,SL];lia)) λH5 B5=>?_
   show AccZ K H2 D H5 (((acc.take (j+1)).map λM=>within M S).map WD);rw[SK,hM,Sr,Sr];exact B5
  .intro H3 B;rw[ly,SD (Sx _)] at B;cbv;refine OU B.bls ?_;rw[any_map];have A3:=A.on B.same;have gx:=(g2.same A.same).same B.same;unfold jS;cases e:(acc.any λM=>within M S) with
   |true =>
    cbv;exact⟨_,rfl,A3⟩
   |false =>
    cbv;refine⟨A3.ty,?_⟩;cbv;refine cx A3 gx (am (by rw[Si];lia)) λH4 A4 _ _ _=>?_
    refine⟨_,rfl,?_⟩;show AccZ K H l H4 ((acc++[S]).map dS);rw[Sr];exact A4
 .rintro σ H2 ⟨u2,rfl,A⟩;rw[SD ∅] at A;cbv;exact k l H2 A
abbrev oO(K:Fg):Sp:=λvs H Q _=>∃(v:V) (ws:List Str) (ts:List Tn),vs=[v]/\Rz K H v (dV ws ts)/\ws.length<=5/\ts.length<=100/\(∀t∈ts,t.fr.length=(UD ws)/\t.to.length=UD ws)/\∀(p:Addr) (H':Hp),AccZ K H p H' ((lst ((gh (UD ws)).filter (isD (ts.map pr)))).map dS)->Q (.ref p) H'
abbrev uh(K:Fg):Sp:=λvs H Q _=>∃(v:V) (ws:List Str) (ts:List Tn),vs=[v]/\Rz K H v (dV ws ts)/\ws.length<=5/\ts.length<=100/\(∀t∈ts,t.fr.length=(UD ws)/\t.to.length=UD ws)/\∀(p:Addr) (H':Hp),AccZ K H p H' ((lst ((gh (UD ws)).filter (isT (ts.map pr)))).map dS)->Q (.ref p) H'
abbrev n_(K:Fg):TS:=(aA (aw (gI K) [] E0 (ac (d5 (bY K (aw (jv K) [] E0 (ac (bO (bz K) (ac (ar (aD K) (aa 0) (tC (.int 0))) ae)) ae))) 1 (ak 0) (tB (aw (jY K) [] E0 (ac (aa 1) (ac (aa 0) ae)))) (aa 0)) ae)))
def BG{K:Fg}:ρ 1 (oO K) (n_ K):=by
 fail "R";obtain⟨v,ws,ts,rfl,rv,hw,ht,hf,k⟩:=h;have rv0:=rv;obtain⟨a,v1,v2,rfl,ha,r1,r2⟩:=gA rv;obtain⟨b,xs,rfl,hb,rx⟩:=r1.bM;have lx:UD xs=UD ws:=by rw[rx.length,Si]
 rw[L2.aI hN];walk_at "t";have n6:UD ws<6:=by lia
 have sl:=wF ws.length n6;have si:=Ba ws.length n6;unfold n_;cbv;refine aG (SqT.of ha) (v:=.ref b) rfl ?_;cbv;refine fT (SqT.of hb) ?_;rw[lx];cbv;refine⟨ws.length,rfl,hw,λL H1 AL=>?_⟩;obtain⟨ys,hy,ry⟩:=AL.at_;have ly:UD ys=(gh ws.length).length:=by rw[ry.length,Si]
 refine⟨L,rfl,⟨ys,SqL.of hy⟩,?_⟩;refine fK (xs:=ys) λD nD=>⟨λj H2=>AccZ K H1 D H2 ((((gh ws.length).take j).filter (isD (ts.map pr))).map dS),by simpa using AccZ.start (Same.refl _) nD,λj H2 _ A=>SqL.of (A.same _ _ hy),?_,?_⟩
 .intro j x H2 hx A us hu;obtain⟨u0,rfl⟩:∃u,us=[u]:=US.mp hu;have lj:=(Sn.mp hx).1;obtain⟨d,g1,g2⟩:=ry.get hx;rw[So] at g1;obtain⟨S,hS,rfl⟩:=SA.mp g1;obtain⟨S1,S2,S3⟩:=si S (Sq hS);cbv;refine⟨⟨[some x],rfl,rfl⟩,?_⟩;cbv;refine⟨.ref a,x,ws,ts,S,rfl,(rv0.same AL.same).same A.same,g2.same A.same,λt h k hk=>?_,∅,ht,λH3 S4=>?_⟩
  .have:=S3 k hk
   have:=hf t h
   lia
  have A3:=A.on S4;cbv;cases e:isD (ts.map pr) S with
  |true =>
   cbv;refine aH lj ?_;refine A3.bG (g2.same A3.same) (am (by rw[Si];exact Ta (Ua _ _) (by rw[SL];lia))) λH4 A4=>?_
   show AccZ K H1 D H4 ((((gh ws.length).take (j+1)).filter (isD (ts.map pr))).map dS);rw[SK,hS,UP,Sr];show AccZ K H1 D H4 (_++([S].filter (isD (ts.map pr))).map dS);rw[Um e];exact A4
  |false =>
   cbv;refine dO lj ?_;show AccZ K H1 D H3 ((((gh ws.length).take (j+1)).filter (isD (ts.map pr))).map dS);rw[SK,hS,UP,Sr];show AccZ K H1 D H3 (_++([S].filter (isD (ts.map pr))).map dS);rw[Uf (by rw[e];exact SX)];simpa using A3
 .intro H2 A;rw[ly,SD (Sx _)] at A;obtain⟨zs,hz,rz⟩:=A.at_;cbv;refine⟨D,zs,_,rfl,hz,rz,Ta (Ua _ _) ∅,λS hS=>?_,λp H3 A3=>?_⟩
  .have:=(si S (Tt.mp hS).1).2.1
   lia
  .exact k p H3 ⟨(AL.same.trans A.same).trans A3.same,(AL.same.trans A.same).free A3.new,A3.at_⟩
abbrev tG(K:Fg):TS:=(aA (aw (gI K) [] E0 (ac (d5 (bY K (aw (jv K) [] E0 (ac (bO (bz K) (ac (ar (aD K) (aa 0) (tC (.int 0))) ae)) ae))) 1 (ak 0) (tB (aw (oJ K) [] E0 (ac (aa 1) (ac (aa 0) ae)))) (aa 0)) ae)))
def FO{K:Fg}:ρ 1 (uh K) (tG K):=by
 fail "R";obtain⟨v,ws,ts,rfl,rv,hw,ht,hf,k⟩:=h;have rv0:=rv;obtain⟨a,v1,v2,rfl,ha,r1,r2⟩:=gA rv;obtain⟨b,xs,rfl,hb,rx⟩:=r1.bM;have lx:UD xs=UD ws:=by rw[rx.length,Si]
 rw[L2.aI hN];walk_at "t";have n6:UD ws<6:=by lia
 have sl:=wF ws.length n6;have si:=Ba ws.length n6;unfold tG;cbv;refine aG (SqT.of ha) (v:=.ref b) rfl ?_;cbv;refine fT (SqT.of hb) ?_;rw[lx];cbv;refine⟨ws.length,rfl,hw,λL H1 AL=>?_⟩;obtain⟨ys,hy,ry⟩:=AL.at_;have ly:UD ys=(gh ws.length).length:=by rw[ry.length,Si]
 refine⟨L,rfl,⟨ys,SqL.of hy⟩,?_⟩;refine fK (xs:=ys) λD nD=>⟨λj H2=>AccZ K H1 D H2 ((((gh ws.length).take j).filter (isT (ts.map pr))).map dS),by simpa using AccZ.start (Same.refl _) nD,λj H2 _ A=>SqL.of (A.same _ _ hy),?_,?_⟩
 .intro j x H2 hx A us hu;obtain⟨u0,rfl⟩:∃u,us=[u]:=US.mp hu;have lj:=(Sn.mp hx).1;obtain⟨d,g1,g2⟩:=ry.get hx;rw[So] at g1;obtain⟨S,hS,rfl⟩:=SA.mp g1;obtain⟨S1,S2,S3⟩:=si S (Sq hS);cbv;refine⟨⟨[some x],rfl,rfl⟩,?_⟩;cbv;refine⟨.ref a,x,ws,ts,S,rfl,(rv0.same AL.same).same A.same,g2.same A.same,λt h k hk=>?_,∅,ht,λH3 S4=>?_⟩
  .have:=S3 k hk
   have:=hf t h
   lia
  have A3:=A.on S4;cbv;cases e:isT (ts.map pr) S with
  |true =>
   cbv;refine aH lj ?_;refine A3.bG (g2.same A3.same) (am (by rw[Si];exact Ta (Ua _ _) (by rw[SL];lia))) λH4 A4=>?_
   show AccZ K H1 D H4 ((((gh ws.length).take (j+1)).filter (isT (ts.map pr))).map dS);rw[SK,hS,UP,Sr];show AccZ K H1 D H4 (_++([S].filter (isT (ts.map pr))).map dS);rw[Um e];exact A4
  |false =>
   cbv;refine dO lj ?_;show AccZ K H1 D H3 ((((gh ws.length).take (j+1)).filter (isT (ts.map pr))).map dS);rw[SK,hS,UP,Sr];show AccZ K H1 D H3 (_++([S].filter (isT (ts.map pr))).map dS);rw[Uf (by rw[e];exact SX)];simpa using A3
 .intro H2 A;rw[ly,SD (Sx _)] at A;obtain⟨zs,hz,rz⟩:=A.at_;cbv;refine⟨D,zs,_,rfl,hz,rz,Ta (Ua _ _) ∅,λS hS=>?_,λp H3 A3=>?_⟩
  .have:=(si S (Tt.mp hS).1).2.1
   lia
  .exact k p H3 ⟨(AL.same.trans A.same).trans A3.same,(AL.same.trans A.same).free A3.new,A3.at_⟩
end Dn
namespace L2
open PySem
def Iw{to ti:TE}{t:Hz}{H:Hp}{Q:St->Hp->Prop}(h:to σ H λo H1=>ti σ H1 λi H2=>t o i v H2 λH3=>Q σ H3):G_ to ti t v σ H Q:=h
end L2
namespace Dn
open PySem L2 Fr G1 Sm Vs G2 Rk Sz Rw
open PySem.W (Dat kqdOk)
open PySem L2 Fr G1 Sm Vs G2 Rk Sz Sf Rw Cl
def Ng{t:Tn}{n:Nat}(h1:t.fr.length=n)(h2:t.to.length=n)(q:Nat):pt (cS t) q=pt t.to q-pt t.fr q:=by
 unfold cS pt;rw[Sj,T_,Sj,Sj];by_cases h:q<n
 .rw[Sk ∅,Sk ∅];rfl
 .rw[Tj ∅,Tj ∅];rfl
end Dn
namespace Lo
open Ti
def Rch.trans(h:Rch es a b)(k:Rch es b c):Rch es a c:=by
 induction k with
 |refl=>exact h
 |step _ m ih=>exact .step ih m
abbrev gX(es:List (Nat×Nat)):List (Nat×Nat):=es++es.map λe=>(e.2,e.1)
def Hx{a b:Nat}(h:(a,b)∈gX es):(b,a)∈gX es:=by
 unfold gX at h ⊢;rcases SQ.mp h with h|h
 .exact SW _ (SE.mpr ⟨_,h,rfl⟩)
 .obtain⟨e,m,z⟩:=SE.mp h;refine Te _ ?_;obtain⟨x,y⟩:=e;simp only[ZbZ] at z;rw[<- z.1,<- z.2];exact m
def jD(h:Rch (gX es) a b):Rch (gX es) b a:=by
 induction h with
 |refl=>exact .refl
 |step _ m ih=>exact Rch.trans (.step .refl (Hx m)) ih
abbrev at_(f:List Nat)(i:Nat):Nat:=f.getD i 0
abbrev vn(f:List Nat)(e:Nat×Nat):Nat:=if at_ f e.2<at_ f e.1 then at_ f e.2 else at_ f e.1
abbrev s_(f:List Nat)(e:Nat×Nat):Nat:=if at_ f e.2 > at_ f e.1 then at_ f e.2 else at_ f e.1
abbrev dE(f:List Nat)(e:Nat×Nat):List Nat:=f.map λx=>if x=s_ f e then vn f e else x
def dj{f:List Nat}{i:Nat}(h:i<UD f):at_ (dE f e) i=if at_ f i=s_ f e then vn f e else at_ f i:=by
 unfold dE at_;rw[Sj,So,Sj,Sk h];rfl
def Lj(f:List Nat)(e:Nat×Nat):(vn f e=at_ f e.1/\s_ f e=at_ f e.2/\at_ f e.1<=at_ f e.2)\/(vn f e=at_ f e.2/\s_ f e=at_ f e.1/\at_ f e.2<=at_ f e.1):=by
 unfold vn s_;by_cases h:at_ f e.2<at_ f e.1
 .right;rw[if_pos h,if_neg ∅];lia
 .left;rw[if_neg h];by_cases g:at_ f e.2 > at_ f e.1
  .rw[if_pos g];lia
  .rw[if_neg g];lia
structure FI (n:Nat) (es seen:List (Nat×Nat)) (f:List Nat):Prop where
 len:UD f=n
 le:∀i<n,at_ f i<=i
 fix:∀i<n,at_ f (at_ f i)=at_ f i
 tie:∀i<n,Rch (gX es) i (at_ f i)
 one:∀e∈seen,at_ f e.1=at_ f e.2
def FI.start(n:Nat)(es:List (Nat×Nat)):FI n es [] (SJ n):=by
 have e:∀i<n,at_ (SJ n) i=i:=λi h=>by
  unfold at_;rw[Sj,TC h];rfl
 exact⟨SV,λi h=>by rw[e i h];exact Sx _,λi h=>by rw[e i h,e i h],λi h=>by rw[e i h];exact .refl,λe h=>by cases h⟩
def FI.more{seen:List (Nat×Nat)}{e:Nat×Nat}(F:FI n es seen f)(ok:Mo n es)(sub:∀e∈seen,e∈es)(m:e∈es):FI n es (seen++[e]) (dE f e):=by
 obtain⟨l1,l2⟩:=ok e m;have hl:=F.len;have a1:=F.le e.1 l1;have a2:=F.le e.2 l2;have f1:=F.fix e.1 l1;have f2:=F.fix e.2 l2;have eg:(e.1,e.2)∈gX es:=Te _ m;have t12:Rch (gX es) (at_ f e.1) (at_ f e.2):=Rch.trans (jD (F.tie e.1 l1)) (Rch.trans (.step .refl eg) (F.tie e.2 l2))
 have gl:Rch (gX es) (s_ f e) (vn f e):=by
  rcases Lj f e with⟨x,y,_⟩|⟨x,y,_⟩
  .rw[x,y];exact jD t12
  .rw[x,y];exact t12
 have hls:vn f e<n/\at_ f (vn f e)=vn f e/\vn f e<=s_ f e:=by
  rcases Lj f e with⟨x,y,z⟩|⟨x,y,z⟩
  .rw[x,y];exact⟨∅,f1,z⟩
  .rw[x,y];exact⟨∅,f2,z⟩
 refine⟨by unfold dE;rw[Si];exact hl,λi h=>?_,λi h=>?_,λi h=>?_,λd hd=>?_⟩
 .have:=F.le i h
  rw[dj ∅];split
  .rename_i z
   have:=hls.2.2
   lia
  .exact this
 .have li:=F.le i h;rw[dj (e:=e) (i:=i) ∅];by_cases z:at_ f i=s_ f e
  .rw[if_pos z,dj ∅,hls.2.1];split <;> rfl
  .rw[if_neg z,dj ∅,F.fix i h,if_neg z]
 .rw[dj ∅];by_cases z:at_ f i=s_ f e
  .rw[if_pos z]
   have:=F.tie i h
   rw[z] at this;exact Rch.trans this gl
  .rw[if_neg z];exact F.tie i h
 .rcases SQ.mp hd with hd|hd
  .obtain⟨d1,d2⟩:=ok d (sub d hd);rw[dj ∅,dj ∅,F.one d hd]
  .cases SO.mp hd;rw[dj ∅,dj ∅];rcases Lj f e with⟨x,y,z⟩|⟨x,y,z⟩
   .rw[x,y,if_pos rfl];split <;> rfl
   .rw[x,y,if_pos rfl];split <;> rfl
abbrev bq(n:Nat)(es:List (Nat×Nat)):List Nat:=es.foldl dE (SJ n)
def xu(ok:Mo n es)(i:Nat):FI n es (es.take i) ((es.take i).foldl dE (SJ n)):=by
 induction i with
 |zero=>exact FI.start n es
 |succ i ih =>
  by_cases h:i<UD es
  .rw[SK,Sk h,Yv,UJ];exact ih.more ok (λe he=>UM he) (Ul h)
  .rw[SD ∅] at ih ⊢;exact ih
def cX(ok:Mo n es):FI n es es (bq n es):=by
 have:=xu ok (UD es)
 rwa [TX] at this
def FI.same(F:FI n es es f)(h:Rch (gX es) i j):at_ f i=at_ f j:=by
 induction h with
 |refl=>rfl
 |step _ m ih =>
  rw[ih];rcases SQ.mp m with m|m
  .exact F.one _ m
  .obtain⟨e,m,z⟩:=SE.mp m;simp only[ZbZ] at z;rw[<- z.1,<- z.2];exact(F.one e m).symm
def FI.tied(F:FI n es es f){i j:Nat}(hi:i<n)(hj:j<n):at_ f i=at_ f j↔Rch (gX es) i j:=by
 refine⟨λh=>?_,F.same⟩;have a:=F.tie i hi;have b:=F.tie j hj;rw[h] at a;exact Rch.trans a (jD b)
abbrev aP(f:List Nat)(v:Nat):List Nat:=(SJ (UD f)).filter λi=>at_ f i=v
abbrev e_(f:List Nat):List (List Nat):=((SJ (UD f)).filter λv=>at_ f v=v).map (aP f)
def FI.mem{seen:List (Nat×Nat)}(F:FI n es seen f){v:Nat}:v∈f↔v<n/\at_ f v=v:=by
 constructor
 .intro h;obtain⟨i,li,e⟩:=Uk.mp h
  have ea:at_ f i=v:=by
   unfold at_;rw[Sj,Sk li];exact e
  rw[F.len] at li
  have:=F.le i li
  have fx:=F.fix i li;rw[ea] at this fx;exact⟨∅,fx⟩
 .rintro⟨h,e⟩;unfold at_ at e;rw[Sj,Sk (by rw[F.len];exact h)] at e;exact List.mem_of_getElem (by exact e)
def Qg{seen:List (Nat×Nat)}(F:FI n es seen f)(h8:n<=8):L2.c9 f=(SJ f.length).filter λv=>at_ f v=v:=by
 unfold L2.c9
 have e8:SJ 8=SJ (UD f)++(SJ (8-UD f)).map (f.length + ·):=by
  rw[<- List.range_add];congr 1;have:=F.len;lia
 rw[e8,UP]
 have z:((SJ (8-UD f)).map (f.length + ·)).filter (λk=>f.contains k)=[]:=by
  rw[List.filter_eq_nil_iff];intro a ha;obtain⟨k,_,rfl⟩:=SE.mp ha;rw[Xy,F.mem]
  have:=F.len
  lia
 rw[z,Vy];refine ZaR λv hv=>?_
 rw[Tv,F.len] at hv;rw[Vx,Xy,F.mem];simp[hv]
end Lo
namespace L2
open PySem
def Pm:bootBuiltins "min"=some (.builtin "min"):=by decide +kernel
def vy{te:TE}{H:Hp}{Q:VK}(h:te σ H λx H1=>∃n:Nat,x=.int (n:Int)/\n<=1000/\∀l,H1 l=none->Q (.ref l) (upd H1 l (.lst ((SJ n).map λk:Nat=>.int (k:Int))))):ia te σ H Q:=h
def Db{K:Fg}{te:TE}{H:Hp}(h:te σ H λx H1=>wM K x H1 Q):om K te σ H Q:=h
end L2
namespace Lo
open PySem L2 Fr G1 Sm Vs G2 Ti Sz Rw
open PySem.W (Dat kqdOk)
abbrev zN(l:List Nat):List Int:=l.map λk:Nat=>(k:Int)
def wg(l:List Nat):(zN l).length=UD l:=Si _
def zV(l:List Nat):(zN l).map V.int=l.map λk:Nat=>V.int (k:Int):=by unfold zN;rw[TY];rfl
def HF(l m:List Nat):zN (l++m)=zN l++zN m:=Sr
def mZ{f:List Nat}{i:Nat}(h:i<UD f):((zN f).map V.int)[i]?=↥(at_ f i:Int):=by
 rw[zV,So];unfold at_;rw[Sj,Sk h];rfl
abbrev oF(K:Fg):Sp:=λvs H Q _=>∃(a:Addr) (f:List Nat) (v:Nat),vs=[.ref a,.int (v:Int)]/\H a=some (.lst ((zN f).map V.int))/\f.length<=100/\∀(p:Addr) (H':Hp),AccZ K H p H' ((zN (aP f v)).map TF)->Q (.ref p) H'
abbrev nU(K:Fg):TS:=(aA (d5 (iw K (ac (aa 0) ae)) 2 (cf K 2 (aS (ak 0) (aS (ak 1) cj))) (aK (ar ja (aa 1) (aa 3))) (aa 0)))
def Bz{K:Fg}:ρ 2 (oF K) (nU K):=by
 fail "R";obtain⟨a,f,v,rfl,ha,hl,k⟩:=h;rw[L2.aI hN];walk_at "t";unfold nU;cbv;refine⟨a,_,rfl,SqL.of ha,?_⟩;have lf:((zN f).map V.int).length=UD f:=by rw[Si,wg]
 refine mW (xs:=(zN f).map V.int) λD nD=>⟨λj H2=>AccZ K H D H2 ((zN ((SJ j).filter λi=>at_ f i=v)).map TF),by simpa[zN] using AccZ.start (Same.refl _) nD,λj H2 _ A=>SqL.of (A.same _ _ ha),?_,?_⟩
 .intro j x H2 T hx A nT us hu
  obtain⟨u0,u1,rfl⟩:∃u w,us=[u,w]:=ex2 hu
  have lj:j<UD f:=by rw[<- lf];exact(Sn.mp hx).1
  rw[mZ lj] at hx;cases hx;have er:((SJ (j+1)).filter λi=>decide (at_ f i=v))=((SJ j).filter λi=>decide (at_ f i=v))++[j].filter λi=>decide (at_ f i=v):=by rw[U5,UP]
  have lr:((SJ j).filter λi=>decide (at_ f i=v)).length<=100:=Ta (Ua _ _) (by rw[SV];lia);have S2:=ai nT (.tup [.int (j:Int),.int (at_ f j:Int)]);have hT:upd H2 T (.tup [.int (j:Int),.int (at_ f j:Int)]) T=some (.tup [.int (j:Int),.int (at_ f j:Int)]):=ag;have A2:=A.on S2;generalize upd H2 T (.tup [.int (j:Int),.int (at_ f j:Int)])=H3 at hT A2 ⊢;cbv;refine bu (SqT.of hT) rfl ?_;cbv;refine⟨⟨[↥(j:Int),↥(at_ f j:Int)],rfl,rfl⟩,?_⟩;cbv;refine aZ (λc=>?_) (λc=>?_)
  .have c':at_ f j=v:=by
    have:(at_ f j:Int)=(v:Int):=by simpa using c
    lia
   cbv;refine aH (by rw[lf];exact lj) ?_;refine A2.bG (.int (j:Int)) (am (by rw[Si,wg];lia)) λH4 A4=>?_
   show AccZ K H D H4 ((zN ((SJ (j+1)).filter λi=>decide (at_ f i=v))).map TF);rw[er,Um (by simpa using c'),HF,Sr];exact A4
  .have c' : ¬ at_ f j=v:=λz=>c (by simp[z])
   refine dO (by rw[lf];exact lj) ?_;show AccZ K H D H3 ((zN ((SJ (j+1)).filter λi=>decide (at_ f i=v))).map TF);rw[er,Uf (by simpa using c')];simpa using A2
 .intro H2 A;rw[lf] at A;exact k D H2 A
abbrev b6(ts:List Tn):List (List Int):=(e_ (bq (aT ts).length (aC ts))).map zN
abbrev mI(K:Fg):Sp:=λvs H Q _=>∃(v:V) (ws:List Str) (ts:List Tn),vs=[v]/\Rz K H v (dV ws ts)/\ts.length<=8/\(aT ts).length<=8/\∀(p:Addr) (H':Hp),Same H H'->Rp K (λa=>H a=none) H' (.ref p) (dM (b6 ts))->Q (.ref p) H'
nonrec def Fd(K:Fg):TS:=(ao (ay (bO Qm (ac (ar (bP K) (aa 1) (aa 2)) (ac (ar (bP K) (aa 1) (aa 3)) ae))) (ak 4))
 (ao (ay (bO Qn (ac (ar (bP K) (aa 1) (aa 2)) (ac (ar (bP K) (aa 1) (aa 3)) ae))) (ak 5))
 (ay (ck (bY K (aa 1)) (Mj (aK (ar ja (aa 0) (aa 6))) (aa 5) (aa 0))) (ak 1))))
nonrec def Fc(K:Fg):TS:=(ao (bo (bY K (aw (gJ K) [] E0 (ac (aa 0) ae))) (cf K 2 (aS (ak 2) (aS (ak 3) cj)))
 (Fd K))
 (aA (ck (bY K (om K (aa 1))) (aw (oF K) [] E0 (ac (aa 2) (ac (aa 0) ae))))))
abbrev Ag(K:Fg):TS:=(ao (ay (ia (bO (bz K) (ac (aw (c_ K) [] E0 (ac (aa 0) ae)) ae))) (ak 1))
 (Fc K))
def J5{K:Fg}:ρ 6 (mI K) (Ag K):=by
 fail "R";obtain⟨v,ws,ts,rfl,rv,ht,h8,k⟩:=h;rw[L2.aI hN];walk_at "t";unfold Ag;cbv;refine vy ?_;cbv;refine⟨v,ws,ts,rfl,rv,∅,λp H1 A1=>?_⟩;obtain⟨xs,hp,rx⟩:=A1.at_;have lx:UD xs=(aT ts).length:=by rw[rx.length,Si]
 have ok:=dq ts;have le:(aC ts).length=UD ts:=by unfold aC;rw[Si]
 unfold b6 at k;generalize (aT ts).length=n at lx ok h8 k;cbv;refine bH (SqL.of hp) ?_;refine⟨n,by rw[lx],∅,λl nl=>?_⟩;have S2:=ai nl (.lst ((SJ n).map λk:Nat=>.int (k:Int)));have hl:upd H1 l (.lst ((SJ n).map λk:Nat=>.int (k:Int))) l=some (.lst ((zN (SJ n)).map V.int)):=by rw[zV];exact ag
 have S02:=A1.same.trans S2;generalize upd H1 l (.lst ((SJ n).map λk:Nat=>.int (k:Int)))=H2 at S2 hl S02 ⊢;cbv;refine⟨v,ws,ts,rfl,rv.same S02,∅,λpe H3 A3=>?_⟩;obtain⟨ys,hpe,ry⟩:=A3.at_;have S03:=S02.trans A3.same;generalize aC ts=es at ok le ry k A3;have ly:UD ys=UD es:=by rw[ry.length,Si]
 have hl3:=A3.same _ _ hl;cbv;refine fO (SqL.of hpe) ?_;refine bg (xs:=ys) (λj σ H4=>∃(l:Addr) (u2 u3 u4 u5:Option V),σ=[some v,⇑l,u2,u3,u4,u5]/\Same H3 H4/\H4 l=some (.lst ((zN ((es.take j).foldl dE (SJ n))).map V.int))) ⟨l,none,none,none,none,rfl,Same.refl _,hl3⟩ (by rintro j σ H4 _ ⟨_,_,_,_,_,_,S,_⟩;exact SqL.of (S _ _ hpe)) ?_ ?_
 .rintro j x σ H4 hx ⟨m,u2,u3,u4,u5,rfl,S4,hm⟩;have lj:=(Sn.mp hx).1;obtain⟨d,g1,g2⟩:=ry.get hx;rw[So] at g1;obtain⟨e,he,rfl⟩:=SA.mp g1;obtain⟨b,rfl,hb⟩:=vM (g2.same S4);have FI:=xu ok j;have et:(es.take (j+1)).foldl dE (SJ n)=dE ((es.take j).foldl dE (SJ n)) e:=by rw[SK,he,Yv,UJ];rfl
  obtain⟨o1,o2⟩:=ok e (Sq he);have lf:=FI.len;rw[et];generalize (es.take j).foldl dE (SJ n)=f at hm FI lf;refine bu (SqT.of hb) rfl ?_;cbv;refine bX (SqL.of hm) (aM (mZ (i:=e.1) ∅)) ?_;cbv;refine bX (SqL.of hm) (aM (mZ (i:=e.2) ∅)) ?_;cbv;refine⟨_,_,rfl,?_⟩
  have q1:(if (at_ f e.2:Int)<(at_ f e.1:Int) then (at_ f e.2:Int) else (at_ f e.1:Int))=(vn f e:Int):=by
   unfold vn;by_cases c:at_ f e.2<at_ f e.1
   .rw[if_pos c,if_pos ∅]
   .rw[if_neg c,if_neg ∅]
  have q2:(if (at_ f e.2:Int) > (at_ f e.1:Int) then (at_ f e.2:Int) else (at_ f e.1:Int))=(s_ f e:Int):=by
   unfold s_;by_cases c:at_ f e.2 > at_ f e.1
   .rw[if_pos c,if_pos ∅]
   .rw[if_neg c,if_neg ∅]
  rw[q1];cbv;refine bX (SqL.of hm) (aM (mZ (i:=e.1) ∅)) ?_;cbv;refine bX (SqL.of hm) (aM (mZ (i:=e.2) ∅)) ?_;cbv;refine⟨_,_,rfl,?_⟩;rw[q2];cbv;refine mn (SqL.of hm) ?_;have lzf:((zN f).map V.int).length=UD f:=by rw[Si,wg]
  refine bZ (xs:=(zN f).map V.int) λD nD=>⟨λi H5=>AccZ K H4 D H5 ((zN ((dE f e).take i)).map TF),by simpa[zN] using AccZ.start (Same.refl _) nD,λi H5 _ A=>SqL.of (A.same _ _ hm),?_,?_⟩
  .intro i x H5 hx A;have li:i<UD f:=by rw[<- lzf];exact(Sn.mp hx).1
   rw[mZ li] at hx;cases hx
   have ej:(dE f e)[i]?=some (if at_ f i=s_ f e then vn f e else at_ f i):=by
    have lj2:i<(dE f e).length:=by unfold dE;rw[Si];exact li
    rw[<- dj (e:=e) li];unfold at_;rw[Sj,Sk lj2];rfl
   have fin:∀(w:Nat),w=(if at_ f i=s_ f e then vn f e else at_ f i)->jq D ((zN f).map V.int).length i (λi H5=>AccZ K H4 D H5 ((zN ((dE f e).take i)).map TF)) (.int (w:Int)) H5:=λw hw=>by
    refine aH (by rw[lzf];exact li) ?_;refine A.bG (.int (w:Int)) (am (by rw[Si,wg,SL];lia)) λH6 A6=>?_
    show AccZ K H4 D H6 ((zN ((dE f e).take (i+1))).map TF);rw[SK,ej,<- hw,Yv,HF,Sr];exact A6
   cbv;refine aZ (λc=>?_) (λc=>?_)
   .have c':at_ f i=s_ f e:=by
     have:(at_ f i:Int)=(s_ f e:Int):=by simpa using c
     lia
    cbv;exact fin (vn f e) (by rw[if_pos c'])
   .have c' : ¬ at_ f i=s_ f e:=λz=>c (by simp[z])
    cbv;exact fin (at_ f i) (by rw[if_neg c'])
  .intro H5 A;have lJ:(dE f e).length=UD f:=by unfold dE;rw[Si]
   rw[lzf,<- lJ,TX] at A;exact⟨D,_,_,_,_,rfl,S4.trans A.same,AccZ.ints A⟩
 .rintro σ H4 ⟨m,u2,u3,u4,u5,rfl,S4,hm⟩;rw[ly,TX] at hm;have FI:=cX ok;have FI':=FI;unfold bq at FI k;generalize es.foldl dE (SJ n)=f at hm FI k;have lf:=FI.len;have f8:∀x∈f,x<8:=λx hx=>by have:=(FI.mem.mp hx).1;lia
  cbv;refine Db ?_;cbv;refine⟨m,f,rfl,by rw[<- zV];exact SqL.of hm,f8,λq nq=>?_⟩;have eu:=Qg FI h8;have el:(c9 f).map (aP f)=e_ f:=by rw[eu];rfl
  have S5:=ai nq (.lst ((c9 f).map λk:Nat=>.int (k:Int)));have hq:upd H4 q (.lst ((c9 f).map λk:Nat=>.int (k:Int))) q=some (.lst ((c9 f).map λk:Nat=>.int (k:Int))):=ag;generalize upd H4 q (.lst ((c9 f).map λk:Nat=>.int (k:Int)))=H5 at S5 hq ⊢;have lu:((c9 f).map λk:Nat=>V.int (k:Int)).length=(c9 f).length:=Si _;have lu8:(c9 f).length<=8:=by unfold c9;exact Ua _ _
  refine mn (SqL.of hq) ?_;refine bZ (xs:=(c9 f).map λk:Nat=>.int (k:Int)) λD nD=>⟨λi H6=>Acc K H5 D H6 ((((c9 f).take i).map λv=>zN (aP f v)).map dL),by simpa using Acc.start nD,λi H6 _ A=>SqL.of (A.same _ _ hq),?_,?_⟩
  .intro i x H6 hx A;have li:=(Sn.mp hx).1;rw[So] at hx;obtain⟨w,hw,rfl⟩:=SA.mp hx;cbv;refine⟨m,f,w,rfl,A.same _ _ (S5 _ _ hm),∅,λr H7 C=>?_⟩;refine aH li ?_;refine A.bG C.same (d:=dL (zN (aP f w))) C.ref (am (by rw[Si,Si,SL];lia)) λH8 A8=>?_
   show Acc K H5 D H8 ((((c9 f).take (i+1)).map λv=>zN (aP f v)).map dL);rw[SK,hw,Sr,Sr];exact A8
  .intro H6 A;rw[lu,TX] at A;have S06:=S03.trans (S4.trans S5);have em:((c9 f).map λv=>zN (aP f v))=(e_ f).map zN:=by rw[<- el,TY];rfl
   rw[em] at A;exact k D H6 (S06.trans A.same) (A.ref.mono λ_ z=>S06.free z)
end Lo
namespace Bo
abbrev sm:Nat->(Nat->Int)->Int
 |0,_=>0
 |n+1,f=>sm n f+f n
def aN{n:Nat}{f g:Nat->Int}(h:∀k,k<n->f k=g k):sm n f=sm n g:=by
 induction n with
 |zero=>rfl
 |succ n ih=>rw[sm,sm,ih λk hk=>h k ∅,h n ∅]
def qF{n:Nat}{f:Nat->Int}(h:∀k,k<n->0<=f k):0<=sm n f:=by
 induction n with
 |zero=>exact XY _
 |succ n ih =>
  have:=ih λk hk=>h k ∅
  have:=h n ∅
  rw[sm];lia
def eO(n:Nat)(f g:Nat->Int):sm n (λk=>f k+g k)=sm n f+sm n g:=by
 induction n with
 |zero=>rfl
 |succ n ih=>rw[sm,sm,sm,ih];lia
def bN(n:Nat)(c:Int)(f:Nat->Int):sm n (λk=>c*f k)=c*sm n f:=by
 induction n with
 |zero=>rw[sm,sm,TL]
 |succ n ih=>rw[sm,sm,ih,Vb]
def dA{n j:Nat}{f:Nat->Int}(hj:j<n)(h:∀k,k<n->k≠j->f k=0):sm n f=f j:=by
 induction n with
 |zero=>lia
 |succ n ih =>
  rw[sm];by_cases e:j=n
  .subst e;rw[show sm j f=0 from ?_,UB]
   have:sm j f=sm j λ_=>0:=aN λk hk=>h k ∅ ∅
   rw[this];clear this ih h hj
   induction j with
   |zero=>rfl
   |succ j ih=>rw[sm,ih];rfl
  .rw[ih ∅ λk hk ne=>h k ∅ ne,h n ∅ ∅,UF]
structure Bd where
 L:Nat->Nat->Int
 h:Nat->Nat
structure Ok (m W:Nat) (b:Bd):Prop where
 lt:∀i,i<m->b.h i<W
 own:∀i,i<m->0<b.L i (b.h i)
 oth:∀i j,i<m->j<m->i≠j->b.L i (b.h j)=0
structure Stp (m W:Nat) (b b':Bd) (i p:Nat):Prop where
 im:i<m
 pw:p<W
 short:b.L i W<0
 low:b.L i p<0
 first:∀k,k<p->0<=b.L i k
 least:∀j,j<m->b.L j W<0->b.h i<=b.h j
 hi:b'.h i=p
 hj:∀j,j<m->j≠i->b'.h j=b.h j
 li:∀k,b'.L i k = - b.L i k
 lj:∀j,j<m->j≠i->∃g:Int,0<g/\∀k,g*b'.L j k=(- b.L i p)*b.L j k-b.L j p*(- b.L i k)
def Stp.ne(s:Stp m W b b' i p)(o:Ok m W b):∀j,j<m->b.h j≠p:=by
 intro j hj e;by_cases z:i=j
 .subst z
  have:=o.own i hj
  have:=s.low
  rw[e] at *;lia
 .have:=o.oth i j s.im hj z
  rw[e] at this
  have:=s.low
  lia
def Stp.ok(s:Stp m W b b' i p)(o:Ok m W b):Ok m W b':=by
 refine⟨λj hj=>?_,λj hj=>?_,λj l hj hl ne=>?_⟩
 .by_cases e:j=i
  .rw[e,s.hi];exact s.pw
  .rw[s.hj j hj e];exact o.lt j hj
 .by_cases e:j=i
  .rw[e,s.hi,s.li]
   have:=s.low
   lia
  .rw[s.hj j hj e];obtain⟨g,g0,gk⟩:=s.lj j hj e;have h1:=gk (b.h j);rw[o.oth i j s.im hj (λz=>e z.symm),ZaV,TL,Int.sub_zero] at h1;have p1:0 < -b.L i p*b.L j (b.h j):=VY (by have:=s.low;lia) (o.own j hj);rw[<- h1] at p1;exact U1 (a:=g) p1 g0 |> λz=>z
 .by_cases e:l=i
  .subst e;rw[s.hi];obtain⟨g,g0,gk⟩:=s.lj j hj ne;have h1:=gk p;have z : -b.L l p*b.L j p-b.L j p * -b.L l p=0:=by rw[T9 (-b.L l p)];lia
   rw[z] at h1;rcases TJ.mp h1 with y|y
   .lia
   .exact y
  .rw[s.hj l hl e];by_cases f:j=i
   .rw[f,s.li,o.oth i l s.im hl (λz=>e z.symm)];rfl
   .obtain⟨g,g0,gk⟩:=s.lj j hj f;have h1:=gk (b.h l);rw[o.oth i l s.im hl (λz=>e z.symm),o.oth j l hj hl ne,ZaV,TL,TL] at h1;rcases TJ.mp h1 with y|y
    .lia
    .exact y
abbrev ev(W:Nat)(r:Nat->Int)(z:Nat->Int):Int:=sm W λk=>r k*z k
abbrev zu(m W:Nat)(b:Bd)(z:Nat->Int)(D:Int):Prop:=∀i,i<m->ev W (b.L i) z=D*b.L i W
def DS(W:Nat)(r z:Nat->Int):ev W (λk=>- r k) z = - ev W r z:=by
 unfold ev;rw[show(λk=>- r k*z k)=λk=>(-1)*(r k*z k) from funext λk=>by rw[UY,UR],bN,UR]
def IF(W:Nat)(g a c:Int)(q r s z:Nat->Int)(h:∀k,g*q k=a*r k-c*s k):g*ev W q z=a*ev W r z-c*ev W s z:=by
 unfold ev;rw[<- bN,<- bN,<- bN,Zau,<- UR,<- bN,<- eO];refine aN λk _=>?_
 rw[<- SY,h k,Zbq,SY,SY];lia
def Stp.sat(s:Stp m W b b' i p):zu m W b z D↔zu m W b' z D:=by
 have ei:ev W (b'.L i) z = - ev W (b.L i) z:=by
  rw[show b'.L i=λk=>- b.L i k from funext s.li,DS]
 constructor
 .intro h j hj;by_cases e:j=i
  .subst e;rw[ei,h j hj,s.li,Vq]
  .obtain⟨g,g0,gk⟩:=s.lj j hj e;have e1:=IF W g _ _ _ _ _ z gk;have e2:=gk W;rw[DS,h j hj,h i s.im] at e1;refine Ug (a:=g) ∅ ?_;rw[e1,show g*(D*b'.L j W)=D*(g*b'.L j W) from To ..,e2,Xb,To,<- Vq,To D,To (b.L j p) D]
 .intro h j hj
  have hi:ev W (b.L i) z=D*b.L i W:=by
   have:=h i s.im
   rw[ei,s.li,Vq] at this;lia
  by_cases e:j=i
  .subst e;exact hi
  .obtain⟨g,g0,gk⟩:=s.lj j hj e;have e1:=IF W g _ _ _ _ _ z gk;have e2:=gk W;rw[DS,h j hj,hi] at e1;have lo:=s.low;refine Ug (a:=- b.L i p) ∅ ?_;have e3:g*(D*b'.L j W)=D*(-b.L i p*b.L j W)-D*(b.L j p * -b.L i W):=by rw[To,e2,Xb]
   rw[e3] at e1;rw[show -b.L i p*(D*b.L j W)=D*(-b.L i p*b.L j W) from To ..];have e4:D*(b.L j p * -b.L i W)=b.L j p * -(D*b.L i W):=by rw[To,Vq]
   omega
def Ct(o:Ok m W b):∃(z:Nat->Int) (D:Int),0<D/\zu m W b z D/\(∀i,i<m->b.L i (b.h i)*z (b.h i)=D*b.L i W)/\∀k,(∀i,i<m->b.h i≠k)->z k=0:=by
 have pr:∀n,n<=m->∃D:Int,0<D/\∀i,i<n->∃c,D=b.L i (b.h i)*c:=by
  intro n
  induction n with
  |zero=>exact λ_=>⟨1,by decide,λi hi=>absurd hi (TZ _)⟩
  |succ n ih =>
   intro hn;obtain⟨D,D0,hD⟩:=ih ∅;have on:=o.own n ∅;refine⟨D*b.L n (b.h n),VY D0 on,λi hi=>?_⟩;by_cases e:i=n
   .subst e;exact⟨D,T9 ..⟩
   .obtain⟨c,hc⟩:=hD i ∅;exact⟨c*b.L n (b.h n),by rw[hc,SY]⟩
 obtain⟨D,D0,hD⟩:=pr m (Sx _)
 have inj:∀i j,i<m->j<m->b.h i=b.h j->i=j:=by
  intro i j hi hj e;by_cases z:i=j
  .exact z
  .have:=o.oth i j hi hj z
   rw[<- e] at this
   have:=o.own i hi
   lia
 have ex:∃z:Nat->Int,(∀i,i<m->b.L i (b.h i)*z (b.h i)=D*b.L i W)/\∀k,(∀i,i<m->b.h i≠k)->z k=0:=by
  have go:∀n,n<=m->∃z:Nat->Int,(∀i,i<n->b.L i (b.h i)*z (b.h i)=D*b.L i W)/\∀k,(∀i,i<n->b.h i≠k)->z k=0:=by
   intro n
   induction n with
   |zero=>exact λ_=>⟨λ_=>0,λi hi=>absurd hi (TZ _),λ_ _=>rfl⟩
   |succ n ih =>
    intro hn;obtain⟨z,h1,h2⟩:=ih ∅;obtain⟨c,hc⟩:=hD n ∅;refine⟨λk=>if k=b.h n then c*b.L n W else z k,λi hi=>?_,λk hk=>?_⟩
    .by_cases e:i=n
     .subst e;show _*(if b.h i=b.h i then _ else _)=_;rw[if_pos rfl,hc,SY]
     .have ne:b.h i≠b.h n:=λz=>e (inj i n ∅ ∅ z)
      show _*(if b.h i=b.h n then _ else _)=_;rw[if_neg ne];exact h1 i ∅
    .show(if k=b.h n then _ else _)=_;rw[if_neg (λe=>hk n ∅ e.symm)];exact h2 k λi hi=>hk i ∅
  exact go m (Sx _)
 obtain⟨z,h1,h2⟩:=ex;refine⟨z,D,D0,λi hi=>?_,h1,h2⟩;unfold ev;rw[dA (o.lt i hi) λk _ ne=>?_,h1 i hi];by_cases e:∃j,j<m/\b.h j=k
 .obtain⟨j,hj,rfl⟩:=e;rw[o.oth i j hi hj (λz=>ne (by rw[z])),Uq]
 .rw[h2 k λj hj z=>e ⟨j,hj,z⟩,TL]
abbrev kS(m:Nat)(b:Bd)(k:Nat):Prop:=∃i,i<m/\b.h i=k
def key(o1:Ok m W b)(o2:Ok m W c)(s1:Stp m W b b' i p)(s2:Stp m W c c' j t)(ht:b.h i=t)(hr:c.h j<=t)(sol:∀z D,zu m W b z D->zu m W c z D)(st:∀k,t<k->(kS m b k↔kS m c k)):False:=by
 obtain⟨z,D,D0,sz,z1,z2⟩:=Ct o1;have e:=sol z D sz j s2.im;have lt:ev W (c.L j) z<0:=by rw[e];exact YD D0 s2.short
 refine absurd (qF λk hk=>?_) (Int.not_le.mpr lt);by_cases hb:kS m b k
 .obtain⟨l,hl,rfl⟩:=hb;have zl:=z1 l hl;have ol:=o1.own l hl;rcases Wu (b.h l) t with q|q|q
  .refine WC (s2.first _ q) ?_
   have e0:0<=b.L l W:=by
    rcases Yd (b.L l W) 0 with y|y
    .have:=s1.least l hl y
     lia
    .exact y
   have:0<=b.L l (b.h l)*z (b.h l):=by rw[zl];exact WC (Zp D0) e0
   exact XF this ol
  .have el:l=i:=by
    by_cases y:l=i
    .exact y
    .have:=o1.oth l i hl s1.im y
     rw[ht,<- q] at this;lia
   subst el
   have:b.L l (b.h l)*z (b.h l)<0:=by rw[zl];exact YD D0 s1.short
   have zn:z (b.h l)<0:=by
    rcases Yd (z (b.h l)) 0 with y|y
    .exact y
    .have:=WC (Zp ol) y
     lia
   have cn:=s2.low;rw[<- q] at cn;exact Zp (Int.mul_pos_of_neg_of_neg cn zn)
  .obtain⟨n,hn,en⟩:=(st _ q).mp ⟨l,hl,rfl⟩;have ne:j≠n:=λy=>by rw[<- y] at en;lia
   have:=o2.oth j n s2.im hn ne
   rw[en] at this;rw[this,Uq];exact XY _
 .rw[z2 k λl hl y=>hb ⟨l,hl,y⟩,TL];exact XY _
def Stp.hold{k:Nat}(s:Stp m W b b' i p)(h1:b.h i≠k)(h2:p≠k):kS m b k↔kS m b' k:=by
 constructor
 .rintro⟨j,hj,e⟩;have ne:j≠i:=λz=>h1 (by rw[<- z];exact e)
  exact⟨j,hj,by rw[s.hj j hj ne];exact e⟩
 .rintro⟨j,hj,e⟩;by_cases z:j=i
  .rw[z,s.hi] at e;exact absurd e h2
  .exact⟨j,hj,by rw[<- s.hj j hj z];exact e⟩
structure Run (m W:Nat) (s:Nat->Bd) (i p:Nat->Nat) (a n:Nat):Prop where
 ok:∀k,a<=k->k<=a+n->Ok m W (s k)
 stp:∀k,a<=k->k<a+n->Stp m W (s k) (s (k+1)) (i k) (p k)
abbrev In(s:Nat->Bd)(i p:Nat->Nat)(t k:Nat):Prop:=(s k).h (i k)=t\/p k=t
def Run.sat{m W:Nat}{s:Nat->Bd}{i p:Nat->Nat}{a n:Nat}(r:Run m W s i p a n){z:Nat->Int}{D:Int}:∀(d u:Nat),a<=u->u+d<=a+n->(zu m W (s u) z D↔zu m W (s (u+d)) z D)
 |0,_,_,_=>Zb6
 |d+1,u,h1,h2=>(r.sat d u h1 ∅).trans (r.stp (u+d) ∅ ∅).sat
def Run.hold{m W:Nat}{s:Nat->Bd}{i p:Nat->Nat}{a n k:Nat}(r:Run m W s i p a n):∀(d u:Nat),a<=u->u+d<=a+n->(∀v,u<=v->v<u+d->¬ In s i p k v)->(kS m (s u) k↔kS m (s (u+d)) k)
 |0,_,_,_,_=>Zb6
 |d+1,u,h1,h2,h3=>(r.hold d u h1 ∅ λv q1 q2=>h3 v q1 ∅).trans ((r.stp (u+d) ∅ ∅).hold (λz=>h3 (u+d) ∅ ∅ (.inl z)) λz=>h3 (u+d) ∅ ∅ (.inr z))
def Run.once{t:Nat}(r:Run m W s i p a n)(top:∀k,a<=k->k<a+n->(s k).h (i k)<=t/\p k<=t):∀(d u:Nat),a<=u->u+(d+1)<a+n->In s i p t u->In s i p t (u+(d+1))->False:=by
 intro d
 induction d using VS with
 |_ d ih =>
  intro u h1 h2 e1 e2;by_cases mid:∃v,u<v/\v<u+(d+1)/\In s i p t v
  .obtain⟨v,v1,v2,v3⟩:=mid;exact ih (v-u-1) ∅ u h1 ∅ e1 (by rw[show u+(v-u-1+1)=v by lia];exact v3)
  .have none:∀v,u+1<=v->v<u+1+d->¬ In s i p t v:=λv q1 q2 q3=>mid ⟨v,∅,∅,q3⟩
   have ev_:u+(d+1)=u+1+d:=by lia
   rw[ev_] at e2 h2;have su:=r.stp u h1 ∅;have sv:=r.stp (u+1+d) ∅ h2;have ou:=r.ok u h1 ∅;have ov:=r.ok (u+1+d) ∅ ∅;have same:=r.hold (k:=t) d (u+1) ∅ ∅ none;have tu:=top u h1 ∅;have tv:=top (u+1+d) ∅ h2
   have far:∀k,t<k->(kS m (s u) k↔kS m (s (u+1+d)) k):=λk hk=>by
    have:=r.hold (k:=k) (d+1) u h1 ∅ λv q1 q2 q3=>by
     have:=top v ∅ ∅
     rcases q3 with q3|q3 <;> lia
    rw[show u+1+d=u+(d+1) by lia];exact this
   have sol:∀z D,(zu m W (s u) z D↔zu m W (s (u+1+d)) z D):=λz D=>by
    have:=r.sat (z:=z) (D:=D) (d+1) u h1 ∅
    rw[show u+1+d=u+(d+1) by lia];exact this
   have ok1:=su.ok ou;by_cases hu:(s u).h (i u)=t
   .have nt : ¬ kS m (s (u+1)) t:=by
     rintro⟨j,hj,e⟩;by_cases z:j=i u
     .rw[z,su.hi] at e;exact su.ne ou (i u) su.im (hu.trans e.symm)
     .rw[su.hj j hj z] at e
      have:=ou.oth j (i u) hj su.im z
      rw[hu,<- e] at this
      have:=ou.own j hj
      lia
    rcases e2 with e2|e2
    .exact nt (same.mpr ⟨_,sv.im,e2⟩)
    .have sv2:=sv;rw[e2] at sv2;exact key ou ov su sv2 hu tv.1 (λz D=>(sol z D).mp) far
   .have pu:p u=t:=e1.resolve_left hu;have yt:kS m (s (u+1+d)) t:=same.mp ⟨i u,su.im,by rw[su.hi,pu]⟩;rcases e2 with e2|e2
    .have su2:=su;rw[pu] at su2;exact key ov ou sv su2 e2 tu.1 (λz D=>(sol z D).mpr) λk hk=>(far k hk).symm
    .obtain⟨j,hj,e⟩:=yt;exact sv.ne ov j hj (by rw[e,e2])
def Run.part{b l:Nat}(r:Run m W s i p a n)(h1:a<=b)(h2:b+l<=a+n):Run m W s i p b l:=⟨λk q1 q2=>r.ok k ∅ ∅,λk q1 q2=>r.stp k ∅ ∅⟩
def Run.few{m W:Nat}{s:Nat->Bd}{i p:Nat->Nat}:∀(T a n:Nat),Run m W s i p a n->(∀k,a<=k->k<a+n->(s k).h (i k)<T/\p k<T)->n+1<=2 ^ T
 |0,a,n,r,top=>by
  cases n with
  |zero=>exact Sx _
  |succ n=>exact absurd (top a (Sx _) ∅).1 (TZ _)
 |T+1,a,n,r,top=>by
  have p2:2 ^ (T+1)=2 ^ T+2 ^ T:=by rw[Uy];lia
  by_cases h:∃v,a<=v/\v<a+n/\In s i p T v
  .obtain⟨v,v1,v2,v3⟩:=h
   have only:∀k,a<=k->k<a+n->k≠v->¬ In s i p T k:=by
    intro k k1 k2 ne k3;rcases Vf k v with q|q
    .exact r.once (λk q1 q2=>by have:=top k q1 q2;lia) (v-k-1) k k1 ∅ k3 (by rw[show k+(v-k-1+1)=v by lia];exact v3)
    .exact r.once (λk q1 q2=>by have:=top k q1 q2;lia) (k-v-1) v v1 ∅ v3 (by rw[show v+(k-v-1+1)=k by lia];exact k3)
   have lo:∀k,a<=k->k<a+n->k≠v->(s k).h (i k)<T/\p k<T:=λk q1 q2 q3=>by
    have:=top k q1 q2
    have n1:=only k q1 q2 q3;exact⟨VM ∅ λz=>n1 (.inl z),VM ∅ λz=>n1 (.inr z)⟩
   have x1:=Run.few T a (v-a) (r.part (Sx _) ∅) λk q1 q2=>lo k q1 ∅ ∅
   have x2:=Run.few T (v+1) (a+n-(v+1)) (r.part ∅ ∅) λk q1 q2=>lo k ∅ ∅ ∅
   lia
  .have:=Run.few T a n r λk q1 q2=>by
    have t1:=top k q1 q2;have n1 : ¬ In s i p T k:=λz=>h ⟨k,q1,q2,z⟩
    exact⟨VM ∅ λz=>n1 (.inl z),VM ∅ λz=>n1 (.inr z)⟩
   lia
def Cd{f:Nat->Nat}{N K:Nat}(h:∀X,X<N->f X<K)(lt:K<N):∃X Y,X<Y/\Y<N/\f X=f Y:=by
 refine Uw λno=>?_
 have nd:((SJ N).map f).Nodup:=by
  unfold ZbS;rw[ZaW];refine YW (λ{a b} ha hb (l:a<b) e=>no ⟨a,b,l,Tv.mp hb,e⟩) Zq
 have:=Ti.bQ (hs:=SJ K) nd λx hx=>by
  obtain⟨X,hX,rfl⟩:=SE.mp hx;exact Tv.mpr (h X (Tv.mp hX))
 rw[Si,SV,SV] at this;lia
abbrev jh(b:Nat):Nat->Nat->Nat
 |X,0=>X % b
 |X,j+1=>jh b (X / b) j
def xK{b:Nat}(h:0<b):∀(j X:Nat),jh b X j<b
 |0,X=>ZbR _ h
 |j+1,X=>xK h j (X / b)
def DX{b:Nat}(h:0<b):∀(n X Y:Nat),X<b ^ n->Y<b ^ n->(∀j,j<n->jh b X j=jh b Y j)->X=Y
 |0,X,Y,h1,h2,_=>by rw[Ye] at h1 h2;lia
 |n+1,X,Y,h1,h2,h3=>by
  have e0:X % b=Y % b:=h3 0 ∅;have e1:X / b=Y / b:=DX h n (X / b) (Y / b) (by rw[ZD h,<- Uy];exact h1) (by rw[ZD h,<- Uy];exact h2) λj hj=>h3 (j+1) ∅
  rw[<- Zbx X b,<- Zbx Y b,e0,e1]
abbrev EJ(R:Nat):Nat->(Nat->Nat)->Nat
 |0,_=>0
 |k+1,y=>EJ R k y+y k*R ^ k
def xE{R:Nat}{y:Nat->Nat}:∀k,(∀i,i<k->y i<R)->EJ R k y<R ^ k
 |0,_=>by rw[Ye];exact Nat.one_pos
 |k+1,h=>by
  have a:=xE k λi hi=>h i ∅
  have c:(y k+1)*R ^ k<=R*R ^ k:=T8 _ (h k ∅);rw[Uy,UE (R ^ k) R,EJ];rw[Nat.add_mul,ZV] at c;lia
def DW{R:Nat}{y z:Nat->Nat}:∀k,(∀i,i<k->y i<R)->(∀i,i<k->z i<R)->EJ R k y=EJ R k z->∀i,i<k->y i=z i
 |0,_,_,_,i,hi=>absurd hi (TZ _)
 |k+1,h1,h2,e,i,hi=>by
  have a:=xE k λi hi=>h1 i ∅
  have c:=xE k λi hi=>h2 i ∅
  have pos:0<R ^ k:=by lia
  rw[EJ,EJ] at e
  have ek:y k=z k:=by
   have d1:(EJ R k y+y k*R ^ k) / R ^ k=y k:=by rw[ZE _ _ pos,Zbf a,Wc]
   have d2:(EJ R k z+z k*R ^ k) / R ^ k=z k:=by rw[ZE _ _ pos,Zbf c,Wc]
   rw[<- d1,<- d2,e]
  by_cases q:i=k
  .rw[q];exact ek
  .rw[ek] at e;exact DW k (λi hi=>h1 i ∅) (λi hi=>h2 i ∅) ∅ i ∅
def ML{n:Nat}{f:Nat->Int}{C:Int}(h:∀k,k<n->-C<=f k/\f k<=C) : -(n*C)<=sm n f/\sm n f<=n*C:=by
 induction n with
 |zero=>rw[sm];simp
 |succ n ih =>
  have a:=ih λk hk=>h k ∅
  have c:=h n ∅;have e:((n+1:Nat):Int)*C=n*C+C:=by rw[Zby,WB];simp
  rw[e,sm];lia
def N9{a x:Int}{M B:Nat}(ha : -(M:Int)<=a/\a<=M)(h0:0<=x)(hx:x<=B) : -((M:Int)*B)<=a*x/\a*x<=(M:Int)*B:=by
 have h1:a*x<=M*x:=V_ ha.2 h0;have h2 : -(M:Int)*x<=a*x:=V_ ha.1 h0;have h3:(M:Int)*x<=M*B:=Wb hx ∅;rw[UY] at h2;lia
def HQ{k M:Nat}{A:Nat->Nat->Int}(m1:1<=M)(hA:∀i,i<k->∀j,j<k+1->-(M:Int)<=A i j/\A i j<=M) :
  ∃x:Nat->Int,(∃j,j<k+1/\x j≠0)/\(∀j,-(((2*((k+1)*M)) ^ k:Nat):Int)<=x j/\x j<=((2*((k+1)*M)) ^ k:Nat))/\∀i,i<k->sm (k+1) (λj=>A i j*x j)=0:=by
 generalize hC:(k+1)*M=C;have c1:1<=C:=by rw[<- hC];exact UZ ∅ m1
 generalize hB:(2*C) ^ k=B
 have lt:(2*C*B+1) ^ k<(B+1) ^ (k+1):=by
  have e1:2*C*B+1<=2*C*(B+1):=by rw[Nat.mul_add];lia
  have e2:(2*C*B+1) ^ k<=(2*C*(B+1)) ^ k:=Vg e1 k;rw[Nat.mul_pow,hB] at e2;rw[Uy,UE ((B+1) ^ k)];have p1:0<(B+1) ^ k:=VD ∅
  have:B*(B+1) ^ k<(B+1)*(B+1) ^ k:=Nat.mul_lt_mul_of_pos_right ∅ p1
  lia
 have bd:∀(X i:Nat),i<k->-((C*B:Nat):Int)<=sm (k+1) (λj=>A i j*(jh (B+1) X j:Int))/\sm (k+1) (λj=>A i j*(jh (B+1) X j:Int))<=((C*B:Nat):Int):=by
  intro X i hi
  have:=ML (n:=k+1) (f:=λj=>A i j*(jh (B+1) X j:Int)) (C:=(M:Int)*B) λj hj=>N9 (hA i hi j hj) ∅ (by have:=xK (b:=B+1) ∅ j X;lia)
  have e:(((k+1:Nat):Int)*((M:Int)*B))=((C*B:Nat):Int):=by rw[<- hC,<- SY];simp
  rw[e] at this;exact this
 have yl:∀(X i:Nat),i<k->(sm (k+1) (λj=>A i j*(jh (B+1) X j:Int))+(C*B:Nat)).toNat<2*C*B+1:=λX i hi=>by
  have:=bd X i hi
  have e:2*C*B=C*B+C*B:=by rw[Uv,ZU]
  lia
 obtain⟨X,Y,l1,l2,e⟩:=Cd (f:=λX=>EJ (2*C*B+1) k λi=>(sm (k+1) (λj=>A i j*(jh (B+1) X j:Int))+(C*B:Nat)).toNat) (N:=(B+1) ^ (k+1)) (λX _=>xE k λi hi=>yl X i hi) lt;have ei:=DW k (λi hi=>yl X i hi) (λi hi=>yl Y i hi) e;refine⟨λj=>(jh (B+1) X j:Int)-jh (B+1) Y j,?_,λj=>?_,λi hi=>?_⟩
 .refine Uw λno=>?_
  have:=DX (b:=B+1) ∅ (k+1) X Y ∅ l2 λj hj=>Uw λne=>no ⟨j,hj,by show((jh (B+1) X j:Int)-jh (B+1) Y j)≠0;lia⟩
  lia
 .have a:=xK (b:=B+1) ∅ j X;have c:=xK (b:=B+1) ∅ j Y;show -((B:Nat):Int)<=(jh (B+1) X j:Int)-jh (B+1) Y j/\(jh (B+1) X j:Int)-jh (B+1) Y j<=(B:Nat);lia
 .have h:=ei i hi;have b1:=bd X i hi;have b2:=bd Y i hi;have es:sm (k+1) (λj=>A i j*(jh (B+1) X j:Int))=sm (k+1) (λj=>A i j*(jh (B+1) Y j:Int)):=by lia
  have e3:sm (k+1) (λj=>A i j*((jh (B+1) X j:Int)-jh (B+1) Y j))=sm (k+1) (λj=>A i j*(jh (B+1) X j:Int))+sm (k+1) (λj=>(-1)*(A i j*(jh (B+1) Y j:Int))):=by
   rw[<- eO];refine aN λj _=>?_
   rw[Xb];lia
  show sm (k+1) (λj=>A i j*((jh (B+1) X j:Int)-jh (B+1) Y j))=0;rw[e3,bN,es];lia
structure From (m W n:Nat) (f b:Bd):Prop where
 ok:Ok m W b
 lin:∀i,i<m->∀k,b.L i k=sm m λl=>b.L i (n+l)*f.L l k
 prim:∀i,i<m->∀d:Int,(∀k,k<=W->d∣b.L i k)->d∣1
 span:∀l,l<m->∃D:Int,0<D/\∃c:Nat->Int,∀k,D*f.L l k=sm m λj=>c j*b.L j k
def ic{n:Nat}{f:Nat->Int}(h:∀k,k<n->f k=0):sm n f=0:=by
 induction n with
 |zero=>rfl
 |succ n ih=>rw[sm,ih λk hk=>h k ∅,h n ∅];rfl
def From.start{n:Nat}(o:Ok m W f)(u:∀l,l<m->∀k,k<m->f.L l (n+k)=if l=k then 1 else 0)(w:n+m<=W+1):From m W n f f:=by
 refine⟨o,λi hi k=>?_,λi hi d hd=>?_,λl hl=>⟨1,by decide,λj=>if j=l then 1 else 0,λk=>?_⟩⟩
 .rw[dA hi λl hl ne=>?_,u i hi i hi,if_pos rfl,XW];rw[u i hi l hl,if_neg (λz=>ne z.symm),Uq]
 .have:=hd (n+i) ∅
  rw[u i hi i hi,if_pos rfl] at this;exact this
 .rw[dA (j:=l) hl λj hj ne=>?_]
  .show 1*f.L l k=(if l=l then 1 else 0)*f.L l k;rw[if_pos rfl]
  .show(if j=l then 1 else 0)*f.L j k=0;rw[if_neg ne,Uq]
def From.step{m W n:Nat}{f b b':Bd}{i p:Nat}(F:From m W n f b)(s:Stp m W b b' i p)(pr:∀j,j<m->j≠i->∀d:Int,(∀k,k<=W->d∣b'.L j k)->d∣1):From m W n f b':=by
 have lo:=s.low;refine⟨s.ok F.ok,λj hj k=>?_,λj hj d hd=>?_,λl hl=>?_⟩
 .by_cases e:j=i
  .subst e;rw[s.li,F.lin j hj k,<- UR,<- bN];refine aN λl _=>?_
   rw[s.li,<- SY,UR]
  .obtain⟨g,g0,gk⟩:=s.lj j hj e;refine Ug (a:=g) ∅ ?_;rw[gk k,<- bN,F.lin j hj k,F.lin i s.im k,<- bN,<- UR (sm m _),<- bN,<- bN,Zau,<- UR (sm m _),<- bN,<- eO];refine aN λl _=>?_
   rw[<- SY g,gk,Zbq];rw[SY (-b.L i p),UR,UR,SY (b.L j p),UY (b.L i (n+l))];lia
 .by_cases e:j=i
  .subst e;refine F.prim j hj d λk hk=>?_
   have:=hd k hk
   rw[s.li] at this;exact(Int.dvd_neg).mp this
  .exact pr j hj e d hd
 .obtain⟨D,D0,c,hc⟩:=F.span l hl
  have G:∃g:Nat->Int,∀j,j<m->j≠i->∀k,g j*b'.L j k=(- b.L i p)*b.L j k-b.L j p*(- b.L i k):=by
   refine⟨λj=>if h:j<m/\j≠i then VH (s.lj j h.1 h.2) else 0,λj hj ne k=>?_⟩;show(if h:j<m/\j≠i then VH (s.lj j h.1 h.2) else 0)*_=_;rw[dif_pos ⟨hj,ne⟩];exact(Vk (s.lj j hj ne)).2 k
  obtain⟨g,hg⟩:=G;generalize hX:sm m (λj=>c j*b.L j p)=X;refine⟨- b.L i p*D,VY ∅ D0,λj=>if j=i then X else c j*g j,λk=>?_⟩
  have split:∀(q:Nat->Int),sm m q=q i+sm m λj=>if j=i then 0 else q j:=λq=>by
   have e1:sm m (λj=>if j=i then q i else 0)=q i:=by
    rw[dA s.im λj _ ne=>if_neg ne,if_pos rfl]
   rw[<- e1,<- eO];refine aN λj _=>?_
   by_cases e:j=i
   .rw[if_pos e,if_pos e,e,UF]
   .rw[if_neg e,if_neg e,UB]
  have e1:sm m (λj=>if j=i then 0 else (if j=i then X else c j*g j)*b'.L j k)=sm m λj=>-b.L i p*(c j*b.L j k)+b.L i k*(c j*b.L j p):=by
   refine aN λj hj=>?_
   by_cases e:j=i
   .rw[if_pos e,e,UY,To (b.L i p),To (b.L i k),T9 (b.L i k)];lia
   .rw[if_neg e,if_neg e,SY,hg j hj e k,Xb,To (c j),Vq (b.L j p),Vq (c j),<- SY (c j) (b.L j p),T9 (c j*b.L j p)];lia
  rw[split λj=>(if j=i then X else c j*g j)*b'.L j k,e1,eO,bN,bN,hX,if_pos rfl,s.li,Vq,T9 X,SY,hc k];lia
def From.line{i:Nat}(F:From m W n f b)(hi:i<m){y:Nat->Int}(z:∀j,j<m->j≠i->sm m (λl=>y l*f.L l (b.h j))=0)(k:Nat) :
  b.L i (b.h i)*sm m (λl=>y l*f.L l k)=sm m (λl=>y l*f.L l (b.h i))*b.L i k:=by
 have all:∀q,q<=m->∃D:Int,0<D/\∃c:Nat->Int,∀k,D*sm q (λl=>y l*f.L l k)=sm m λj=>c j*b.L j k:=by
  intro q
  induction q with
  |zero=>exact λ_=>⟨1,by decide,λ_=>0,λk=>by rw[sm,ic λj _=>Uq _];rfl⟩
  |succ q ih =>
   intro hq;obtain⟨D,D0,c,hc⟩:=ih ∅;obtain⟨E,E0,d,hd⟩:=F.span q ∅;refine⟨D*E,VY D0 E0,λj=>E*c j+D*y q*d j,λk=>?_⟩;rw[sm,Vb,T9 D E,SY E D,hc k];have e:E*D*(y q*f.L q k)=D*y q*(E*f.L q k):=by rw[T9 E D,SY,SY,To E]
   rw[e,hd k,<- bN,<- bN,<- eO];refine aN λj _=>?_
   rw[WB,SY E,SY (D*y q)]
 obtain⟨D,D0,c,hc⟩:=all m (Sx _)
 have cz:∀j,j<m->j≠i->c j=0:=by
  intro j hj ne
  have:=hc (b.h j)
  rw[z j hj ne,TL,dA hj λl hl nl=>by rw[F.ok.oth l j hl hj nl,TL]] at this;have o:=F.ok.own j hj;rcases TJ.mp this.symm with y|y
  .exact y
  .lia
 have at_:∀k,D*sm m (λl=>y l*f.L l k)=c i*b.L i k:=λk=>by
  rw[hc k,dA hi λj hj ne=>by rw[cz j hj ne,Uq]]
 refine Ug (a:=D) ∅ ?_;rw[To,at_ k,<- SY D,at_ (b.h i),To,<- SY (c i)]
def MK{n C:Nat}{f:Nat->Int}(h:∀k,k<n->(f k).natAbs<=C):(sm n f).natAbs<=n*C:=by
 induction n with
 |zero=>rw[sm];exact TV _
 |succ n ih =>
  rw[sm,WI];have a:=ih λk hk=>h k ∅
  have c:=h n ∅
  have:=Xq (sm n f) (f n)
  lia
def Im{x:Int}{B:Nat}(h : -(B:Int)<=x/\x<=B):x.natAbs<=B:=by lia
def BX{W:Nat}{r s:Nat->Int}{a q:Int}(a0:0<a)(q0:q≠0)(e:∀k,a*s k=q*r k)(pr:∀d:Int,(∀k,k<=W->d∣r k)->d∣1)(k:Nat):(r k).natAbs<=(s k).natAbs:=by
 have A0:0<a.natAbs:=by lia
 have Q0:0<q.natAbs:=by lia
 have en:∀k,a.natAbs*(s k).natAbs=q.natAbs*(r k).natAbs:=λk=>by rw[<- Ud,e k,Ud]
 have g0:0<Tz a.natAbs q.natAbs:=Nat.gcd_pos_of_pos_left _ A0;obtain⟨A1,hA⟩:=WK a.natAbs q.natAbs;obtain⟨Q1,hQ⟩:=YN a.natAbs q.natAbs
 have co:Xd A1 Q1:=by
  have:=Nat.coprime_div_gcd_div_gcd g0
  rw[show a.natAbs / Tz a.natAbs q.natAbs=A1 from Yw g0 hA,show q.natAbs / Tz a.natAbs q.natAbs=Q1 from Yw g0 hQ] at this;exact this
 have e1:∀k,A1*(s k).natAbs=Q1*(r k).natAbs:=λk=>by
  refine Nat.eq_of_mul_eq_mul_left g0 ?_;rw[<- Uv,<- Uv,<- hA,<- hQ];exact en k
 have one:A1=1:=by
  have:=pr (A1:Int) λk _=>by
   rw[Zav];exact co.dvd_of_dvd_mul_left ⟨_,(e1 k).symm⟩
  have:A1∣1:=by
   rw[Zav] at this;exact this
  exact Nat.dvd_one.mp this
 have Qp:0<Q1:=by
  rcases W4 Q1 with z|z
  .rw[z,Nat.mul_zero] at hQ;lia
  .exact z
 have:=e1 k
 rw[one,ZV] at this;rw[this];exact UU _ Qp
abbrev ym(i j:Nat):Nat:=if j<i then j else j+1
def From.small{q M:Nat}(F:From (q+1) W n f b)(u:∀l,l<q+1->∀k,k<q+1->f.L l (n+k)=if l=k then 1 else 0)(m1:1<=M)(hM:∀l,l<q+1->∀k,(f.L l k).natAbs<=M){i:Nat}(hi:i<q+1)(k:Nat) :
  (b.L i k).natAbs<=(q+1)*((2*((q+1)*M)) ^ q*M):=by
 obtain⟨y,⟨j,hj,nz⟩,yb,ye⟩:=HQ (k:=q) (M:=M) (A:=λj l=>f.L l (b.h (ym i j))) m1 λj hj l hl=>by have:=hM l hl (b.h (ym i j));lia
 have z:∀j,j<q+1->j≠i->sm (q+1) (λl=>y l*f.L l (b.h j))=0:=by
  intro j hj ne;by_cases lt:j<i
  .have:=ye j ∅
   rw[show ym i j=j from if_pos lt] at this;rw[<- this];exact aN λl _=>T9 ..
  .have:=ye (j-1) ∅
   rw[show ym i (j-1)=j by unfold ym;rw[if_neg ∅];lia] at this;rw[<- this];exact aN λl _=>T9 ..
 have un:∀l,l<q+1->sm (q+1) (λl'=>y l'*f.L l' (n+l))=y l:=λl hl=>by
  rw[dA hl λl' hl' ne=>by rw[u l' hl' l hl,if_neg ne,TL],u l hl l hl,if_pos rfl,Zbk]
 have ln:=F.line hi z;have o:=F.ok.own i hi
 have q0:sm (q+1) (λl=>y l*f.L l (b.h i))≠0:=by
  intro e
  have:=ln (n+j)
  rw[e,Uq,un j hj] at this;rcases TJ.mp this with x|x
  .lia
  .exact nz x
 refine Ta (BX (W:=W) (r:=b.L i) o q0 ln (F.prim i hi) k) ?_;refine MK λl hl=>?_
 rw[Ud];exact Uz (Im (yb l)) (hM l hl k)
def From.told{M:Nat}(F:From m W n f b)(m1:1<=M)(hM:∀l,l<m->∀k,(f.L l k).natAbs<=M) :
  ∃(z:Nat->Int) (D:Int),D≠0/\(∀k,(z k).natAbs<=(2*((W+1)*M)) ^ W)/\(∀i,i<m->b.L i (b.h i)*z (b.h i)=D*b.L i W)/\∀k,k<W->(∀i,i<m->b.h i≠k)->z k=0:=by
 have key:∃A:Nat->Nat->Int,(∀k,k<W->∀c,-(M:Int)<=A k c/\A k c<=M)/\(∀i,i<m->∀c,A (b.h i) c=if c=W then-f.L i W else f.L i c)/\∀k,k<W->(∀i,i<m->b.h i≠k)->∀c,A k c=if c=k then 1 else 0:=by
  have inj:∀i j,i<m->j<m->b.h i=b.h j->i=j:=by
   intro i j hi hj e;by_cases z:i=j
   .exact z
   .have:=F.ok.oth i j hi hj z
    rw[<- e] at this
    have:=F.ok.own i hi
    lia
  refine⟨λk c=>if h:∃i,i<m/\b.h i=k then (if c=W then-f.L (VH h) W else f.L (VH h) c) else if c=k then 1 else 0,λk _ c=>?_,λi hi c=>?_,λk _ no c=>?_⟩
  .show _<=(if h:∃i,i<m/\b.h i=k then _ else _)/\(if h:∃i,i<m/\b.h i=k then _ else _)<=_;by_cases h:∃i,i<m/\b.h i=k
   .rw[dif_pos h];have h1:=hM _ (Vk h).1 W;have h2:=hM _ (Vk h).1 c;split <;> lia
   .rw[dif_neg h];split <;> lia
  .have h:∃j,j<m/\b.h j=b.h i:=⟨i,hi,rfl⟩
   show(if h:∃j,j<m/\b.h j=b.h i then _ else _)=_;rw[dif_pos h];have e:VH h=i:=inj _ _ (Vk h).1 hi (Vk h).2;rw[e]
  .show(if h:∃j,j<m/\b.h j=k then _ else _)=_;rw[dif_neg (by rintro ⟨i,hi,e⟩;exact no i hi e)]
 obtain⟨A,a1,a2,a3⟩:=key;obtain⟨z,⟨j,hj,nz⟩,zb,ze⟩:=HQ (k:=W) (M:=M) (A:=A) m1 λk hk c _=>a1 k hk c
 have sf:zu m W f z (z W):=λi hi=>by
  have:=ze (b.h i) (F.ok.lt i hi)
  rw[sm,a2 i hi W,if_pos rfl,aN (g:=λc=>f.L i c*z c) λc hc=>by rw[a2 i hi c,if_neg ∅],UY] at this;show sm W (λc=>f.L i c*z c)=z W*f.L i W;rw[T9];lia
 have zk:∀k,k<W->(∀i,i<m->b.h i≠k)->z k=0:=λk hk no=>by
  have:=ze k hk
  rw[dA (j:=k) ∅ λc _ ne=>by rw[a3 k hk no c,if_neg ne,Uq],a3 k hk no k,if_pos rfl,XW] at this;exact this
 have own:∀i,i<m->b.L i (b.h i)*z (b.h i)=z W*b.L i W:=λi hi=>by
  have e1:ev W (b.L i) z=z W*b.L i W:=by
   unfold ev
   have:∀w,w<=W->sm w (λk=>b.L i k*z k)=sm m λl=>b.L i (n+l)*sm w λk=>f.L l k*z k:=by
    intro w
    induction w with
    |zero=>exact λ_=>by rw[sm,ic λl _=>by rw[sm,TL]]
    |succ w ih =>
     intro hw;rw[sm,ih ∅,F.lin i hi w,T9 (sm m _),<- bN,<- eO];refine aN λl _=>?_
     rw[sm,Vb,To (z w),T9 (z w)]
   rw[this W (Sx _),F.lin i hi W,<- bN];refine aN λl hl=>?_
   have:=sf l hl
   unfold ev at this;rw[this,To]
  rw[<- e1];unfold ev;rw[dA (F.ok.lt i hi) λk hk ne=>?_];by_cases e:∃j,j<m/\b.h j=k
  .obtain⟨j,hj,rfl⟩:=e;rw[F.ok.oth i j hi hj (λz=>ne (by rw[z])),Uq]
  .rw[zk k hk λj hj z=>e ⟨j,hj,z⟩,TL]
 refine⟨z,z W,λe=>nz ?_,λk=>Im (zb k),own,zk⟩;by_cases ew:j=W
 .rw[ew];exact e
 .by_cases h:∃i,i<m/\b.h i=j
  .obtain⟨i,hi,rfl⟩:=h
   have:=own i hi
   rw[e,Uq] at this;have o:=F.ok.own i hi;rcases TJ.mp this with x|x
   .lia
   .exact x
  .exact zk j ∅ λi hi z=>h ⟨i,hi,z⟩
end Bo
namespace L2
open PySem
def mV{K:Fg}{Q:VK}{H:Hp}{xs:List V}(h:∀D,H D=none->∃Pv:Nat->Hp->Prop,Pv 0 (upd H D (.lst []))/\(∀i H2,i<=UD xs->Pv i H2->SqL K H2 a xs) /\
  (∀i x H2 T,xs[i]?=some x->Pv i H2->H2 T=none->HD g n te σ (.ref T) (upd H2 T (.tup [.int i,x])) D (UD xs) i Pv)/\∀H2,Pv (UD xs) H2->Q (.ref D) H2):we (Mn K a) n g te σ Q H:=by
 intro D nD;obtain⟨Pv,h0,hl,hs,hd⟩:=h D nD;refine⟨λi m H=>m=UD xs-i/\i<=(UD xs)/\Pv i H,⟨_,rfl,TV _,h0⟩,?_⟩;rintro i m H ⟨rfl,hi,p⟩;have q:=hl i H hi p;by_cases Ds:i<UD xs
 .refine .inr ⟨⟨xs,q,Ds⟩,λv H' y us hu=>?_⟩;obtain⟨T,x,nT,rfl,rfl,z⟩:=y;exact hs i x H T (z xs q) p nT us hu
 .have e:i=UD xs:=by lia
  subst e;exact .inl ⟨⟨xs,q,Sx _⟩,hd H p⟩
def vD{K:Fg}{H:Hp}{D:cr}{k1 k2:Kn}{xs ys:List V}{g:TG}{tb:TS}{n:Nat}(e1:UD xs=n)(e2:UD ys=n)(Pv:Nat->St->Hp->Prop)(h0:Pv 0 σ H)(hl:∀i σ H,i<=n->Pv i σ H->k1.sq K H a xs/\k2.sq K H b ys)
  (hs:∀i x y σ H T,xs[i]?=some x->ys[i]?=some y->Pv i σ H->H T=none->g (.ref T) σ (upd H T (.tup [x,y])) λσ2 H2=>tb {D with nx:=Pv (i+1),ct:=Pv (i+1),bk:=D.nx} σ2 H2) (hd:∀σ H,Pv n σ H->D.nx σ H):zv (IW K k1 k2 a b) g tb D σ H:=by
 refine⟨λi m σ H=>m=n-i/\i<=n/\Pv i σ H,⟨_,rfl,TV _,h0⟩,?_⟩;rintro i m σ H ⟨rfl,hi,p⟩;obtain⟨q1,q2⟩:=hl i σ H hi p;obtain⟨g1,g2,g3⟩:=zy (i:=i) q1 q2 (ZaG e1.symm) (ZaG e2.symm) (.inl e1);by_cases Ds:i<n
 .refine .inr ⟨g1 Ds,Pv (i+1),λσ' H' p'=>⟨n-(i+1),∅,rfl,Ds,p'⟩,λv H' y=>?_⟩;obtain⟨T,x,z,nT,rfl,rfl,z1,z2⟩:=g3 y;exact hs i x z σ H T z1 z2 p nT
 .obtain rfl:i=n:=by lia
  exact .inl ⟨g2 (Sx _),hd σ H p⟩
end L2
namespace Br
open PySem L2 Fr G1 Sm Vs G2 Rk Sz Sf Rw
open PySem.W (Dat kqdOk)
abbrev di(r:List Int):List Int:=r.map λx=>-x
def dh(r:List Int):(di r).length=UD r:=Si _
abbrev LnAt(H:Hp)(a:Addr)(B:List (List Int)):Prop:=∃xs,H a=some (.lst xs)/\xs.length=B.length/\∀(i:Nat) (x:V) (r:List Int),xs[i]?=some x->B[i]?=some r->∃c,x=.ref c/\H c=some (.lst (r.map V.int))
def LnAt.same(h:LnAt H a B)(e:Same H H'):LnAt H' a B:=by
 obtain⟨xs,h1,h2,h3⟩:=h;refine⟨xs,e _ _ h1,h2,λi x r q1 q2=>?_⟩;obtain⟨c,rfl,z⟩:=h3 i x r q1 q2;exact⟨c,rfl,e _ _ z⟩
def LnAt.get{H:Hp}{a:Addr}{B:List (List Int)}{xs:List V}(h2:UD xs=UD B)(h3:∀(i:Nat) (x:V) (r:List Int),xs[i]?=some x->B[i]?=some r->∃c,x=.ref c/\H c=some (.lst (r.map V.int))){i:Nat}{r:List Int}(e:B[i]?=some r):∃c,xs[i]?=⇑c/\H c=some (.lst (r.map V.int)):=by
 have li:=(Sn.mp e).1;obtain⟨c,z1,z2⟩:=h3 i xs[i] r (Sk ∅) e;exact⟨c,by rw[Sk ∅,z1],z2⟩
abbrev Fn(K:Fg):Sp:=λvs H Q _=>∃(x:V) (r:List Int),vs=[x]/\RowV H x r/\r.length<=100/\∀(p:Addr) (H':Hp),AccZ K H p H' ((di r).map TF)->Q (.ref p) H'
abbrev Jq(K:Fg):TS:=(aA (ck (LJ K (aa 0)) (Az (rU λi=>.int (-i)) (aa 0))))
def MU{K:Fg}:ρ 1 (Fn K) (Jq K):=by
 fail "R";obtain⟨x,r,rfl,rv,hl,k⟩:=h;obtain⟨c,rfl,hc⟩:=rv;rw[L2.aI hN];walk_at "t";unfold Jq;cbv;refine Hq (xs:=r.map V.int) (hc.imp SqL.of SqT.of) λD nD=>⟨λj H2=>AccZ K H D H2 ((di (r.take j)).map TF),by simpa[di] using AccZ.start (Same.refl _) nD,λ_ _ A=>A.same,?_,?_⟩
 .intro j x H2 hx A;have lj:=(Sn.mp hx).1;rw[So] at hx;obtain⟨m,hm,rfl⟩:=SA.mp hx;cbv;refine aH lj ?_;refine A.bG (.int (-m)) (am (by rw[Si,dh,SL];lia)) λH3 A3=>?_
  show AccZ K H D H3 ((di (r.take (j+1))).map TF);rw[SK,hm];unfold di at A3 ⊢;rw[Sr,Sr];exact A3
 .intro H2 A;rw[Si,TX] at A;exact k D H2 A
abbrev wA(K:Fg):Sp:=λvs H Q _=>∃(a:Addr) (R:List (List Int)),vs=[.ref a]/\cJ H a R/\R.length<=100/\(∀r∈R,UD r<=100)/\∀(p:Addr) (H':Hp),Acc K H p H' ((R.map di).map dL)->Q (.ref p) H'
abbrev Ab(K:Fg):TS:=(aA (ck (bY K (aa 0)) (aw (Fn K) [] E0 (ac (aa 0) ae))))
def J1{K:Fg}:ρ 1 (wA K) (Ab K):=by
 fail "R";obtain⟨a,R,rfl,⟨xs,ha,lx,rw_⟩,hl,hr,k⟩:=h;rw[L2.aI hN];walk_at "t";unfold Ab;cbv;refine mn (SqL.of ha) ?_;refine bZ (xs:=xs) λD nD=>⟨λj H2=>Acc K H D H2 (((R.take j).map di).map dL),by simpa using Acc.start nD,λj H2 _ A=>SqL.of (A.same _ _ ha),?_,?_⟩
 .intro j x H2 hx A;have lj:=(Sn.mp hx).1;have er:R[j]?=some R[j]:=Sk ∅;have rv:=rw_ j x _ hx er;have ll:=hr _ (Sq er);generalize R[j]=r at er rv ll;cbv;refine⟨x,r,rfl,rv.same A.same,ll,λq H3 C=>?_⟩;refine aH lj ?_;refine A.bG C.same (d:=dL (di r)) C.ref (am (by rw[Si,Si,SL];lia)) λH4 A4=>?_
  show Acc K H D H4 (((R.take (j+1)).map di).map dL);rw[SK,er,Sr,Sr];exact A4
 .intro H2 A;rw[lx,TX] at A;exact k D H2 A
abbrev uw(K:Fg):Sp:=λvs H Q _=>∃(a:Addr) (r:List Int) (w:Nat),vs=[.ref a]/\H a=some (.lst (r.map V.int))/\r.length=w+1/\w<=100/\∀H',Same H H'->((∀k,k<w->0<=pt r k)->Q .non H')/\∀p,p<w->pt r p<0->(∀k,k<p->0<=pt r k)->Q (.int (p:Int)) H'
def LZ(xs:List V){w:Nat}(h:UD xs=w+1):jm xs none (some (-1))=xs.take w:=by
 unfold jm;have e1:HT.sIx (UD xs) 0 none=0:=rfl
 have e2:HT.sIx (UD xs) (UD xs) (some (-1))=w:=by
  show(if (-1:Int)<0 then ((-1:Int)+(UD xs:Nat)).toNat else min (-1:Int).toNat (UD xs))=_;rw[if_pos (by decide)];lia
 rw[e1,e2,ZJ,Nat.sub_zero]
abbrev t_(K:Fg):TS:=(ao (bo (iw K (ac (HL (yI K) (aa 0) f9 (ot (Az (rU λi=>.int (-i)) (tC (.int 1))))) ae)) (cf K 2 (aS (ak 1) (aS (ak 2) cj)))
 (a4 (aK (ar yJ (aa 2) (tC (.int 0))))
 (aA (aa 1))
 be))
 (aA (tC .non)))
def F9{K:Fg}:ρ 3 (uw K) (t_ K):=by
 fail "R";obtain⟨a,r,w,rfl,ha,hl,hw,k⟩:=h;rw[L2.aI hN];walk_at "t";unfold t_;cbv;refine⟨a,_,rfl,SqL.of ha,λl nl=>?_⟩;rw[LZ _ (w:=w) (by rw[Si];exact hl)];have S1:=ai nl (.lst ((r.map V.int).take w));have hl1:upd H l (.lst ((r.map V.int).take w)) l=some (.lst ((r.map V.int).take w)):=ag;generalize upd H l (.lst ((r.map V.int).take w))=H1 at S1 hl1 ⊢;have lw:((r.map V.int).take w).length=w:=by rw[SL,Si];lia
 cbv;refine⟨l,_,rfl,SqL.of hl1,?_⟩;refine dY (xs:=(r.map V.int).take w) (λi σ H2=>∃u1 u2:Option V,σ=[⇑a,u1,u2]/\Same H1 H2/\∀k,k<i->0<=pt r k) ⟨none,none,rfl,Same.refl _,λk hk=>absurd hk (TZ _)⟩ (by rintro i σ H2 _ ⟨_,_,_,S,_⟩;exact SqL.of (S _ _ hl1)) ?_ ?_
 .rintro i x σ H2 T hx ⟨u1,u2,rfl,S2,lo⟩ nT;have li:i<w:=by rw[<- lw];exact(Sn.mp hx).1
  have ex:x=.int (pt r i):=by
   rw[Vn li,So,Sk ∅] at hx;cases hx;unfold pt;rw[Sj,Sk ∅];rfl
  subst ex;have S3:=S2.trans (ai nT (.tup [.int (i:Int),.int (pt r i)]));have hT:upd H2 T (.tup [.int (i:Int),.int (pt r i)]) T=some (.tup [.int (i:Int),.int (pt r i)]):=ag;generalize upd H2 T (.tup [.int (i:Int),.int (pt r i)])=H3 at S3 hT ⊢;refine bu (SqT.of hT) rfl ?_;cbv;refine aZ (λc=>?_) (λc=>?_)
  .cbv;exact(k H3 (S1.trans S3)).2 i li (by simpa using c) lo
  .cbv;refine⟨_,_,rfl,S3,λk hk=>?_⟩;rcases Vf k i with q|q
   .exact lo k q
   .rw[show k=i by lia];simpa using c
 .rintro σ H2 ⟨u1,u2,rfl,S2,lo⟩;rw[lw] at lo;cbv;exact(k H2 (S1.trans S2)).1 lo
abbrev eK(l h:List Int)(p:Nat):List Int:=Up (λx y=>pt h p*x-pt l p*y) l h
abbrev wo(l h:List Int)(p:Nat):List Int:=(eK l h p).map λx=>x.fdiv (bf (eK l h p))
def jH{l h:List Int}(e:UD l=UD h):(eK l h p).length=UD l:=by unfold eK;rw[UW];lia
abbrev jT(K:Fg):Sp:=λvs H Q _=>∃(a b:Addr) (l h:List Int) (p:Nat),vs=[.ref a,.ref b,.int (p:Int)]/\H a=some (.lst (l.map V.int))/\H b=some (.lst (h.map V.int))/\l.length=h.length/\p<(UD l)/\l.length<=100/\(∀c∈l,c.natAbs<2 ^ 4000)/\(∀c∈h,c.natAbs<2 ^ 4000)/\bf (eK l h p)≠0/\(bf (eK l h p)).natAbs<2 ^ 9000 /\
 ∀(q:Addr) (H':Hp),AccZ K H q H' ((wo l h p).map TF)->Q (.ref q) H'
def rj{r:List Int}{p:Nat}(h:p<UD r):pt r p∈r:=by
 unfold pt;rw[Sj,Sk h];exact Ul h
def eX{r:List Int}{p:Nat}(h:p<UD r):r[p]?=some (pt r p):=by
 unfold pt;rw[Sj,Sk h];rfl
def Gf{r:List Int}{p:Nat}(h:p<UD r):qe (r.map V.int) (p:Int)=↥(pt r p):=aM (by rw[So,eX h];rfl)
abbrev jI(K:Fg):TS:=(ao (ay (c5 (mq K .L .L (ac (aa 0) (ac (aa 1) ae))) 2 (cf K 2 (aS (ak 0) (aS (ak 1) cj))) (ar kf (ar ik (ar (bP K) (aa 3) (aa 4)) (aa 0)) (ar ik (ar (bP K) (aa 2) (aa 4)) (aa 1)))) (ak 3))
 (ao (ay (aw (Fo K) [] E0 (ac (aa 3) ae)) (ak 4))
 (aA (ck (bY K (aa 3)) (ar jb (aa 0) (aa 5))))))
def yy{K:Fg}:ρ 5 (jT K) (jI K):=by
 fail "R";obtain⟨a,b,l,h,p,rfl,ha,hb,e,hp,hl,bl,bh,g0,g9,k⟩:=h;rw[L2.aI hN];walk_at "t";unfold jI;have big:(2:Nat) ^ 4000<2 ^ 20000:=UA (by decide) (by decide);cbv;refine⟨a,b,_,_,rfl,SqL.of ha,SqL.of hb,?_⟩;have lz:min (l.map V.int).length (h.map V.int).length=UD l:=by rw[Si,Si];lia
 refine jC (k1:=.L) (k2:=.L) (xs:=l.map V.int) (ys:=h.map V.int) λD nD=>⟨λj H2=>AccZ K H D H2 (((eK l h p).take j).map TF),by simpa using AccZ.start (Same.refl _) nD,λj H2 _ A=>⟨SqL.of (A.same _ _ ha),SqL.of (A.same _ _ hb)⟩,?_,?_⟩
 .intro j y1 y2 H2 T e1 e2 A nT us hu
  obtain⟨u0,u1,rfl⟩:∃u w,us=[u,w]:=ex2 hu
  rw[So] at e1 e2;obtain⟨m1,g1,rfl⟩:=SA.mp e1;obtain⟨m2,g2,rfl⟩:=SA.mp e2;have lj:=(Sn.mp g1).1;have ec:(eK l h p)[j]?=some (pt h p*m1-pt l p*m2):=by unfold eK;rw[T_,g1,g2]
  have A2:=A.on (ai nT (.tup [.int m1,.int m2]));have hT:upd H2 T (.tup [.int m1,.int m2]) T=some (.tup [.int m1,.int m2]):=ag;generalize upd H2 T (.tup [.int m1,.int m2])=H3 at A2 hT ⊢;refine bu (SqT.of hT) rfl ?_;cbv;refine⟨⟨[↥m1,↥m2],rfl,rfl⟩,?_⟩;cbv;refine bX (SqL.of (A2.same _ _ hb)) (Gf ∅) ?_;cbv;refine⟨pt h p,m1,rfl,rfl,⟨Ut (bh _ (rj ∅)) big,Ut (bl _ (Sq g1)) big⟩,?_⟩;cbv;refine bX (SqL.of (A2.same _ _ ha)) (Gf hp) ?_;cbv;refine⟨pt l p,m2,rfl,rfl,⟨Ut (bl _ (rj hp)) big,Ut (bh _ (Sq g2)) big⟩,?_⟩;cbv;refine aH (by rw[lz];exact lj) ?_;refine A2.bG (.int _) (am (by rw[Si,SL];lia)) λH4 A4=>?_
  show AccZ K H D H4 (((eK l h p).take (j+1)).map TF);rw[SK,ec,Sr];exact A4
 intro H2 A;rw[lz,<- jH (p:=p) e,TX] at A;have lw:=jH (p:=p) e;have hD:=AccZ.ints A;unfold wo at k;generalize eK l h p=r at A lw hD g0 g9 k;cbv;refine⟨D,r,rfl,hD,λH3 S3=>?_⟩;cbv;refine mn (SqL.of (S3 _ _ hD)) ?_;have S03:=A.same.trans S3;refine bZ (xs:=r.map V.int) λF nF=>⟨λj H4=>AccZ K H3 F H4 (((r.map λx=>x.fdiv (bf r)).take j).map TF),by simpa using AccZ.start (Same.refl _) nF,λj H4 _ A4=>SqL.of (A4.same _ _ (S3 _ _ hD)),?_,?_⟩
 .intro j x H4 hx A4;have lj:=(Sn.mp hx).1;rw[So] at hx;obtain⟨m,hm,rfl⟩:=SA.mp hx;have lr:j<UD r:=(Sn.mp hm).1;cbv;refine⟨m,bf r,rfl,rfl,⟨g0,g9⟩,?_⟩;refine aH lj ?_;refine A4.bG (.int _) (am (by rw[Si,SL];lia)) λH5 A5=>?_
  show AccZ K H3 F H5 (((r.map λx=>x.fdiv (bf r)).take (j+1)).map TF);rw[SK,So,hm,Sr];exact A5
 .intro H4 A4;rw[SD (by rw[Si,Si];exact Sx _)] at A4;exact k F H4 ⟨S03.trans A4.same,S03.free A4.new,A4.at_⟩
abbrev a5(r:List Int):Int:=pt r (UD r-1)
abbrev jV(K:Fg):Sp:=λvs H Q _=>∃(a b:Addr) (B:List (List Int)) (hs:List Nat),vs=[.ref a,.ref b]/\LnAt H a B/\H b=some (.lst (hs.map λk:Nat=>.int (k:Int)))/\B.length=hs.length/\B.length<=100/\(∀r∈B,r≠[])/\hs.Nodup /\
 ∀H',Same H H'->((∀r∈B,0<=a5 r)->Q .non H')/\∀i,i<UD B->a5 (B.getD i [])<0->(∀j,j<UD B->a5 (B.getD j [])<0->hs.getD i 0<=hs.getD j 0)->Q (.int (i:Int)) H'
abbrev d7(B:List (List Int))(hs:List Nat)(j:Nat):List Nat:=((SJ j).filter λi=>decide (a5 (B.getD i [])<0)).map λi=>hs.getD i 0
def jF{r:List Int}(h:r≠[]):qe (r.map V.int) (-1)=↥(a5 r):=by
 have p:0<UD r:=V5.mpr h;unfold qe zq;rw[if_neg (by decide),Si];rw[if_pos ∅];show(r.map V.int)[(-1+(UD r:Int)).toNat]? = _;rw[show(-1+(r.length:Int)).toNat=UD r-1 by lia,So,eX ∅];rfl
abbrev tI(K:Fg):TS:=(ao (ay (d5 (mq K .L .L (ac (aa 0) (ac (aa 1) ae))) 2 (cf K 2 (aS (ak 0) (aS (ak 1) cj))) (aK (ar yJ (ar (bP K) (aa 0) (Az (rU λi=>.int (-i)) (tC (.int 1)))) (tC (.int 0)))) (aa 1)) (ak 2))
 (ao (a4 (aK (ar ja (bO (bz K) (ac (aa 2) ae)) (tC (.int 0))))
 (aA (tC .non))
 be)
 (aA (dJ K "list" (rf K) (aa 1) (ac (bO (M4 K) (ac (aa 2) ae)) ae)))))
def FR{K:Fg} {vs:List V}    {N:List Str} (hN:UD N=3) (h:jV K vs H Q E):tI K (ends Q) (L2.start N vs) H := by
  obtain⟨a, b, B, hs, rfl, ⟨xs, ha, lx, hx⟩, hb, lb, l100, ne, nd, k⟩ := h;rw[L2.aI hN]; walk_at "t";unfold tI;cbv;refine⟨a, b, _, _, rfl, SqL.of ha, SqL.of hb, ?_⟩;have lz:min (UD xs) (hs.map λk:Nat => V.int (k:Int)).length=(UD B) := by rw[Si]; lia
  refine Ed (k1 := .L) (k2 := .L) (xs := xs) (ys := hs.map λk:Nat => V.int (k:Int)) λD nD => ⟨λj H2 => AccZ K H D H2 (((d7 B hs j).map λk:Nat => (k:Int)).map TF), by simpa[d7] using AccZ.start (Same.refl _) nD, λj H2 _ A => ⟨SqL.of (A.same _ _ ha), SqL.of (A.same _ _ hb)⟩, ?_, ?_⟩
  · intro j x y H2 T e1 e2 A nT us hu
    obtain⟨u0, u1, rfl⟩ : ∃ u w, us=[u, w] := by
      match us, hu with
      |[u, w], _ => exact⟨u, w, rfl⟩
    have lj:j<(UD B) := by rw[<- lx]; exact(Sn.mp e1).1
    have eB:B[j]?=some (B.getD j []) := by rw[Sj, Sk lj]; rfl
    have nr := ne _ (Sq eB);have eh:hs[j]?=some (hs.getD j 0) := by rw[Sj, Sk ∅]; rfl
    obtain⟨c, rfl, hc⟩ := hx j x _ e1 eB;rw[So, eh] at e2;cases e2;have er:d7 B hs (j + 1)=d7 B hs j ++ ([j].filter λi => decide (a5 (B.getD i [])<0)).map λi => hs.getD i 0 := by unfold d7; rw[U5, UP, Sr]
    have ls:(d7 B hs j).length<=100 := by unfold d7; rw[Si]; exact Ta (Ua _ _) (by rw[SV]; lia)
    generalize B.getD j []=r at eB nr hc;generalize hh:hs.getD j 0=hj at eh;have A2 := A.on (ai nT (.tup [.ref c, .int (hj:Int)]));have hT:upd H2 T (.tup [.ref c, .int (hj:Int)]) T=some (.tup [.ref c, .int (hj:Int)]) := ag;generalize upd H2 T (.tup [.ref c, .int (hj:Int)])=H3 at A2 hT ⊢;refine bu (SqT.of hT) rfl ?_;cbv;refine⟨⟨[⇑c, ↥(hj:Int)], rfl, rfl⟩, ?_⟩;cbv;refine bX (SqL.of (A2.same _ _ hc)) (jF nr) ?_;cbv;have eB2:B.getD j []=r := by rw[Sj, eB]; rfl
    refine aZ (λq => ?_) (λq => ?_)
    · have q':a5 r<0 := by simpa using q
      cbv;refine aH (by rw[lz]; exact lj) ?_;refine A2.bG (.int (hj:Int)) (am (by rw[Si, Si]; lia)) λH4 A4 => ?_
      show AccZ K H D H4 (((d7 B hs (j + 1)).map λk:Nat => (k:Int)).map TF);rw[er, Um (by rw[eB2]; simpa using q'), Sr, Sr, TM, hh];exact A4
    · have q' : ¬ a5 r<0 := by simpa using q
      refine dO (by rw[lz]; exact lj) ?_;show AccZ K H D H3 (((d7 B hs (j + 1)).map λk:Nat => (k:Int)).map TF);rw[er, Uf (by rw[eB2]; simpa using q')];simpa using A2
  intro H2 A;rw[lz] at A;have hD := AccZ.ints A
  have mem : ∀ m, m∈d7 B hs B.length ↔ ∃ i, i<(UD B)/\a5 (B.getD i [])<0/\hs.getD i 0=m := λm => by
    unfold d7;rw[SE];constructor
    · rintro⟨i, hi, e⟩
      rw[Tt, Tv, decide_eq_true_eq] at hi;exact⟨i, hi.1, hi.2, e⟩
    · rintro⟨i, h1, h2, e⟩
      exact⟨i, Tt.mpr ⟨Tv.mpr h1, by simpa using h2⟩, e⟩
  generalize d7 B hs (UD B)=S at A hD mem;cbv;refine bH (SqL.of hD) ?_;rw[Si, Si];cbv;refine aZ (λq => ?_) (λq => ?_)
  · have eS:S=[] := T0.mp (by have:((S.length:Nat):Int)=0:=(by simpa using q);lia)
    cbv;refine(k H2 A.same).1 λr hr => ?_
    obtain⟨i, hi⟩ := Tb hr;rcases Yd (a5 r) 0 with z|z
    · have:hs.getD i 0∈S := (mem _).mpr ⟨i, (Sn.mp hi).1, by rw[Sj, hi]; exact z, rfl⟩
      rw[eS] at this;cases this
    · exact z
  · have nS:S ≠ [] := λz => q (by rw[z]; simp)
    cbv;refine⟨vw (A.same _ _ hb), ?_⟩;cbv;refine⟨D, S.map λk:Nat => (k:Int), rfl, SqL.of hD, by simpa using nS, λm hm lo => ?_⟩;obtain⟨v, hv, rfl⟩ := SE.mp hm;obtain⟨i, i1, i2, i3⟩ := (mem v).mp hv;have eh:hs[i]?=some v := by rw[<- i3, Sj, Sk ∅]; rfl
    have hb2:H2 b=some (.lst ((hs.map λk:Nat => (k:Int)).map V.int)) := by
      rw[TY];exact A.same _ _ hb
    have rb:Rp K (λ_ => True) H2 (.ref b) (dL (hs.map λk:Nat => (k:Int))) := jj trivial hb2;have rv:Rp K (λ_ => True) H2 (.int (v:Int)) (.int (v:Int)) := .int _;cbv;refine vA (d := .int (v:Int)) (j := i) rv.rep rb.rep (λe he => ?_) rfl ?_ (λm hm z => ?_) ?_ ?_
    · obtain⟨n, _, rfl⟩ := SE.mp he
      rfl
    · rw[So, So, eh]; rfl
    · rw[So, So] at z
      cases em:hs[m]? with
      |none => rw[em] at z; cases z
      |some u =>
        rw[em] at z
        have eu:u=v := by
          have:TF (u:Int)=TF (v:Int) := SU z;injection this with this
          lia
        have lm := (Sn.mp em)
        have li := (Sn.mp eh)
        have := (VE (h₀ := lm.1) (h₁ := li.1) nd).mp (by rw[lm.2, li.2, eu]);lia
    · rw[Si, Si]; lia
    · refine(k H2 A.same).2 i i1 i2 λj j1 j2 => ?_
      have:hs.getD j 0∈S := (mem _).mpr ⟨j, j1, j2, rfl⟩;have := lo _ (SE.mpr ⟨_, this, rfl⟩);lia
abbrev df(B:List (List Int))(i p:Nat):List (List Int):=(SJ (UD B)).map λj=>if j=i then di (B.getD i []) else wo (B.getD j []) (di (B.getD i [])) p
def jw(B:List (List Int))(i p:Nat):(df B i p).length=UD B:=by unfold df;rw[Si,SV]
def uS{B:List (List Int)}{j:Nat}(h:j<UD B):(df B i p)[j]?=some (if j=i then di (B.getD i []) else wo (B.getD j []) (di (B.getD i [])) p):=by unfold df;rw[So,TC h];rfl
abbrev oG(K:Fg):Sp:=λvs H Q _=>∃(a:Addr) (B:List (List Int)) (i p w:Nat),vs=[.ref a,.int (i:Int),.int (p:Int)]/\LnAt H a B/\i<(UD B)/\p<w/\w<=100/\Wide w B/\B.length<=100/\(∀r∈B,∀c∈r,c.natAbs<2 ^ 4000) /\
 (∀j,j<UD B->j≠i->bf (eK (B.getD j []) (di (B.getD i [])) p)≠0/\(bf (eK (B.getD j []) (di (B.getD i [])) p)).natAbs<2 ^ 9000)/\∀(q:Addr) (H':Hp),Acc K H q H' ((df B i p).map dL)->Q (.ref q) H'
def b9{B:List (List Int)}{j:Nat}(h:j<UD B):B[j]?=some (B.getD j []):=by rw[Sj,Sk h];rfl
abbrev nV(K:Fg):TS:=(ao (ay (aw (Fn K) [] E0 (ac (ar (bP K) (aa 0) (aa 1)) ae)) (ak 3))
 (aA (c5 (iw K (ac (aa 0) ae)) 2 (cf K 2 (aS (ak 0) (aS (ak 1) cj))) (Mj (aK (ar ja (aa 0) (aa 3))) (aa 5) (aw (jT K) [] E0 (ac (aa 1) (ac (aa 5) (ac (aa 4) ae))))))))
def BA{K:Fg}:ρ 4 (oG K) (nV K):=by
 fail "R";obtain⟨a,B,i,p,w,rfl,⟨xs,ha,lx,hx⟩,hi,hp,hw,wd,l100,bd,gc,k⟩:=h;rw[L2.aI hN];walk_at "t";unfold nV;obtain⟨ci,eci,hci⟩:=LnAt.get (H:=H) (a:=a) lx hx (b9 hi);have wi:=wd _ (Sq (b9 hi));have bi:=bd _ (Sq (b9 hi));cbv;refine bX (SqL.of ha) (aM eci) ?_;cbv;refine⟨.ref ci,B.getD i [],rfl,⟨ci,rfl,.inl hci⟩,∅,λhd H1 A1=>?_⟩;have h1:=AccZ.ints A1
 have bn:∀c∈di (B.getD i []),c.natAbs<2 ^ 4000:=λc hc=>by
  obtain⟨x,hx,rfl⟩:=SE.mp hc;rw[Yx];exact bi x hx
 have ln:(di (B.getD i [])).length=w:=by rw[dh];exact wi
 have gc':=gc;have hpass:∀j,j<UD B->(df B i p)[j]?=some (if j=i then di (B.getD i []) else wo (B.getD j []) (di (B.getD i [])) p):=λj hj=>uS hj
 generalize di (B.getD i [])=hr at h1 bn ln gc' hpass A1;cbv;refine⟨a,_,rfl,SqL.of (A1.same _ _ ha),?_⟩;refine mV (xs:=xs) λD nD=>⟨λj H2=>Acc K H D H2 (((df B i p).take j).map dL)/\Same H1 H2,⟨by simpa using⟨A1.same.trans (ai nD _),A1.same.free nD,[],ag,.nil⟩,ai nD _⟩,λj H2 _ A=>SqL.of (A.2 _ _ (A1.same _ _ ha)),?_,?_⟩
 .rintro j x H2 T hx2 ⟨A,S2⟩ nT us hu
  obtain⟨u0,u1,rfl⟩:∃u w,us=[u,w]:=ex2 hu
  have lj:j<UD B:=by rw[<- lx];exact(Sn.mp hx2).1
  obtain⟨c,rfl,hc⟩:=hx j x _ hx2 (b9 lj);have wj:=wd _ (Sq (b9 lj));have bj:=bd _ (Sq (b9 lj));have pj:=hpass j lj
  have ne:D≠T:=by
   obtain⟨ys,hy,_⟩:=A.at_;exact aq hy nT
  have A2:=A.on (ai nT (.tup [.int (j:Int),.ref c]));have S3:=S2.trans (ai nT (.tup [.int (j:Int),.ref c]));have hT:upd H2 T (.tup [.int (j:Int),.ref c]) T=some (.tup [.int (j:Int),.ref c]):=ag;generalize upd H2 T (.tup [.int (j:Int),.ref c])=H3 at A2 S3 hT ⊢;refine bu (SqT.of hT) rfl ?_;cbv;refine⟨⟨[↥(j:Int),⇑c],rfl,rfl⟩,?_⟩;cbv
  have fin:∀(q:Addr) (z:List Int) (H4:Hp),Same H3 H4->H4 q=some (.lst (z.map V.int))->H q=none->q≠D->(df B i p)[j]?=some z->jq D (UD xs) j (λj H2=>Acc K H D H2 (((df B i p).take j).map dL)/\Same H1 H2) (.ref q) H4:=by
   intro q z H4 S4 hq nq nqD ez;obtain⟨ys,hy,ly,A5⟩:=(A2.on S4).push (d:=dL z) (S:=λa=>H a=none/\a≠D) (jj ⟨nq,nqD⟩ hq) λ_ z=>z
   refine aH ∅ ⟨ys,hy,am (by rw[ly,Si,SL,jw];lia),?_,?_⟩
   .rw[SK,ez,Sr];exact A5
   .refine λb o e=>?_
    have nb:b≠D:=aq e nD;rw[aB nb];exact S4 _ _ (S3 _ _ e)
  refine aZ (λq=>?_) (λq=>?_)
  .have q':j=i:=by
    have:(j:Int)=(i:Int):=by simpa using q
    lia
   cbv;exact fin hd hr H3 (Same.refl _) (S3 _ _ h1) A1.new (aq h1 nD) (by rw[pj,if_pos q'])
  .have q':j≠i:=λz=>q (by simp[z])
   obtain⟨g1,g2⟩:=gc' j lj q';cbv;refine⟨c,hd,B.getD j [],hr,p,rfl,S3 _ _ (A1.same _ _ hc),S3 _ _ h1,∅,∅,∅,bj,bn,g1,g2,λr H4 C=>?_⟩
   exact fin r _ H4 C.same (AccZ.ints C) (A1.same.free (S3.free C.new)) (λz=>by
    obtain⟨ys,hy,_⟩:=A2.at_
    exact aq hy C.new z.symm) (by rw[pj,if_neg q'])
 .rintro H2 ⟨A,_⟩;rw[lx,<- jw B i p,TX] at A;exact k D H2 A
abbrev kK(R:List (List Int))(es:List Int):List (List Int):=(SJ (UD R)).map λi=>R.getD i []++aY (UD R) i++[pt es i]
def kJ(R:List (List Int))(es:List Int):(kK R es).length=UD R:=by unfold kK;rw[Si,SV]
def xD{R:List (List Int)}{i:Nat}(h:i<UD R):(kK R es)[i]?=some (R.getD i []++aY (UD R) i++[pt es i]):=by unfold kK;rw[So,TC h];rfl
abbrev oN(K:Fg):Sp:=λvs H Q _=>∃(a e:Addr) (R:List (List Int)) (es:List Int),vs=[.ref a,.ref e]/\cJ H a R/\H e=some (.lst (es.map V.int))/\es.length=R.length/\R.length<=50/\(∀r∈R,UD r<=50)/\∀(p:Addr) (H':Hp),Acc K H p H' ((kK R es).map dL)->Q (.ref p) H'
nonrec def yi(K:Fg):TS:=(aA (c5 (Dw K (ac (aa 0) (ac (aa 2) (ac (aa 1) ae)))) 3 (cf K 3 (aS (ak 0) (aS (ak 1) (aS (ak 2) cj)))) (ar lT (ar lT (bO (eU K) (ac (aa 0) ae)) (aa 1)) (bK (ac (aa 2) ae)))))
abbrev n9(K:Fg):TS:=(ao (ay (aw (ga K) [] E0 (ac (bO (bz K) (ac (aa 0) ae)) ae)) (ak 2))
 (yi K))
def BF{K:Fg}:ρ 3 (oN K) (n9 K):=by
 fail "R";obtain⟨a,e,R,es,rfl,⟨xs,ha,lx,hx⟩,he,le,l50,r50,k⟩:=h;rw[L2.aI hN];walk_at "t";unfold n9;cbv;refine bH (SqL.of ha) ?_;rw[lx];cbv;refine⟨R.length,rfl,∅,λu H1 A1=>?_⟩;obtain⟨ys,hu,ry⟩:=A1.at_;have ly:UD ys=UD R:=by rw[ry.length,Si,dC]
 have S1:=A1.same;cbv;refine Lu ?_;cbv;refine⟨a,u,e,_,_,_,rfl,SqL.of (S1 _ _ ha),SqL.of hu,SqL.of (S1 _ _ he),?_⟩;refine zd (xs:=xs) (ys:=ys) (zs:=es.map V.int) (m:=R.length) lx ly (by rw[Si];exact le) λD nD=>⟨λj H2=>Acc K H1 D H2 (((kK R es).take j).map dL),by simpa using Acc.start nD,λj H2 _ A=>⟨SqL.of (A.same _ _ (S1 _ _ ha)),SqL.of (A.same _ _ hu),SqL.of (A.same _ _ (S1 _ _ he))⟩,?_,?_⟩
 .intro j x y z H2 T e1 e2 e3 A nT us hu3
  obtain⟨u1,u2,u3,rfl⟩:∃u0 u1 u2,us=[u0,u1,u2]:=by
   match us,hu3 with
   |[u0,u1,u2],_=>exact⟨u0,u1,u2,rfl⟩
  have lj:j<UD R:=by rw[<- lx];exact(Sn.mp e1).1
  have rv:=(hx j x _ e1 (b9 lj)).same (S1.trans A.same);have lr:=r50 _ (Sq (b9 lj));have ej:=xD (es:=es) lj;obtain⟨d,g1,g2⟩:=ry.get e2;rw[So,gN lj] at g1;cases g1;obtain⟨cu,rfl,_,hcu⟩:=jk g2;have hcu2:=A.same _ _ hcu;have lo:(aY R.length j).length=UD R:=cP _ _;rw[So,eX ∅] at e3;cases e3;generalize R.getD j []=r at rv lr ej;generalize aY R.length j=o at hcu2 lo ej;generalize pt es j=v at ej;have S3:=ai nT (.tup [x,.ref cu,.int v]);have hT:upd H2 T (.tup [x,.ref cu,.int v]) T=some (.tup [x,.ref cu,.int v]):=ag;generalize upd H2 T (.tup [x,.ref cu,.int v])=H3 at S3 hT ⊢;refine bu (SqT.of hT) rfl ?_;cbv;refine⟨⟨[some x,⇑cu,↥v],rfl,rfl⟩,?_⟩;cbv;refine De (rv.same S3) λl1 n1=>?_
  have S4:=S3.trans (ai n1 (.lst (r.map V.int)));have h4:upd H3 l1 (.lst (r.map V.int)) l1=some (.lst (r.map V.int)):=ag;generalize upd H3 l1 (.lst (r.map V.int))=H4 at S4 h4 ⊢;cbv;refine⟨l1,cu,_,_,rfl,rfl,h4,S4 _ _ hcu2,by rw[Si,Si,UG];lia,λl2 n2=>?_⟩;have S5:=S4.trans (ai n2 (.lst (r.map V.int++o.map V.int)));have h5:upd H4 l2 (.lst (r.map V.int++o.map V.int)) l2=some (.lst (r.map V.int++o.map V.int)):=ag;generalize upd H4 l2 (.lst (r.map V.int++o.map V.int))=H5 at S5 h5 ⊢;cbv;refine⟨cT,λl3 n3=>?_⟩;have S6:=S5.trans (ai n3 (.lst [.int v]));have h6:upd H5 l3 (.lst [.int v]) l3=some (.lst [.int v]):=ag;have h62:=ai n3 (.lst [.int v]) _ _ h5;generalize upd H5 l3 (.lst [.int v])=H6 at S6 h6 h62 ⊢;cbv;refine⟨l2,l3,_,_,rfl,rfl,h62,h6,by rw[SC,Si,Si,UG];show (UD r)+UD o+1<=_;lia,λl4 n4=>?_⟩;have S7:=S6.trans (ai n4 (.lst (r.map V.int++o.map V.int++[.int v])));have h7:upd H6 l4 (.lst (r.map V.int++o.map V.int++[.int v])) l4=some (.lst ((r++o++[v]).map V.int)):=by rw[Sr,Sr];exact ag
  have n42:H2 l4=none:=S6.free n4;generalize upd H6 l4 (.lst (r.map V.int++o.map V.int++[.int v]))=H7 at S7 h7 ⊢;refine aH lj ?_;refine A.bG S7 (d:=dL (r++o++[v])) (jj n42 h7) (am (by rw[Si,SL,kJ];lia)) λH8 A8=>?_
  show Acc K H1 D H8 (((kK R es).take (j+1)).map dL);rw[SK,ej,Sr];exact A8
 .intro H2 A;rw[<- kJ R es,TX] at A;obtain⟨zs,hz,rz⟩:=A.at_;exact k D H2 ⟨S1.trans A.same,S1.free A.new,zs,hz,rz.mono λ_ z=>⟨S1.free z.1,z.2⟩⟩
abbrev ownOf(B:List (List Int))(hs:List Nat)(i:Nat):Int:=pt (B.getD i []) (hs.getD i 0)
abbrev jo(B:List (List Int))(hs:List Nat):Nat->Int
 |0=>1
 |j+1=>(jo B hs j*ownOf B hs j).fdiv (Gd.gd (jo B hs j) (ownOf B hs j))
abbrev cq(B:List (List Int))(hs:List Nat)(size:Nat)(bt:Int):Nat->List Int
 |0=>SR size 0
 |j+1=>if hs.getD j 0<size then (cq B hs size bt j).set (hs.getD j 0) ((a5 (B.getD j [])*bt).fdiv (ownOf B hs j)) else cq B hs size bt j
def cH(B:List (List Int))(hs:List Nat)(size:Nat)(bt:Int):∀j,(cq B hs size bt j).length=size
 |0=>Uh
 |j+1=>by
  unfold cq;split
  .rw[Zu];exact cH B hs size bt j
  .exact cH B hs size bt j
abbrev JA:Sp:=λvs H Q _=>∃a b:Int,vs=[.int a,.int b]/\b≠0/\a.natAbs<2 ^ 8000/\b.natAbs<2 ^ 8000/\Q (.int ((a*b).fdiv (Gd.gd a b))) H
abbrev Jr(K:Fg):TS:=(aA (ar jb (ar ik (aa 0) (aa 1)) (aw oP [] E0 (ac (aa 0) (ac (aa 1) ae)))))
def Ql{K:Fg}:ρ 2 JA (Jr K):=by
 fail "R";obtain⟨a,b,rfl,b0,ha,hb,k⟩:=h;rw[L2.aI hN];walk_at "t";unfold Jr;have p1:(2:Nat) ^ 8000<2 ^ 20000:=UA (by decide) (by decide);have p2:(2:Nat) ^ 8000<2 ^ 9000:=UA (by decide) (by decide);generalize (2:Nat) ^ 8000=P at ha hb p1 p2;have gp:=Gd.mS (a:=a) (b:=b) b0;have gl:=Gd.LP (a:=a) (b:=b) b0;cbv;refine⟨a,b,rfl,rfl,⟨Ut ha p1,Ut hb p1⟩,?_⟩;cbv;refine⟨a,b,rfl,?_⟩;exact⟨_,_,rfl,rfl,⟨∅,Ut ∅ p2⟩,k⟩
abbrev jW(K:Fg):Sp:=λvs H Q _=>∃(a b:Addr) (B:List (List Int)) (hs:List Nat) (size w:Nat),vs=[.ref a,.ref b,.int (size:Int)]/\LnAt H a B/\H b=some (.lst (hs.map λk:Nat=>.int (k:Int)))/\B.length=hs.length/\size<=100/\Wide (w+1) B/\(∀h∈hs,h<w) /\
 (∀i,i<UD B->0<ownOf B hs i/\(ownOf B hs i).natAbs<2 ^ 8000/\(a5 (B.getD i [])).natAbs<2 ^ 8000)/\(∀j,j<=UD B->(jo B hs j).natAbs<2 ^ 8000)/\(∀x∈cq B hs size (jo B hs (UD B)) (UD B),x.natAbs<2 ^ 9000) /\
 ∀(q:Addr) (H':Hp),AccZ K H q H' ((aV (cq B hs size (jo B hs (UD B)) (UD B))).map TF)->Q (.ref q) H'
nonrec def tT(K:Fg):TS:=(ao (bo (mq K .L .L (ac (aa 0) (ac (aa 1) ae))) (cf K 2 (aS (ak 4) (aS (ak 5) cj)))
 (a4 (aK (ar yJ (aa 5) (aa 2)))
 (ay (ar jb (ar ik (ar (bP K) (aa 4) (Az (rU λi=>.int (-i)) (tC (.int 1)))) (aa 3)) (ar (bP K) (aa 4) (aa 5))) (G_ (aa 6) (aa 5) Kh))
 be))
 (aA (aw (qC K) [] E0 (ac (aa 6) ae))))
nonrec def tS(K:Fg):TS:=(ao (bo (mq K .L .L (ac (aa 0) (ac (aa 1) ae))) (cf K 2 (aS (ak 4) (aS (ak 5) cj)))
 (ay (aw JA [] E0 (ac (aa 3) (ac (ar (bP K) (aa 4) (aa 5)) ae))) (ak 3)))
 (ao (ay (ar BL (bK (ac (tC (.int 0)) ae)) (aa 2)) (ak 6))
 (tT K)))
abbrev jK(K:Fg):TS:=(ao (ay (tC (.int 1)) (ak 3))
 (tS K))
def yA{K:Fg}:ρ 7 (jW K) (jK K):=by
 fail "R";obtain⟨a,b,B,hs,size,w,rfl,⟨xs,ha,lx,hx⟩,hb,lb,sz,wd,hw,ow,bb,nb,k⟩:=h;rw[L2.aI hN];walk_at "t";unfold jK;have p1:(2:Nat) ^ 8000<2 ^ 20000:=UA (by decide) (by decide);have p2:(2:Nat) ^ 8000<2 ^ 9000:=UA (by decide) (by decide);generalize eP:(2:Nat) ^ 8000=P at ow bb p1 p2;have lh:(hs.map λk:Nat=>V.int (k:Int)).length=UD B:=by rw[Si];lia
 have line:∀j x y,xs[j]?=some x->(hs.map λk:Nat=>V.int (k:Int))[j]?=some y->∃c,j<(UD B)/\x=.ref c/\y=.int ((hs.getD j 0:Nat):Int)/\H c=some (.lst ((B.getD j []).map V.int))/\hs.getD j 0<w/\(B.getD j []).length=w+1:=by
  intro j x y e1 e2;have lj:j<UD B:=by rw[<- lx];exact(Sn.mp e1).1
  obtain⟨c,rfl,hc⟩:=hx j x _ e1 (b9 lj);have eh:hs[j]?=some (hs.getD j 0):=by rw[Sj,Sk ∅];rfl
  rw[So,eh] at e2;exact⟨c,lj,rfl,(SU e2).symm,hc,hw _ (Sq eh),wd _ (Sq (b9 lj))⟩
 cbv;refine⟨a,b,_,_,rfl,SqL.of ha,SqL.of hb,?_⟩;refine vD (k1:=.L) (k2:=.L) (xs:=xs) (ys:=hs.map λk:Nat=>V.int (k:Int)) lx lh (λj σ H2=>∃u4 u5:Option V,σ=[⇑a,⇑b,↥(size:Int),↥(jo B hs j),u4,u5,none]/\Same H H2) ⟨none,none,rfl,Same.refl _⟩ (by rintro j σ H2 _ ⟨_,_,_,S⟩;exact ⟨SqL.of (S _ _ ha),SqL.of (S _ _ hb)⟩) ?_ ?_
 .rintro j x y σ H2 T e1 e2 ⟨u4,u5,rfl,S2⟩ nT;obtain⟨c,lj,rfl,rfl,hc,hj,lr⟩:=line j x y e1 e2;obtain⟨o1,o2,_⟩:=ow j lj;have b1:=bb j ∅;have S3:=S2.trans (ai nT (.tup [.ref c,.int ((hs.getD j 0:Nat):Int)]));have hT:upd H2 T (.tup [.ref c,.int ((hs.getD j 0:Nat):Int)]) T=some (.tup [.ref c,.int ((hs.getD j 0:Nat):Int)]):=ag;generalize upd H2 T (.tup [.ref c,.int ((hs.getD j 0:Nat):Int)])=H3 at S3 hT ⊢;refine bu (SqT.of hT) rfl ?_;cbv;refine bX (SqL.of (S3 _ _ hc)) (Gf ∅) ?_;cbv;refine⟨jo B hs j,ownOf B hs j,rfl,∅,by rw[eP];exact b1,by rw[eP];exact o2,?_⟩;cbv;exact⟨_,_,rfl,S3⟩
 rintro σ H2 ⟨u4,u5,rfl,S2⟩;generalize hbt:jo B hs (UD B)=bt at nb k;have bt1:=bb B.length (Sx _);rw[hbt] at bt1;cbv;refine⟨cT,λl0 n0=>?_⟩;have S3:=S2.trans (ai n0 (.lst [.int 0]));have h0:upd H2 l0 (.lst [.int 0]) l0=some (.lst [.int 0]):=ag;generalize upd H2 l0 (.lst [.int 0])=H3 at S3 h0 ⊢;cbv;refine⟨l0,(size:Int),_,rfl,rfl,h0,∅,∅,by rw[UG];show 1*_<=_;lia,λl nl=>?_⟩
 have er:(SR (size:Int).toNat [V.int 0]).flatten=(cq B hs size bt 0).map V.int:=by
  rw[TW];show _=(SR size (0:Int)).map V.int;rw[Yy,Xr]
 rw[er];have S4:=S3.trans (ai nl (.lst ((cq B hs size bt 0).map V.int)));have hl:upd H3 l (.lst ((cq B hs size bt 0).map V.int)) l=some (.lst ((cq B hs size bt 0).map V.int)):=ag;have nlH:H l=none:=S3.free nl;generalize upd H3 l (.lst ((cq B hs size bt 0).map V.int))=H4 at S4 hl ⊢;cbv;refine⟨a,b,_,_,rfl,SqL.of (S4 _ _ ha),SqL.of (S4 _ _ hb),?_⟩;refine vD (k1:=.L) (k2:=.L) (xs:=xs) (ys:=hs.map λk:Nat=>V.int (k:Int)) lx lh (λj σ H2=>∃u4 u5:Option V,σ=[⇑a,⇑b,↥(size:Int),↥bt,u4,u5,⇑l]/\Same H H2/\H2 l=some (.lst ((cq B hs size bt j).map V.int))) ⟨_,_,rfl,S4,hl⟩ (by rintro j σ H2 _ ⟨_,_,_,S,_⟩;exact ⟨SqL.of (S _ _ ha),SqL.of (S _ _ hb)⟩) ?_ ?_
 .rintro j x y σ H5 T e1 e2 ⟨u4,u5,rfl,S5,h5⟩ nT;obtain⟨c,lj,rfl,rfl,hc,hj,lr⟩:=line j x y e1 e2;obtain⟨o1,o2,o3⟩:=ow j lj;have S6:=S5.trans (ai nT (.tup [.ref c,.int ((hs.getD j 0:Nat):Int)]));have h6:=ai nT (.tup [.ref c,.int ((hs.getD j 0:Nat):Int)]) _ _ h5;have hT:upd H5 T (.tup [.ref c,.int ((hs.getD j 0:Nat):Int)]) T=some (.tup [.ref c,.int ((hs.getD j 0:Nat):Int)]):=ag;generalize upd H5 T (.tup [.ref c,.int ((hs.getD j 0:Nat):Int)])=H6 at S6 hT h6 ⊢;refine bu (SqT.of hT) rfl ?_;cbv;refine aZ (λq=>?_) (λq=>?_)
  .have q':hs.getD j 0<size:=by
    have:((hs.getD j 0:Nat):Int)<(size:Int):=by simpa using q
    lia
   cbv;refine bX (SqL.of (S6 _ _ hc)) (jF (λz=>by rw[z] at lr;cases lr)) ?_;cbv;refine⟨_,_,rfl,rfl,⟨Ut o3 p1,Ut bt1 p1⟩,?_⟩;cbv;refine bX (SqL.of (S6 _ _ hc)) (Gf ∅) ?_;refine⟨_,ownOf B hs j,rfl,rfl,⟨∅,Ut o2 p2⟩,?_⟩;refine Iw (yX (i:=6) rfl (yX (i:=5) rfl ?_));refine⟨l,_,_,hs.getD j 0,rfl,rfl,h6,?_,?_⟩
   .unfold zq;rw[if_pos ∅,if_pos (by rw[Si,cH];lia)];simp
   .refine⟨_,_,rfl,λcc o e=>?_,?_⟩
    .rw[aB (aq e nlH)];exact S6 cc o e
    .rw[ag];show some (HO.lst _)=some (.lst ((cq B hs size bt (j+1)).map V.int));rw[show cq B hs size bt (j+1)=(cq B hs size bt j).set (hs.getD j 0) ((a5 (B.getD j [])*bt).fdiv (ownOf B hs j)) from if_pos q',List.map_set]
  .have q' : ¬ hs.getD j 0<size:=λz=>q (by simp;lia)
   cbv;refine⟨_,_,rfl,S6,?_⟩;rw[show cq B hs size bt (j+1)=cq B hs size bt j from if_neg q'];exact h6
 .rintro σ H5 ⟨u4,u5,rfl,S5,h5⟩;cbv;refine⟨l,_,rfl,h5,by rw[cH];lia,nb,λq H6 A6=>?_⟩;exact k q H6 ⟨S5.trans A6.same,S5.free A6.new,A6.at_⟩
end Br
namespace Bo
inductive Rn (m W:Nat) (f:Bd):Nat->Bd->Prop
 |z:Rn m W f 0 f
 |s {n:Nat} {b b':Bd} {i p:Nat}:Rn m W f n b->Stp m W b b' i p->Rn m W f (n+1) b'
def Rn.run(o:Ok m W f)(h:Rn m W f n b):∃(s:Nat->Bd) (i p:Nat->Nat),Run m W s i p 0 n/\s n=b:=by
 induction h with
 |z=>exact⟨λ_=>f,λ_=>0,λ_=>0,⟨λk _ _=>o,λk _ h=>∅⟩,rfl⟩
 |@s n b b' i0 p0 _ st ih =>
  obtain⟨s,i,p,r,e⟩:=ih;refine⟨λk=>if k<=n then s k else b',λk=>if k<n then i k else i0,λk=>if k<n then p k else p0,⟨λk _ hk=>?_,λk _ hk=>?_⟩,if_neg ∅⟩
  .show Ok m W (if k<=n then s k else b');split
   .exact r.ok k ∅ ∅
   .have:=r.ok n ∅ ∅
    rw[e] at this;exact st.ok this
  .show Stp m W (if k<=n then s k else b') (if k+1<=n then s (k+1) else b') (if k<n then i k else i0) (if k<n then p k else p0);by_cases q:k<n
   .rw[if_pos ∅,if_pos ∅,if_pos q,if_pos q];exact r.stp k ∅ ∅
   .have ek:k=n:=by lia
    subst ek;rw[if_pos (Sx _),if_neg ∅,if_neg q,if_neg q,e];exact st
def Rn.few(o:Ok m W f)(h:Rn m W f n b):n+1<=2 ^ W:=by
 obtain⟨s,i,p,r,_⟩:=h.run o;refine Run.few W 0 n r λk q1 q2=>?_
 have st:=r.stp k q1 q2;exact⟨(r.ok k q1 ∅).lt _ st.im,st.pw⟩
end Bo
namespace Br
open Rk Sf Rw
abbrev eE(B:List (List Int))(hs:List Nat):Bo.Bd:=⟨λi k=>pt (B.getD i []) k,λi=>hs.getD i 0⟩
def c6{r:List Int}{k:Nat}(h:UD r<=k):pt r k=0:=by
 unfold pt;rw[Sj,Tj h];rfl
def iN(r:List Int)(k:Nat):pt (di r) k = - pt r k:=by
 by_cases h:k<UD r
 .have e:(di r)[k]?=some (- pt r k):=by unfold di;rw[So,eX h];rfl
  unfold pt at e ⊢;rw[Sj,e];rfl
 .rw[c6 (r:=r) ∅,c6 (r:=di r) (by rw[dh];lia)];rfl
def HX{l h:List Int}(e:UD l=UD h)(k:Nat):pt (eK l h p) k=pt h p*pt l k-pt l p*pt h k:=by
 by_cases q:k<UD l
 .have e1:(eK l h p)[k]?=some (pt h p*pt l k-pt l p*pt h k):=by unfold eK;rw[T_,eX q,eX ∅]
  rw[show pt (eK l h p) k=((eK l h p)[k]?).getD 0 from by unfold pt;rw[Sj],e1];rfl
 .rw[c6 (by rw[jH e];lia),c6 (r:=l) ∅,c6 (r:=h) (k:=k) ∅,TL,TL];rfl
def O9:∀(r:List Int) (a:Int),(r.foldl Gd.gd a∣a)/\∀c∈r,r.foldl Gd.gd a∣c
 |[],a=>⟨Int.dvd_refl _,λc hc=>by cases hc⟩
 |x :: r,a=>by
  obtain⟨h1,h2⟩:=O9 r (Gd.gd a x);refine⟨WW h1 (xt a x).1,λc hc=>?_⟩;rcases S_.mp hc with rfl|hc
  .exact WW h1 (xt a c).2
  .exact h2 c hc
def G9(r:List Int)(k:Nat):bf r∣pt r k:=by
 by_cases h:k<UD r
 .exact(O9 r 0).2 _ (rj h)
 .rw[c6 ∅];exact Int.dvd_zero _
def O8{d:Int}:∀(r:List Int) (a:Int),d∣a->(∀c∈r,d∣c)->d∣r.foldl Gd.gd a
 |[],_,h,_=>h
 |x :: r,a,h,k=>O8 r (Gd.gd a x) (Int.dvd_coe_gcd h (k x Sv)) λc hc=>k c (Sw _ hc)
def xG{d:Int}{r:List Int}(h:∀k,k<UD r->d∣pt r k):d∣bf r:=O8 r 0 (Int.dvd_zero _) λc hc=>by
 obtain⟨k,hk⟩:=Tb hc;have lk:=(Sn.mp hk).1
 have:=h k lk
 rw[eX lk] at hk;cases hk;exact this
def G8(h:pt r k≠0):0<bf r:=by
 have n0:∀(r:List Int) (a:Int),0<=a->0<=r.foldl Gd.gd a:=by
  intro r
  induction r with
  |nil=>exact λa h=>h
  |cons x r ih=>exact λa _=>ih _ (Gd.sr _ _)
 have:=n0 r 0 (XY _)
 have:=iy h
 unfold bf at *;lia
def M_(g:bf (eK l h p)≠0)(k:Nat):bf (eK l h p)*pt (wo l h p) k=pt (eK l h p) k:=by
 by_cases q:k<(eK l h p).length
 .have e:(wo l h p)[k]?=some ((pt (eK l h p) k).fdiv (bf (eK l h p))):=by unfold wo;rw[So,eX q];rfl
  rw[show pt (wo l h p) k=((wo l h p)[k]?).getD 0 from by unfold pt;rw[Sj],e];exact VX (G9 _ k)
 .rw[c6 (r:=eK l h p) (k:=k) ∅,c6 (r:=wo l h p) (k:=k) (by unfold wo;rw[Si];lia),TL]
def Je{w:Nat}(g:bf (eK l h p)≠0)(hw:(eK l h p).length=w+1)(d:Int)(hd:∀k,k<=w->d∣pt (wo l h p) k):d∣1:=by
 have:bf (eK l h p)*d∣bf (eK l h p):=xG λk hk=>by
  rw[<- M_ g k];exact Int.mul_dvd_mul_left _ (hd k ∅)
 obtain⟨c,hc⟩:=this;refine⟨c,?_⟩;refine Ug g ?_;rw[Zbk,<- SY];exact hc
def zD{hs:List Nat}{i j:Nat}(o:Bo.Ok m w (eE B hs))(hi:i<m)(hj:j<m)(ne:j≠i)(lo:pt (B.getD i []) p<0)(e:(B.getD j []).length=(di (B.getD i [])).length):pt (eK (B.getD j []) (di (B.getD i [])) p) (hs.getD j 0)≠0:=by
 rw[HX e,iN,iN];have o1:0<pt (B.getD j []) (hs.getD j 0):=o.own j hj;have o2:pt (B.getD i []) (hs.getD j 0)=0:=o.oth i j hi hj (λz=>ne z.symm);rw[o2,ZaV,TL,Int.sub_zero]
 have:=VY (show 0 < - pt (B.getD i []) p by lia) o1
 lia
def uR{B:List (List Int)}{j:Nat}(h:j<UD B):(df B i p).getD j []=if j=i then di (B.getD i []) else wo (B.getD j []) (di (B.getD i [])) p:=by rw[Sj,uS h];rfl
def Cr{B:List (List Int)}{hs:List Nat}{i p:Nat}(o:Bo.Ok (UD B) w (eE B hs))(wd:Wide (w+1) B)(lh:UD hs=UD B)(hi:i<UD B)(pw:p<w)(short:pt (B.getD i []) w<0)(low:pt (B.getD i []) p<0)(first:∀k,k<p->0<=pt (B.getD i []) k)
  (least:∀j,j<UD B->pt (B.getD j []) w<0->hs.getD i 0<=hs.getD j 0):Bo.Stp (UD B) w (eE B hs) (eE (df B i p) (hs.set i p)) i p:=by
 have ln:∀j,j<UD B->(B.getD j []).length=w+1:=λj hj=>wd _ (Sq (b9 hj))
 refine⟨hi,pw,short,low,first,least,?_,λj hj ne=>?_,λk=>?_,λj hj ne=>?_⟩
 .show(hs.set i p).getD i 0=p;rw[Sj,We ∅];rfl
 .show(hs.set i p).getD j 0=hs.getD j 0;rw[Sj,Wx (λz=>ne z.symm),Sj]
 .show pt ((df B i p).getD i []) k = - pt (B.getD i []) k;rw[uR hi,if_pos rfl,iN]
 .have e:(B.getD j []).length=(di (B.getD i [])).length:=by rw[dh,ln j hj,ln i hi]
  have nz:=zD o hi hj ne low e;refine⟨bf (eK (B.getD j []) (di (B.getD i [])) p),G8 nz,λk=>?_⟩;show _*pt ((df B i p).getD j []) k=(- pt (B.getD i []) p)*pt (B.getD j []) k-pt (B.getD j []) p*(- pt (B.getD i []) k);rw[uR hj,if_neg ne,M_ (iy nz),HX e,iN,iN]
def Cs{B:List (List Int)}{hs:List Nat}{i j:Nat}(o:Bo.Ok (UD B) w (eE B hs))(wd:Wide (w+1) B)(hi:i<UD B)(low:pt (B.getD i []) p<0)(hj:j<UD B)(ne:j≠i)(d:Int)(hd:∀k,k<=w->d∣(eE (df B i p) (hs.set i p)).L j k):d∣1:=by
 have ln:∀j,j<UD B->(B.getD j []).length=w+1:=λj hj=>wd _ (Sq (b9 hj))
 have e:(B.getD j []).length=(di (B.getD i [])).length:=by rw[dh,ln j hj,ln i hi]
 have nz:=zD o hi hj ne low e;refine Je (iy nz) (by rw[jH e];exact ln j hj) d λk hk=>?_
 have:=hd k hk
 rw[show(eE (df B i p) (hs.set i p)).L j k=pt ((df B i p).getD j []) k from rfl,uR hj,if_neg ne] at this;exact this
def Cq{w:Nat}{i:Nat}(wd:Wide (w+1) B)(hi:i<UD B):Wide (w+1) (df B i p):=λr hr=>by
 have ln:∀j,j<UD B->(B.getD j []).length=w+1:=λj hj=>wd _ (Sq (b9 hj))
 obtain⟨j,hj⟩:=Tb hr;have lj:j<UD B:=by rw[<- jw B i p];exact(Sn.mp hj).1
 rw[uS lj] at hj;cases hj;split
 .rw[dh];exact ln i hi
 .unfold wo;rw[Si,jH (by rw[dh,ln j lj,ln i hi])];exact ln j lj
def uQ{a b:List Int}{k:Nat}(h:k<UD a):pt (a++b) k=pt a k:=by
 unfold pt;rw[Sj,Tx h,Sj]
def uP{a b:List Int}{k:Nat}:pt (a++b) (UD a+k)=pt b k:=by
 unfold pt;rw[Sj,TH ∅,Sj,Vu]
def Ii{n k:Nat}(h:k<n):pt (aY n i) k=if k=i then 1 else 0:=by
 unfold pt aY;rw[Sj,So,TC h];rfl
def xC{R:List (List Int)}{i:Nat}(h:i<UD R):(kK R es).getD i []=R.getD i []++aY (UD R) i++[pt es i]:=by rw[Sj,xD h];rfl
abbrev qo(size m:Nat):List Nat:=(SJ m).map λk=>size+k
def Dx{size m i:Nat}(h:i<m):(qo size m).getD i 0=size+i:=by
 unfold qo;rw[Sj,So,TC h];rfl
section
variable{R:List (List Int)}{es:List Int}{size:Nat}
def jB(wd:Wide size R){i k:Nat}(hi:i<UD R)(hk:k<UD R):pt ((kK R es).getD i []) (size+k)=if i=k then 1 else 0:=by
 have lr:(R.getD i []).length=size:=wd _ (Sq (b9 hi));have lo:(aY (UD R) i).length=UD R:=cP _ _;rw[xC hi,uQ (by rw[SC];lia)]
 have:=uP (a:=R.getD i []) (b:=aY (UD R) i) (k:=k)
 rw[lr] at this;rw[this,Ii hk];by_cases e:k=i
 .rw[if_pos e,if_pos e.symm]
 .rw[if_neg e,if_neg λz=>e z.symm]
def xA(wd:Wide size R){i k:Nat}(hi:i<UD R)(hk:k<size):pt ((kK R es).getD i []) k=pt (R.getD i []) k:=by
 have lr:(R.getD i []).length=size:=wd _ (Sq (b9 hi));rw[xC hi,Ur,uQ ∅]
def LS(wd:Wide size R){i:Nat}(hi:i<UD R):pt ((kK R es).getD i []) (size+UD R)=pt es i:=by
 have lr:(R.getD i []).length=size:=wd _ (Sq (b9 hi));have lo:(aY (UD R) i).length=UD R:=cP _ _;rw[xC hi]
 have:=uP (a:=R.getD i []++aY (UD R) i) (b:=[pt es i]) (k:=0)
 rw[SC,lr,lo,Nat.add_zero] at this;rw[this];rfl
def xz(wd:Wide size R):Wide (size+UD R+1) (kK R es):=λr hr=>by
 obtain⟨j,hj⟩:=Tb hr;have lj:j<UD R:=by rw[<- kJ R es];exact(Sn.mp hj).1
 have lr:(R.getD j []).length=size:=wd _ (Sq (b9 lj));rw[xD lj] at hj;cases hj;rw[SC,SC,lr,cP];rfl
def O_(wd:Wide size R):Bo.Ok (UD R) (size+UD R) (eE (kK R es) (qo size (UD R))):=by
 refine⟨λi hi=>?_,λi hi=>?_,λi j hi hj ne=>?_⟩
 .show(qo size (UD R)).getD i 0<_;rw[Dx hi];lia
 .show 0<pt ((kK R es).getD i []) ((qo size (UD R)).getD i 0);rw[Dx hi,jB wd hi hi,if_pos rfl];decide
 .show pt ((kK R es).getD i []) ((qo size (UD R)).getD j 0)=0;rw[Dx hj,jB wd hi hj,if_neg ne]
def Hg(wd:Wide size R):Bo.From (UD R) (size+UD R) size (eE (kK R es) (qo size (UD R))) (eE (kK R es) (qo size (UD R))) :=
 Bo.From.start (O_ wd) (λl hl k hk=>jB wd hl hk) ∅
end
end Br
namespace Bo
def gK(a:Nat):∀(b:Nat) (f:Nat->Int),sm (a+b) f=sm a f+sm b λk=>f (a+k)
 |0,f=>by show sm a f=sm a f+0;lia
 |b+1,f=>by
  show sm (a+b) f+f (a+b)=sm a f+(sm b (λk=>f (a+k))+f (a+b))
  rw[gK a b f];lia
def JD(m:Nat)(W:Nat)(c z:Nat->Int)(L:Nat->Nat->Int):sm W (λk=>sm m (λj=>c j*L j k)*z k)=sm m λj=>c j*sm W λk=>L j k*z k:=by
 induction m with
 |zero=>exact ic λk _=>Uq _
 |succ m ih =>
  show sm W (λk=>(sm m (λj=>c j*L j k)+c m*L m k)*z k)=sm m (λj=>c j*sm W λk=>L j k*z k)+c m*sm W λk=>L m k*z k
  rw[<- ih,<- bN,<- eO];refine aN λk _=>?_
  rw[WB,SY]
def From.back(F:From m W n f b)(h:zu m W b z D):zu m W f z D:=by
 intro l hl;obtain⟨d,d0,c,hc⟩:=F.span l hl;refine Ug (a:=d) ∅ ?_
 have e1:d*ev W (f.L l) z=sm m λj=>c j*(D*b.L j W):=by
  unfold ev;rw[<- bN,show sm W (λk=>d*(f.L l k*z k))=sm W (λk=>sm m (λj=>c j*b.L j k)*z k) from aN λk _=>by rw[<- hc k,SY],JD];exact aN λj hj=>by rw[<- h j hj];rfl
 rw[e1,To,hc W,<- bN];exact aN λj _=>by rw[To]
def MH(h:sm n f<0):∃k,k<n/\f k<0:=by
 refine Uw λno=>?_
 have:=qF (n:=n) (f:=f) λk hk=>Int.not_lt.mp λz=>no ⟨k,hk,z⟩
 lia
end Bo
namespace Br
open Rk Sf Rw Bo
abbrev pI(R:List (List Int))(n:Nat):List (List Int):=R++(jc n).map di
abbrev iR(a n:Nat):List Int:=SR a 0++SR n (-1)
abbrev vT(R:List (List Int))(n:Nat):Bo.Bd:=eE (kK (pI R n) (iR (UD R) n)) (qo n (UD R+n))
section
variable{R:List (List Int)}{n:Nat}
def b7:(pI R n).length=UD R+n:=by unfold pI;rw[SC,Si,dC]
def LU(a n:Nat):(iR a n).length=a+n:=by unfold iR;rw[SC,Uh,Uh]
def Lq{i:Nat}(h:i<UD R):(pI R n).getD i []=R.getD i []:=by
 unfold pI;rw[Sj,Tx h,Sj]
def GN{j:Nat}(h:j<n):(pI R n).getD (UD R+j) []=di (aY n j):=by
 unfold pI;rw[Sj,TH ∅,Vu,So,gN h];rfl
def vE{a i:Nat}(h:i<a):pt (iR a n) i=0:=by
 unfold iR;rw[uQ (by rw[Uh];exact h)];unfold pt;rw[Sj,Wa h];rfl
def pT{j:Nat}(h:j<n):pt (iR a n) (a+j) = -1:=by
 unfold iR
 have:=uP (a:=SR a 0) (b:=SR n (-1)) (k:=j)
 rw[Uh] at this;rw[this];unfold pt;rw[Sj,Wa h];rfl
def c7(wd:Wide n R):Wide n (pI R n):=λr hr=>by
 rcases SQ.mp hr with h|h
 .exact wd r h
 .obtain⟨o,ho,rfl⟩:=SE.mp h;obtain⟨j,hj,rfl⟩:=SE.mp ho;rw[dh,cP]
def vS(wd:Wide n R){i k:Nat}(hi:i<UD R)(hk:k<n):(vT R n).L i k=pt (R.getD i []) k:=by
 show pt ((kK (pI R n) (iR (UD R) n)).getD i []) k=_;rw[xA (c7 wd) (by rw[b7];lia) hk,Lq hi]
def gZ(wd:Wide n R){j k:Nat}(hj:j<n)(hk:k<n):(vT R n).L (UD R+j) k=if k=j then -1 else 0:=by
 show pt ((kK (pI R n) (iR (UD R) n)).getD (UD R+j) []) k=_;rw[xA (c7 wd) (by rw[b7];lia) hk,GN hj,iN,Ii hk];split <;> rfl
def jE(wd:Wide n R){i k:Nat}(hi:i<UD R+n)(hk:k<UD R+n):(vT R n).L i (n+k)=if i=k then 1 else 0:=jB (c7 wd) (by rw[b7];exact hi) (by rw[b7];exact hk)
def qc(wd:Wide n R){i:Nat}(hi:i<UD R+n):(vT R n).L i (n+(UD R+n))=pt (iR (UD R) n) i:=by
 have:=LS (R:=pI R n) (es:=iR (UD R) n) (c7 wd) (i:=i) (by rw[b7];exact hi)
 rw[b7] at this;exact this
def xR(wd:Wide n R):Bo.From (UD R+n) (n+(UD R+n)) n (vT R n) (vT R n):=by
 have:=Hg (R:=pI R n) (es:=iR (UD R) n) (c7 wd)
 rw[b7] at this;exact this
def sN(wd:Wide n R)(b3:∀r∈R,∀c∈r,c.natAbs<=3){i:Nat}(hi:i<UD R+n)(k:Nat):((vT R n).L i k).natAbs<=3:=by
 by_cases h1:k<n
 .by_cases h2:i<UD R
  .rw[vS wd h2 h1];have lr:(R.getD i []).length=n:=wd _ (Sq (b9 h2));exact b3 _ (Sq (b9 h2)) _ (rj ∅)
  .obtain⟨j,rfl⟩:∃j,i=UD R+j:=⟨i-UD R,∅⟩
   rw[gZ wd ∅ h1];split <;> decide
 .obtain⟨j,rfl⟩:∃j,k=n+j:=⟨k-n,∅⟩
  rcases Wu j (UD R+n) with q|q|q
  .rw[jE wd hi q];split <;> decide
  .rw[q,qc wd hi];by_cases h2:i<UD R
   .rw[vE h2];decide
   .obtain⟨j,rfl⟩:∃j,i=UD R+j:=⟨i-UD R,∅⟩
    rw[pT ∅];decide
  .have e:(vT R n).L i (n+j)=0:=by
    refine c6 ?_
    have:=xz (es:=iR (UD R) n) (c7 wd) _ (Sq (xD (es:=iR (UD R) n) (R:=pI R n) (i:=i) (by rw[b7];exact hi)))
    rw[<- xC (by rw[b7];exact hi),b7] at this;lia
   rw[e];decide
def Jk(wd:Wide n R)(F:Bo.From (UD R+n) (n+(UD R+n)) n (vT R n) b){i:Nat}(hi:i<UD R+n)(short:b.L i (n+(UD R+n))<0)(up:∀k,k<n+(UD R+n)->0<=b.L i k) :
  (∀k,k<n->0<=sm (UD R) λl=>b.L i (n+l)*pt (R.getD l []) k)/\∃k,k<n/\0<sm (UD R) λl=>b.L i (n+l)*pt (R.getD l []) k:=by
 have lin:∀k,k<n->(sm (UD R) λl=>b.L i (n+l)*pt (R.getD l []) k)=b.L i k+b.L i (n+(UD R+k)):=by
  intro k hk;have e:=F.lin i hi k;rw[gK,dA (j:=k) hk (λj hj ne=>by rw[gZ wd hj hk,if_neg λz=>ne z.symm,TL]),gZ wd hk hk,if_pos rfl] at e;rw[aN (n:=R.length) (g:=λl=>b.L i (n+l)*pt (R.getD l []) k) λl hl=>by rw[vS wd hl hk]] at e;lia
 refine⟨λk hk=>?_,?_⟩
 .rw[lin k hk]
  have:=up k ∅
  have:=up (n+(UD R+k)) ∅
  lia
 .have e:=F.lin i hi (n+(UD R+n));rw[gK,ic (n:=R.length) (λl hl=>by rw[qc wd ∅,vE hl,TL]),UB] at e;rw[e] at short;obtain⟨k,hk,z⟩:=MH short;rw[qc wd ∅,pT hk] at z;refine⟨k,hk,?_⟩;rw[lin k hk]
  have:=up k ∅
  lia
end
def xP{a o:Int}(h:0<o)(ha:0<a):0<(a*o).fdiv (Gd.gd a o)/\a∣(a*o).fdiv (Gd.gd a o)/\o∣(a*o).fdiv (Gd.gd a o)/\(a*o).fdiv (Gd.gd a o)<=a*o:=by
 have g0:0<Gd.gd a o:=Gd.mS ∅;obtain⟨⟨c,hc⟩,⟨d,hd⟩⟩:=xt a o;generalize Gd.gd a o=g at g0 hc hd
 have e1:(a*o).fdiv g=a*d:=by
  have:a*o=g*(a*d):=by
   rw[hd];rw[To]
  rw[this,V2 _ ∅]
 have e2:a*d=o*c:=by
  rw[hc,hd,SY,SY,T9 c d]
 have d0:0<d:=by
  rcases Yd 0 d with q|q
  .exact q
  .have:=Wb q (show 0<=g by lia)
   lia
 rw[e1];refine⟨VY ha d0,⟨d,rfl⟩,⟨c,e2⟩,Wb ?_ ∅⟩
 have:=V_ (show 1<=g by lia) (show 0<=d by lia)
 lia
section
variable{B:List (List Int)}{hs:List Nat}{m:Nat}
def En(ow:∀i,i<m->0<ownOf B hs i):∀j,j<=m->0<jo B hs j/\∀i,i<j->ownOf B hs i∣jo B hs j
 |0,_=>⟨by show(0:Int)<1;decide,λi hi=>absurd hi (TZ _)⟩
 |j+1,h=>by
  obtain⟨h1,h2⟩:=En ow j ∅;obtain⟨s1,s2,s3,_⟩:=xP (ow j ∅) h1;refine⟨s1,λi hi=>?_⟩;rcases Vf i j with q|q
  .exact WW (h2 i q) s2
  .rw[show i=j by lia];exact s3
def vQ{C:Nat}(ow:∀i,i<m->0<ownOf B hs i/\(ownOf B hs i).natAbs<=C):∀j,j<=m->(jo B hs j).natAbs<=C ^ j
 |0,_=>Sx _
 |j+1,h=>by
  have h1:=(En (λi hi=>(ow i hi).1) j ∅).1;have h2:=vQ ow j ∅;obtain⟨o1,o2⟩:=ow j ∅;obtain⟨s1,_,_,s4⟩:=xP o1 h1;have e:(jo B hs j*ownOf B hs j).natAbs<=C ^ j*C:=by rw[Ud];exact Uz h2 o2
  rw[Uy];show((jo B hs j*ownOf B hs j).fdiv (Gd.gd (jo B hs j) (ownOf B hs j))).natAbs<=_;lia
def Bb{r:List Int}{p:Nat}(h:p<UD r):pt (r.set p v) k=if p=k then v else pt r k:=by
 unfold pt;rw[Sj,Sj];split
 .rename_i e;subst e;rw[We h];rfl
 .rename_i e;rw[Wx e]
def kz{size:Nat}{bt:Int}{k:Nat}:∀j,(∀i,i<j->hs.getD i 0≠k)->pt (cq B hs size bt j) k=0
 |0,_=>by
  show pt (SR size 0) k=0;unfold pt;rw[Sj];cases e:(SR size (0:Int))[k]? with
  |none=>rfl
  |some c=>exact List.eq_of_mem_replicate (Sq e)
 |j+1,h=>by
  unfold cq;split
  .rename_i q;rw[Bb (by rw[cH];exact q),if_neg (h j ∅)];exact kz j λi hi=>h i ∅
  .exact kz j λi hi=>h i ∅
def kA{size:Nat}{bt:Int}(inj:∀i j,i<m->j<m->hs.getD i 0=hs.getD j 0->i=j){i:Nat}(hz:hs.getD i 0<size):∀j,j<=m->i<j->pt (cq B hs size bt j) (hs.getD i 0)=(a5 (B.getD i [])*bt).fdiv (ownOf B hs i)
 |0,_,h=>absurd h (TZ _)
 |j+1,hm,h=>by
  unfold cq;rcases Vf i j with q|q
  .split
   .rename_i z;rw[Bb (by rw[cH];exact z),if_neg λe=>by have:=inj j i ∅ ∅ e;lia];exact kA inj hz j ∅ q
   .exact kA inj hz j ∅ q
  .have e:i=j:=by lia
   subst e;rw[if_pos hz,Bb (by rw[cH];exact hz),if_pos rfl]
end
structure xZ (m n:Nat) (b:Bo.Bd) (bt:Int) (u:Nat->Int):Prop where
 hold:∀i,i<m->b.h i<n->b.L i (b.h i)*u (b.h i)=bt*b.L i (n+m)
 none:∀k,k<n->(∀i,i<m->b.h i≠k)->u k=0
def xZ.sol{n:Nat}{D:Int}{z:Nat->Int}(o:Bo.Ok m (n+m) b)(U:xZ m n b bt u)(z1:∀i,i<m->b.L i (b.h i)*z (b.h i)=D*b.L i (n+m))(z2:∀k,k<n+m->(∀i,i<m->b.h i≠k)->z k=0)(k:Nat)(hk:k<n):bt*z k=D*u k:=by
 by_cases h:∃i,i<m/\b.h i=k
 .obtain⟨i,hi,rfl⟩:=h;have o1:=o.own i hi;refine Ug (a:=b.L i (b.h i)) ∅ ?_;rw[To,z1 i hi,To (b.L i (b.h i)) D,U.hold i hi hk,To]
 .have no:∀i,i<m->b.h i≠k:=λi hi e=>h ⟨i,hi,e⟩
  rw[z2 k ∅ no,U.none k hk no,TL,TL]
section
variable{R:List (List Int)}{n:Nat}
def EO(wd:Wide n R)(n0:0<n)(b3:∀r∈R,∀c∈r,c.natAbs<=3)(F:Bo.From (UD R+n) (n+(UD R+n)) n (vT R n) b)(ends:∀i,i<UD R+n->0<=b.L i (n+(UD R+n))){bt:Int}(bt0:0<bt){u:List Int}(lu:UD u=n)(U:xZ (UD R+n) n b bt (pt u)) :
  (∀k,k<n->1<=pt (aV u) k)/\(∀i,i<UD R->(sm n λk=>pt (R.getD i []) k*pt (aV u) k)<=0)/\∀k,(pt (aV u) k).natAbs<=(2*((n+(UD R+n)+1)*3)) ^ (n+(UD R+n)):=by
 obtain⟨z,D,D0,sat,z1,z2⟩:=Ct F.ok;have satf:=F.back sat;have eu:=U.sol F.ok z1 (λk _=>z2 k)
 have zn:∀k,k<n+(UD R+n)->0<=z k:=by
  intro k hk;by_cases h:∃i,i<UD R+n/\b.h i=k
  .obtain⟨i,hi,rfl⟩:=h;have o1:=F.ok.own i hi;have e:=z1 i hi
   have:=WC (show 0<=D by lia) (ends i hi)
   rw[<- e] at this;exact XF this ∅
  .rw[z2 k λi hi e=>h ⟨i,hi,e⟩];exact XY _
 have line:∀i,i<UD R+n->(sm n λk=>(vT R n).L i k*z k)+z (n+i)=D*pt (iR (UD R) n) i:=by
  intro i hi;have e:=satf i hi;rw[qc wd hi] at e;rw[<- e];unfold ev;rw[gK,dA (n:=R.length+n) (j:=i) hi (λj hj ne=>by rw[jE wd hi hj,if_neg λz=>ne z.symm,Uq]),jE wd hi hi,if_pos rfl,XW]
 have zp:∀k,k<n->0<z k:=by
  intro k hk;have e:=line (UD R+k) ∅;rw[dA (j:=k) hk (λj hj ne=>by rw[gZ wd hk hj,if_neg ne,Uq]),gZ wd hk hk,if_pos rfl,pT hk] at e
  have:=zn (n+(UD R+k)) ∅
  lia
 have up:∀k,k<n->0<pt u k:=by
  intro k hk;have e:=eu k hk
  have:=VY bt0 (zp k hk)
  rw[e] at this;exact U1 this ∅
 have f0:fp u=some 0:=by
  have:fp u≠none:=λh=>by have:=vC h 0;have:=up 0 n0;lia
  cases e:fp u with
  |none=>exact absurd e this
  |some i =>
   obtain⟨_,_,h3⟩:=cW e;rcases W4 i with q|q
   .rw[q]
   .have:=h3 0 q
    have:=up 0 n0
    lia
 obtain⟨l1,_,_⟩:=Mk.wZ f0;obtain⟨g,g0,gl⟩:=gP u
 have gp:0<g:=by
  have e:=gl 0;have u0:=up 0 n0;rw[<- e] at u0;exact Int.pos_of_mul_pos_left u0 ∅
 have lp:∀k,k<n->1<=pt (aV u) k:=by
  intro k hk;have u0:=up k hk;rw[<- gl k] at u0
  have:=U1 u0 ∅
  lia
 refine⟨lp,λi hi=>?_,λk=>?_⟩
 .have e:=line i ∅;rw[vE hi,TL,aN (n:=n) (g:=λk=>pt (R.getD i []) k*z k) λk hk=>by rw[vS wd hi hk]] at e;have zi:=zn (n+i) ∅
  have e2:bt*(sm n λk=>pt (R.getD i []) k*z k)=(D*g)*sm n λk=>pt (R.getD i []) k*pt (aV u) k:=by
   rw[<- bN,<- bN];refine aN λk hk=>?_
   rw[To,eu k hk,<- gl k,To (D*g),SY]
  have dg:0<D*g:=VY D0 gp;rcases Yd 0 (sm n λk=>pt (R.getD i []) k*pt (aV u) k) with q|q
  .have p1:=VY dg q;rw[<- e2] at p1
   have:=U1 p1 ∅
   lia
  .exact q
 .obtain⟨y,D',D0',yb,y1,y2⟩:=F.told (M:=3) (by decide) (λl hl k=>sN wd b3 hl k);have ey:=U.sol F.ok y1 y2;by_cases hk:k<n
  .refine Ta ?_ (yb k)
   have:=BX (W:=n) (r:=pt (aV u)) (s:=λk=>if k<n then y k else 0) (a:=bt) (q:=D'*g) bt0 (λh=>(TJ.mp h).elim D0' g0) (λk=>?_) (λd hd=>?_) k
   .simpa[hk] using this
   .show bt*(if k<n then y k else 0)=_;split
    .rename_i q;rw[ey k q,<- gl k,SY]
    .rw[c6 (r:=aV u) (by rw[ce];lia),TL,TL]
   .rw[<- l1];exact xG λk hk=>hd k (by rw[ce] at hk;lia)
  .rw[c6 (by rw[ce];lia)];exact TV _
def xQ{B:List (List Int)}{hs:List Nat}(lb:UD B=UD R+n)(F:Bo.From (UD R+n) (n+(UD R+n)) n (vT R n) (eE B hs))(wb:Wide (n+(UD R+n)+1) B):0<jo B hs (UD B)/\xZ (UD R+n) n (eE B hs) (jo B hs (UD B)) (pt (cq B hs n (jo B hs (UD B)) (UD B))):=by
 have ow:∀i,i<UD R+n->0<ownOf B hs i:=F.ok.own;rw[lb];obtain⟨p,d⟩:=En ow (UD R+n) (Sx _);refine⟨p,⟨λi hi hn=>?_,λk hk no=>kz _ no⟩⟩
 have inj:∀i j,i<UD R+n->j<UD R+n->hs.getD i 0=hs.getD j 0->i=j:=by
  intro i j hi hj e;refine Uw λne=>?_
  have h1:0<pt (B.getD i []) (hs.getD i 0):=F.ok.own i hi;have h2:pt (B.getD i []) (hs.getD j 0)=0:=F.ok.oth i j hi hj ne;rw[<- e] at h2;lia
 show ownOf B hs i*pt (cq B hs n (jo B hs (UD R+n)) (UD R+n)) (hs.getD i 0)=_;rw[kA inj hn _ (Sx _) hi,VX (WW (d i hi) (Int.dvd_mul_left _ _)),T9];have li:(B.getD i []).length=n+(UD R+n)+1:=wb _ (Sq (b9 ∅));unfold a5;rw[li];rfl
end
abbrev Sh(B:List (List Int))(hs:List Nat)(i:Nat):Prop:=hs.Nodup/\B.length=hs.length/\i<(UD B)/\a5 (B.getD i [])<0/\∀j,j<UD B->a5 (B.getD j [])<0->hs.getD i 0<=hs.getD j 0
def Sh.uniq{hs:List Nat}(a:Sh B hs i)(b:Sh B hs j):i=j:=by
 obtain⟨nd,l,a1,a2,a3⟩:=a;obtain⟨_,_,b1,b2,b3⟩:=b;have h1:=a3 j b1 b2;have h2:=b3 i a1 a2;have e:hs.getD i 0=hs.getD j 0:=by lia
 rw[Sj,Sj,Sk ∅,Sk ∅] at e;exact(VE (h₀:=∅) (h₁:=∅) nd).mp e
inductive Tl (n rn w:Nat):List (List Int)->List Nat->Bool×List Int->Prop
 |yes {B:List (List Int)} {hs:List Nat}:(∀r∈B,0<=a5 r)->Tl n rn w B hs (true,aV (cq B hs n (jo B hs (UD B)) (UD B)))
 |no {B:List (List Int)} {hs:List Nat} {i:Nat}:Sh B hs i->(∀k,k<w->0<=pt (B.getD i []) k)->Tl n rn w B hs (false,((B.getD i []).drop n).take rn)
 |step {B:List (List Int)} {hs:List Nat} {i p:Nat} {r:Bool×List Int}:Sh B hs i->p<w->pt (B.getD i []) p<0->(∀k,k<p->0<=pt (B.getD i []) k)->Tl n rn w (df B i p) (hs.set i p) r->Tl n rn w B hs r
def Sh.bad{hs:List Nat}(a:Sh B hs i)(h:∀r∈B,0<=a5 r):False:=by
 obtain⟨_,_,a1,a2,_⟩:=a
 have:=h _ (Sq (b9 a1))
 lia
def Tl.uniq{hs:List Nat}(h:Tl n rn w B hs r):∀{r'},Tl n rn w B hs r'->r=r':=by
 induction h with
 |yes a =>
  intro r' h';cases h' with
  |yes _=>rfl
  |no s _=>exact(s.bad a).elim
  |step s _ _ _ _=>exact(s.bad a).elim
 |no s u =>
  intro r' h';cases h' with
  |yes a=>exact(s.bad a).elim
  |no s' _=>rw[s.uniq s']
  |step s' pw lo _ _ =>
   have:=s.uniq s'
   subst this
   have:=u _ pw
   lia
 |step s pw lo fi _ ih =>
  intro r' h';cases h' with
  |yes a=>exact(s.bad a).elim
  |no s' u =>
   have:=s.uniq s'
   subst this
   have:=u _ pw
   lia
  |@step _ _ i' p' _ s' pw' lo' fi' t' =>
   have:=s.uniq s'
   subst this;rename_i p _ _
   have e:p=p':=by
    rcases Wu p p' with q|q|q
    .have:=fi' p q;lia
    .exact q
    .have:=fi p' q;lia
   subst e;exact ih t'
section
variable(R:List (List Int))(n:Nat)
abbrev P_(r:Bool×List Int):Prop:=Tl n (UD R) (n+(UD R+n)) (kK (pI R n) (iR (UD R) n)) (qo n (UD R+n)) r
open Classical in
abbrev eF:Bool×List Int:=if h:∃r,P_ R n r then h.choose else (false,[])
def wu(h:P_ R n r):eF R n=r:=by
 unfold eF;have e:∃r,P_ R n r:=⟨r,h⟩
 rw[dif_pos e];exact e.choose_spec.uniq h
structure Ew (r:Bool×List Int):Prop where
 yes:r.1=true->r.2.length=n/\(∀k,k<n->1<=pt r.2 k)/\∀i,i<UD R->(sm n λk=>pt (R.getD i []) k*pt r.2 k)<=0
 no:r.1=false->r.2.length=(UD R)/\(∀l,l<UD R->0<=pt r.2 l)/\(∀k,k<n->0<=sm (UD R) λl=>pt r.2 l*pt (R.getD l []) k)/\∃k,k<n/\0<sm (UD R) λl=>pt r.2 l*pt (R.getD l []) k
 bnd:∀k,(pt r.2 k).natAbs<10 ^ 59
end
structure PI (R:List (List Int)) (n k:Nat) (B:List (List Int)) (hs:List Nat):Prop where
 lb:UD B=UD R+n
 lh:UD hs=UD R+n
 wb:Wide (n+(UD R+n)+1) B
 fr:Bo.From (UD R+n) (n+(UD R+n)) n (vT R n) (eE B hs)
 rn:Bo.Rn (UD R+n) (n+(UD R+n)) (vT R n) k (eE B hs)
 tl:∀r,Tl n (UD R) (n+(UD R+n)) B hs r->P_ R n r
section
variable{R:List (List Int)}{n k:Nat}{B:List (List Int)}{hs:List Nat}
def PI.first(wd:Wide n R):PI R n 0 (kK (pI R n) (iR (UD R) n)) (qo n (UD R+n)):=by
 refine⟨by rw[kJ,b7],?_,?_,xR wd,.z,λr h=>h⟩
 .unfold qo;rw[Si,SV]
 .have:=xz (es:=iR (UD R) n) (c7 wd)
  rw[b7] at this;exact this
def PI.nodup(P:PI R n k B hs):hs.Nodup:=by
 have o:=P.fr.ok;unfold ZbS;rw[YB];intro i j hi hj lt e;have lh:=P.lh;have e1:hs.getD i 0=hs[i]:=by rw[Sj,Sk hi];rfl
 have e2:hs.getD j 0=hs[j]:=by rw[Sj,Sk hj];rfl
 have h1:0<pt (B.getD i []) (hs.getD i 0):=o.own i ∅;have h2:pt (B.getD i []) (hs.getD j 0)=0:=o.oth i j ∅ ∅ ∅;rw[e1] at h1;rw[e2,<- e] at h2;lia
def PI.last(P:PI R n k B hs){i:Nat}(h:i<UD B):a5 (B.getD i [])=pt (B.getD i []) (n+(UD R+n)):=by
 unfold a5;rw[P.wb _ (Sq (b9 h))];rfl
def PI.few(wd:Wide n R)(P:PI R n k B hs):k+1<=2 ^ (n+(UD R+n)):=P.rn.few (xR wd).ok
def PI.next(P:PI R n k B hs){p:Nat}(s:Sh B hs i)(pw:p<n+(UD R+n))(low:pt (B.getD i []) p<0)(first:∀k,k<p->0<=pt (B.getD i []) k):PI R n (k+1) (df B i p) (hs.set i p):=by
 obtain⟨lb,lh,wb,fr,rn,tl⟩:=P;have hi:=s.2.2.1
 have st:Bo.Stp (UD R+n) (n+(UD R+n)) (eE B hs) (eE (df B i p) (hs.set i p)) i p:=by
  have:=Cr (w:=n+(UD R+n)) (B:=B) (hs:=hs) (i:=i) (p:=p) (by rw[lb];exact fr.ok) wb ∅ hi pw (by
   have:=s.2.2.2.1
   rw[PI.last ⟨lb,lh,wb,fr,rn,tl⟩ hi] at this
   exact this) low first λj hj z=>s.2.2.2.2 j hj (by
   rw[PI.last ⟨lb,lh,wb,fr,rn,tl⟩ hj]
   exact z)
  rw[lb] at this;exact this
 refine⟨by rw[jw];exact lb,by rw[Zu];exact lh,Cq wb hi,?_,rn.s st,λr h=>tl r (.step s pw low first h)⟩;exact fr.step st λj hj ne d hd=>Cs (w:=n+(UD R+n)) (hs:=hs) (by rw[lb];exact fr.ok) wb hi low ∅ ne d hd
abbrev big:Nat:=21*((2*(21*3)) ^ 20*3)
def PI.small(wd:Wide n R)(b3:∀r∈R,∀c∈r,c.natAbs<=3)(n0:0<n)(m21:UD R+n<=21)(P:PI R n k B hs){i:Nat}(hi:i<UD B)(q:Nat):(pt (B.getD i []) q).natAbs<=big:=by
 have lb:=P.lb;obtain⟨m,hm⟩:∃m,UD R+n=m+1:=⟨(UD R)+n-1,∅⟩
 have F:=P.fr;rw[hm] at F;have u:∀l,l<m+1->∀k,k<m+1->(vT R n).L l (n+k)=if l=k then 1 else 0:=λl hl k hk=>jE wd ∅ ∅
 refine Ta (F.small u (M:=3) (by decide) (λl hl k=>sN wd b3 ∅ k) (i:=i) ∅ q) ?_;unfold big;refine Uz ∅ (T8 3 ?_);exact Ta (Vg ∅ m) (Tc (by decide) ∅)
def Eo:big<2 ^ 150:=by decide
def PI.cells(wd:Wide n R)(b3:∀r∈R,∀c∈r,c.natAbs<=3)(n0:0<n)(m21:UD R+n<=21)(P:PI R n k B hs){r:List Int}(hr:r∈B){c:Int}(hc:c∈r):c.natAbs<2 ^ 150:=by
 obtain⟨i,hi⟩:=Tb hr;obtain⟨q,hq⟩:=Tb hc;have li:=(Sn.mp hi).1;have e:=P.small wd b3 n0 m21 li q;rw[Sj,hi] at e;unfold pt at e;rw[Sj] at e;simp only[XG,hq] at e;exact Tk e Eo
def Jf{l h:List Int}{N:Nat}(hl:∀c∈l,c.natAbs<N)(hh:∀c∈h,c.natAbs<N)(N0:0<N):∀c∈eK l h p,c.natAbs<2*(N*N):=by
 have pl:∀{r:List Int},(∀c∈r,c.natAbs<N)->(pt r p).natAbs<N:=λ{r} hr=>by
  by_cases q:p<UD r
  .exact hr _ (rj q)
  .rw[c6 ∅];exact N0
 intro c hc;obtain⟨i,hi⟩:=Tb hc;unfold eK at hi;rw[T_] at hi;cases e1:l[i]? with
 |none=>rw[e1] at hi;simp at hi
 |some x =>
  cases e2:h[i]? with
  |none=>rw[e1,e2] at hi;simp at hi
  |some y =>
   rw[e1,e2] at hi;cases hi;have m1:(pt h p*x).natAbs<N*N:=by rw[Ud];exact V9 (pl hh) (hl x (Sq e1))
   have m2:(pt l p*y).natAbs<N*N:=by rw[Ud];exact V9 (pl hl) (hh y (Sq e2))
   generalize pt h p*x=X at m1 ⊢;generalize pt l p*y=Y at m2 ⊢;generalize N*N=Z at m1 m2 ⊢;rw[ZU];exact Tk (ZaX _ _) (ZW m1 m2)
def La{C:Nat}(P:PI R n k B hs)(sm_:∀i,i<UD B->∀q,(pt (B.getD i []) q).natAbs<=C):∀x∈cq B hs n (jo B hs (UD B)) (UD B),x.natAbs<=C*C ^ (UD B):=by
 intro x hx;obtain⟨q,hq⟩:=Tb hx;have lq:=(Sn.mp hq).1;rw[eX lq] at hq;have ex:=SU hq;obtain⟨b0,U⟩:=xQ P.lb P.fr P.wb;have lb:=P.lb;rw[cH] at lq;by_cases h:∃i,i<UD R+n/\hs.getD i 0=q
 .obtain⟨i,hi,e⟩:=h
  have:=U.hold i hi (by show hs.getD i 0<n;lia)
  have o:=P.fr.ok.own i hi
  have e2:pt (B.getD i []) (hs.getD i 0)*x=jo B hs (UD B)*pt (B.getD i []) (n+(UD R+n)):=by
   rw[<- ex,<- e];exact this
  have o':0<pt (B.getD i []) (hs.getD i 0):=o;have bl:=vQ (B:=B) (hs:=hs) (m:=B.length) (C:=C) (λj hj=>⟨P.fr.ok.own j ∅,sm_ j hj _⟩) (UD B) (Sx _);have l1:=sm_ i ∅ (n+(UD R+n));have e3:=congrArg Int.natAbs e2;rw[Ud,Ud] at e3;have h1:x.natAbs<=(pt (B.getD i []) (hs.getD i 0)).natAbs*x.natAbs:=UU _ ∅;have h2:=Uz bl l1;rw[UE C];lia
 .have:=U.none q lq λi hi e=>h ⟨i,hi,e⟩
  rw[this] at ex;rw[<- ex];exact TV _
def PI.yes(wd:Wide n R)(b3:∀r∈R,∀c∈r,c.natAbs<=3)(n0:0<n)(w26:n+(UD R+n)<=26)(P:PI R n k B hs)(h:∀r∈B,0<=a5 r):eF R n=(true,aV (cq B hs n (jo B hs (UD B)) (UD B)))/\Ew R n (true,aV (cq B hs n (jo B hs (UD B)) (UD B))):=by
 refine⟨wu R n (P.tl _ (.yes h)),?_⟩;have lb:=P.lb;obtain⟨b0,U⟩:=xQ P.lb P.fr P.wb
 obtain⟨y1,y2,y3⟩:=EO wd n0 b3 P.fr (λi hi=>by
  have:=h _ (Sq (b9 (B:=B) (j:=i) ∅))
  rw[P.last ∅] at this
  exact this) b0 (cH _ _ _ _ _) U
 refine⟨λ_=>⟨by show(aV _).length=n;rw[ce,cH],y1,y2⟩,(λz=>by cases z),λk=>?_⟩;refine Tk (y3 k) ?_;refine Tk (Ta (Vg (show _<=162 by lia) _) (Tc (by decide) w26)) ?_;decide
def oS{r:List Int}{n rn l:Nat}(h:l<rn):pt ((r.drop n).take rn) l=pt r (n+l):=by
 unfold pt;rw[Sj,Sj,Vn h,W3]
def PI.no(wd:Wide n R)(b3:∀r∈R,∀c∈r,c.natAbs<=3)(n0:0<n)(m21:UD R+n<=21)(P:PI R n k B hs)(s:Sh B hs i)(up:∀k,k<n+(UD R+n)->0<=pt (B.getD i []) k):eF R n=(false,((B.getD i []).drop n).take (UD R))/\Ew R n (false,((B.getD i []).drop n).take (UD R)):=by
 refine⟨wu R n (P.tl _ (.no s up)),?_⟩;have lb:=P.lb;have hi:=s.2.2.1;have li:=P.wb _ (Sq (b9 hi));have sh:=s.2.2.2.1;rw[P.last hi] at sh;obtain⟨n1,n2⟩:=Jk wd P.fr (i:=i) ∅ sh up;have len:(((B.getD i []).drop n).take (UD R)).length=UD R:=by rw[SL,Ux];lia
 have cg:∀k,(sm (UD R) λl=>pt (((B.getD i []).drop n).take (UD R)) l*pt (R.getD l []) k)=sm (UD R) λl=>(eE B hs).L i (n+l)*pt (R.getD l []) k:=λk=>aN λl hl=>by
  rw[oS hl];rfl
 refine⟨(λz=>by cases z),λ_=>⟨len,λl hl=>?_,λk hk=>?_,?_⟩,λk=>?_⟩
 .show 0<=pt (((B.getD i []).drop n).take (UD R)) l;rw[oS hl];exact up _ ∅
 .show 0<=sm (UD R) λl=>pt (((B.getD i []).drop n).take (UD R)) l*pt (R.getD l []) k
  rw[cg];exact n1 k hk
 .obtain⟨k,hk,z⟩:=n2;refine⟨k,hk,?_⟩;show 0<sm (UD R) λl=>pt (((B.getD i []).drop n).take (UD R)) l*pt (R.getD l []) k
  rw[cg];exact z
 .show(pt (((B.getD i []).drop n).take (UD R)) k).natAbs<10 ^ 59;by_cases hk:k<UD R
  .rw[oS hk];exact Tk (P.small wd b3 n0 m21 hi _) (by decide)
  .rw[c6 ∅];decide
end
open PySem L2 Fr G1 Sm Vs G2 Rk Sz Sf Rw
open PySem.W (Dat kqdOk)
def Oz{H:Hp}{Q:VK}{c:V}{k:Nat}(h0:H l0=some (.lst [c]))(hk:k<=100)(h:∀l,H l=none->Q (.ref l) (upd H l (.lst (SR k c)))):BL (.ref l0) (.int (k:Int)) H Q:=by
 refine⟨l0,(k:Int),_,rfl,rfl,h0,∅,∅,by rw[UG];show 1*_<=_;lia,λl nl=>?_⟩;rw[TW,Xr];exact h l nl
def wJ{K:Fg}{H:Hp}{xs zs:List V}{R Z:List (List Int)}(hq:H q=some (.lst (xs++zs)))(lx:UD xs=UD R)(hx:∀(i:Nat) (x:V) (r:List Int),xs[i]?=some x->R[i]?=some r->RowV H x r)(rz:RpL K S H zs (Z.map dL)):cJ H q (R++Z):=by
 have lz:UD zs=UD Z:=by rw[rz.length,Si]
 refine⟨_,hq,by rw[SC,SC];lia,λi x r e1 e2=>?_⟩;rcases Vf i (UD xs) with h|h
 .rw[Tx h] at e1;rw[Tx ∅] at e2;exact hx i x r e1 e2
 .rw[TH h] at e1;rw[TH ∅,<- lx] at e2;obtain⟨d,g1,g2⟩:=rz.get e1;rw[So,e2] at g1;cases g1;obtain⟨b,rfl,_,hb⟩:=jk g2;exact⟨b,rfl,.inl hb⟩
def QI{K:Fg}{H:Hp}{B:List (List Int)}(h:H p=some (.lst xs))(rx:RpL K S H xs (B.map dL)):LnAt H p B:=by
 refine⟨xs,h,by rw[rx.length,Si],λi x r e1 e2=>?_⟩;obtain⟨d,g1,g2⟩:=rx.get e1;rw[So,e2] at g1;cases g1;obtain⟨b,rfl,_,hb⟩:=jk g2;exact⟨b,rfl,hb⟩
def Oj{K:Fg}{B:List (List Int)}{o0:HO}(A:Acc K H0 p H (B.map dL))(hq:H0 q=some o0):LnAt (upd H q o) p B:=by
 obtain⟨xs,h1,h2⟩:=A.at_;refine⟨xs,by rw[aB (aq hq A.new).symm];exact h1,by rw[h2.length,Si],λi x r e1 e2=>?_⟩;obtain⟨d,g1,g2⟩:=h2.get e1;rw[So,e2] at g1;cases g1;obtain⟨b,rfl,nb,hb⟩:=jk g2;exact⟨b,rfl,by rw[aB (aq hq nb.1).symm];exact hb⟩
def LY(xs:List V)(n k:Nat)(h:n+k<=UD xs):jm xs (some (n:Int)) (some ((n:Int)+(k:Int)))=(xs.drop n).take k:=by
 unfold jm
 have e1:HT.sIx (UD xs) 0 (some (n:Int))=n:=by
  show(if (n:Int)<0 then ((n:Int)+(UD xs:Nat)).toNat else min (n:Int).toNat (UD xs))=_;rw[if_neg ∅];lia
 have e2:HT.sIx (UD xs) (UD xs) (some ((n:Int)+(k:Int)))=n+k:=by
  show(if (n:Int)+(k:Int)<0 then ((n:Int)+(k:Int)+(UD xs:Nat)).toNat else min ((n:Int)+(k:Int)).toNat (UD xs))=_;rw[if_neg ∅];lia
 rw[e1,e2,Vu]
abbrev Hm(r:Bool×List Int):Dat:=.tuple [.bool r.1,dL r.2]
abbrev gH(K:Fg):Sp:=λvs H Q _=>∃(a b:Addr) (R:List (List Int)) (n:Nat),vs=[.ref a,.ref b]/\cJ H a R/\cJ H b (jc n)/\Wide n R/\0<n/\n<=8/\R.length+n<=21/\n+(UD R+n)<=26/\(∀r∈R,∀c∈r,c.natAbs<=3) /\
 ∀(p:Addr) (H':Hp),Same H H'->Rp K (λa=>H a=none) H' (.ref p) (Hm (eF R n))->Ew R n (eF R n)->Q (.ref p) H'
abbrev zr(hs:List Nat):List V:=hs.map λk:Nat=>.int (k:Int)
abbrev RQ(B:List (List Int))(hs:List Nat)(v:V):Prop:=(v=.non/\∀r∈B,0<=a5 r)\/∃i:Nat,v=.int (i:Int)/\Sh B hs i
def Dc{K:Fg}{R:List (List Int)}{n:Nat}{hs:List Nat}{Q:VK}(m21:UD R+n<=21)(P:PI R n k B hs)(hB:LnAt H pB B)(hH:H pH=some (.lst (zr hs)))(h:∀v H',Same H H'->RQ B hs v->Q v H'):jV K [.ref pB,.ref pH] H Q E:=by
 have lb:=P.lb;have lh:=P.lh;refine⟨pB,pH,B,hs,rfl,hB,hH,∅,∅,λr hr z=>?_,P.nodup,λH' S=>⟨λq=>h _ _ S (.inl ⟨rfl,q⟩),λi i1 i2 i3=>h _ _ S (.inr ⟨i,rfl,P.nodup,∅,i1,i2,i3⟩)⟩⟩
 have:=P.wb r hr
 rw[z] at this;cases this
structure HI (H:Hp) (H3:Hp) (pB pH:Addr) (B:List (List Int)) (hs:List Nat):Prop where
 same:Same H H3
 nH:H pH=none
 bd:LnAt H3 pB B
 hd:H3 pH=some (.lst (zr hs))
def HI.on{hs:List Nat}(I:HI H H3 pB pH B hs)(S:Same H3 H4):HI H H4 pB pH B hs:=⟨I.same.trans S,I.nH,I.bd.same S,S _ _ I.hd⟩
def Jy{hs:List Nat}(wd:Wide n R)(b3:∀r∈R,∀c∈r,c.natAbs<=3)(n0:0<n)(m21:UD R+n<=21)(P:PI R n k B hs)(s:Sh B hs i)(low:pt (B.getD i []) p<0):(∀r∈B,∀c∈r,c.natAbs<2 ^ 4000) /\
  ∀j,j<UD B->j≠i->bf (eK (B.getD j []) (di (B.getD i [])) p)≠0/\(bf (eK (B.getD j []) (di (B.getD i [])) p)).natAbs<2 ^ 9000:=by
 have hi:=s.2.2.1;have le1:(2:Nat) ^ 150<=2 ^ 4000:=Tc (by decide) (by decide);refine⟨λr hr c hc=>Tf (P.cells wd b3 n0 m21 hr hc) le1,λj hj ne=>?_⟩;have li:=P.wb _ (Sq (b9 hi));have lj:=P.wb _ (Sq (b9 hj));have lb:=P.lb;have nz:=zD (m:=R.length+n) (w:=n+(UD R+n)) P.fr.ok ∅ ∅ ne low (by rw[dh];lia);refine⟨iy nz,?_⟩
 have bd:∀c∈eK (B.getD j []) (di (B.getD i [])) p,c.natAbs<2 ^ 400:=by
  intro c hc
  have:=Jf (N:=2 ^ 150) (λc hc=>P.cells wd b3 n0 m21 (Sq (b9 hj)) hc) (λc hc=>by
   obtain⟨x,hx,rfl⟩:=SE.mp hc
   rw[Yx]
   exact P.cells wd b3 n0 m21 (Sq (b9 hi)) hx) (Zw 150) c hc
  exact Tf this (by decide)
 exact Tf (DK nz bd) (Tc (by decide) (by decide))
def K_{hs:List Nat}(wd:Wide n R)(b3:∀r∈R,∀c∈r,c.natAbs<=3)(n0:0<n)(m21:UD R+n<=21)(P:PI R n k B hs):(∀i,i<UD B->0<ownOf B hs i/\(ownOf B hs i).natAbs<2 ^ 8000/\(a5 (B.getD i [])).natAbs<2 ^ 8000)/\(∀j,j<=UD B->(jo B hs j).natAbs<2 ^ 8000)/\∀x∈cq B hs n (jo B hs (UD B)) (UD B),x.natAbs<2 ^ 9000:=by
 have lb:=P.lb;have own:∀i,i<UD B->0<ownOf B hs i:=λi hi=>P.fr.ok.own i ∅
 have sml:=λi (hi:i<UD B) q=>P.small wd b3 n0 m21 hi q
 have b8:big<2 ^ 8000:=Tf Eo (Tc (by decide) (by decide))
 have pw:∀j,j<=22->big ^ j<=2 ^ 3300:=λj hj=>by
  refine Ta (Vg (VU Eo) j) ?_;rw[<- Nat.pow_mul];exact Tc (by decide) ∅
 have l8:(2:Nat) ^ 3300<2 ^ 8000:=UA (by decide) (by decide);have l9:(2:Nat) ^ 3300<2 ^ 9000:=UA (by decide) (by decide);refine⟨λi hi=>⟨own i hi,Tk (sml i hi _) b8,Tk (sml i hi _) b8⟩,λj hj=>?_,λx hx=>?_⟩
 .exact Tk (Ta (vQ (m:=B.length) (C:=big) (λi hi=>⟨own i hi,sml i hi _⟩) j hj) (pw j ∅)) l8
 .refine Tk (Ta (La P sml x hx) ?_) l9;rw[UE,<- Uy];exact pw _ ∅
nonrec def tL(K:Fg):TS:=(ao (a4 (aK (ar BO (aa 6) (tC .non)))
 (aA (bC (ac (tC (.bl false)) (ac (HL (yI K) (ar (bP K) (aa 3) (aa 5)) (ot (aa 2)) (ot (ar bc (aa 2) (bO (bz K) (ac (aa 0) ae))))) ae))))
 be)
 (ao (ay (aw (oG K) [] E0 (ac (aa 3) (ac (aa 5) (ac (aa 6) ae)))) (ak 3))
 (ao (ay (aa 6) (G_ (aa 4) (aa 5) Kh))
 (ay (aw (jV K) [] E0 (ac (aa 3) (ac (aa 4) ae))) (ak 5)))))
nonrec def tK(K:Fg):TS:=(ao (eM (aK (ar Kl (aa 5) (tC .non)))
 (ao (ay (aw (uw K) [] E0 (ac (ar (bP K) (aa 3) (aa 5)) ae)) (ak 6))
 (tL K)))
 (aA (bC (ac (tC (.bl true)) (ac (aw (jW K) [] E0 (ac (aa 3) (ac (aa 4) (ac (aa 2) ae)))) ae)))))
nonrec def tJ(K:Fg):TS:=(ao (ay (aw (oN K) [] E0 (ac (ar lT (aa 0) (aw (wA K) [] E0 (ac (aa 1) ae))) (ac (ar lT (ar BL (bK (ac (tC (.int 0)) ae)) (bO (bz K) (ac (aa 0) ae))) (ar BL (bK (ac (Az (rU λi=>.int (-i)) (tC (.int 1))) ae)) (bO (bz K) (ac (aa 1) ae)))) ae))) (ak 3))
 (ao (ay (f_ (ac (aa 2) (ac (ar bc (aa 2) (bO (bz K) (ac (aa 3) ae))) ae))) (ak 4))
 (ao (ay (aw (jV K) [] E0 (ac (aa 3) (ac (aa 4) ae))) (ak 5))
 (tK K))))
abbrev jJ(K:Fg):TS:=(ao (ay (bO (bz K) (ac (ar (bP K) (aa 1) (tC (.int 0))) ae)) (ak 2))
 (tJ K))
def yz{K:Fg}:ρ 7 (gH K) (jJ K):=by
 fail "R";obtain⟨a,b,R,n,rfl,⟨xs,ha,lx,hx⟩,⟨ys,hb,ly,hy⟩,wd,n0,n8,m21,w26,b3,k⟩:=h;rw[L2.aI hN];walk_at "t";unfold jJ;have ly':UD ys=n:=by rw[ly,dC]
 obtain⟨y0,ey0⟩:∃y,ys[0]?=some y:=⟨_,Sk ∅⟩
 have rv0:=hy 0 y0 _ ey0 (gN n0);cbv;refine bX (SqL.of hb) (v:=y0) (aM (j:=0) ey0) ?_;cbv;refine Df rv0 ?_;rw[cP];cbv;refine⟨b,jc n,rfl,⟨ys,hb,ly,hy⟩,by rw[dC];lia,λr hr=>?_,λo H1 A1=>?_⟩
 .obtain⟨j,_,rfl⟩:=SE.mp hr;rw[cP];lia
 obtain⟨zs,ho,rz⟩:=A1.at_;have lz:UD zs=n:=by rw[rz.length,Si,Si,dC]
 have S1:=A1.same;refine⟨a,o,_,_,rfl,rfl,S1 _ _ ha,ho,by rw[UG];lia,λq nq=>?_⟩;have S2:=S1.trans (ai nq (.lst (xs++zs)));have rq:cJ (upd H1 q (.lst (xs++zs))) q (pI R n):=wJ ag lx (λi x r e1 e2=>(hx i x r e1 e2).same S2) (rz.same (ai nq _));generalize upd H1 q (.lst (xs++zs))=H2 at S2 rq ⊢;clear rz ho A1 S1 nq;cbv;refine⟨cT,λl0 nl0=>?_⟩;have S3:=S2.trans (ai nl0 (.lst [.int 0]));have rq3:=rq;have h0:upd H2 l0 (.lst [.int 0]) l0=some (.lst [.int 0]):=ag;have T3:=ai nl0 (.lst [V.int 0]);generalize upd H2 l0 (.lst [.int 0])=H3 at S3 h0 T3 ⊢;cbv;refine bH (SqL.of (S3 _ _ ha)) ?_;rw[lx];cbv;refine Oz h0 ∅ λl1 nl1=>?_
 have T4:=T3.trans (ai nl1 (.lst (SR (UD R) (.int 0))));have h1:upd H3 l1 (.lst (SR (UD R) (.int 0))) l1=some (.lst (SR (UD R) (.int 0))):=ag;generalize upd H3 l1 (.lst (SR (UD R) (.int 0)))=H4 at T4 h1 ⊢;cbv;refine⟨cT,λl2 nl2=>?_⟩;have T5:=T4.trans (ai nl2 (.lst [.int (-1)]));have h15:=ai nl2 (.lst [V.int (-1)]) _ _ h1;have h2:upd H4 l2 (.lst [.int (-1)]) l2=some (.lst [.int (-1)]):=ag;generalize upd H4 l2 (.lst [.int (-1)])=H5 at T5 h15 h2 ⊢;cbv;refine bH (SqL.of (T5 _ _ (S2 _ _ hb))) ?_;rw[ly'];cbv;refine Oz h2 ∅ λl3 nl3=>?_
 have T6:=T5.trans (ai nl3 (.lst (SR n (.int (-1)))));have h16:=ai nl3 (.lst (SR n (V.int (-1)))) _ _ h15;have h3:upd H5 l3 (.lst (SR n (.int (-1)))) l3=some (.lst (SR n (.int (-1)))):=ag;generalize upd H5 l3 (.lst (SR n (.int (-1))))=H6 at T6 h16 h3 ⊢;refine⟨l1,l3,_,_,rfl,rfl,h16,h3,by rw[Uh,Uh,UG];lia,λe ne=>?_⟩;have ee:SR (UD R) (V.int 0)++SR n (.int (-1))=(iR (UD R) n).map V.int:=by unfold iR;rw[Sr,Yy,Yy]
 rw[ee];have T7:=T6.trans (ai ne (.lst ((iR (UD R) n).map V.int)));have he:upd H6 e (.lst ((iR (UD R) n).map V.int)) e=some (.lst ((iR (UD R) n).map V.int)):=ag;generalize upd H6 e (.lst ((iR (UD R) n).map V.int))=H7 at T7 he ⊢;cbv
 have rq7:cJ H7 q (pI R n):=by
  obtain⟨us,g1,g2,g3⟩:=rq;exact⟨us,T7 _ _ g1,g2,λi x r e1 e2=>(g3 i x r e1 e2).same T7⟩
 refine⟨q,e,pI R n,iR (UD R) n,rfl,rq7,he,by rw[LU,b7],by rw[b7];lia,λr hr=>by rw[c7 wd r hr];lia,λpB H8 A8=>?_⟩;have S8:=(S2.trans T7).trans A8.same;obtain⟨bs,hbs,rbs⟩:=A8.at_;have lbs:UD bs=UD R+n:=by rw[rbs.length,Si,kJ,b7]
 have ln8:=QI hbs rbs;have P0:=PI.first wd;clear A8 rbs T7 T6 T5 T4 T3 h16 h15 h3 h2 h1 h0 rq rq3 rq7 he nl0 nl1 nl2 nl3 ne S3 S2;generalize kK (pI R n) (iR (UD R) n)=B0 at P0 ln8;cbv;refine sg ?_;cbv;refine bH (SqL.of hbs) ?_;rw[lbs];cbv;refine⟨n,UD R+n,by rw[Zby n (UD R+n)],∅,∅,λpH nH=>?_⟩;have eh:((SJ (UD R+n)).map λk:Nat=>V.int ((n+k:Nat):Int))=zr (qo n (UD R+n)):=by unfold zr qo;rw[TY];rfl
 rw[eh];have I0:HI H (upd H8 pH (.lst (zr (qo n (UD R+n))))) pB pH B0 (qo n (UD R+n)):=⟨S8.trans (ai nH _),S8.free nH,ln8.same (ai nH _),ag⟩
 generalize upd H8 pH (.lst (zr (qo n (UD R+n))))=H9 at I0 ⊢;clear ln8 hbs lbs S8 nH eh;generalize qo n (UD R+n)=h00 at I0 P0;cbv;refine Dc m21 P0 I0.bd I0.hd λv H10 S10 av=>?_
 cbv;refine xi (λm σ H3=>∃(j:Nat) (B:List (List Int)) (hs:List Nat) (pB:Addr) (v:V) (u6:Option V),m=2 ^ (n+(UD R+n))-j/\σ=[⇑a,⇑b,↥(n:Int),⇑pB,⇑pH,some v,u6]/\PI R n j B hs/\HI H H3 pB pH B hs/\RQ B hs v) _ ⟨0,B0,h00,pB,v,none,rfl,rfl,P0,I0.on S10,av⟩ ?_;clear P0 I0 av S10 v pB B0 h00;rintro m σ H3 ⟨j,B,hs,pB,v,u6,rfl,rfl,P,I,av⟩;have few:=P.few wd;have lb:=P.lb;have lh:=P.lh;cbv;rcases av with⟨rfl,all⟩|⟨i,rfl,s⟩
 .refine fU (λz=>absurd rfl z) (λ_=>?_);cbv;obtain⟨o1,o2,o3⟩:=K_ wd b3 n0 m21 P;obtain⟨y1,y2⟩:=P.yes wd b3 n0 w26 all;refine⟨pB,pH,B,hs,n,n+(UD R+n),rfl,I.bd,I.hd,∅,∅,P.wb,λh hh=>?_,o1,o2,o3,λq H4 A4=>?_⟩
  .obtain⟨t,ht⟩:=Tb hh;have lt:=(Sn.mp ht).1
   have:hs.getD t 0<_:=P.fr.ok.lt t ∅
   rw[Sj,ht] at this;exact this
  refine⟨aR,λp np=>?_⟩;have S:=ai np (.tup [.bl true,.ref q]);refine k p _ ((I.same.trans A4.same).trans S) ?_ (by rw[y1];exact y2);rw[y1];exact .tup ag (.cons (.bl true) (.cons (jj (I.same.free A4.new) (S _ _ (AccZ.ints A4))) .nil))
 .refine fU (λ_=>?_) (λz=>by cases z);have hi:=s.2.2.1;have li:=P.wb _ (Sq (b9 hi));obtain⟨bs,hbs,lbs,rbs⟩:=I.bd;obtain⟨c,ec,hc⟩:=LnAt.get (a:=pB) lbs rbs (b9 hi);refine⟨λσ' H'=>∃(B:List (List Int)) (hs:List Nat) (pB:Addr) (v:V) (u6:Option V),σ'=[⇑a,⇑b,↥(n:Int),⇑pB,⇑pH,some v,u6]/\PI R n (j+1) B hs/\HI H H' pB pH B hs/\RQ B hs v,(by rintro σ' H' ⟨B,hs,pB,v,u6,e,q⟩;exact ⟨2 ^ (n+(UD R+n))-(j+1),∅,j+1,B,hs,pB,v,u6,rfl,e,q⟩),?_⟩;cbv;refine bX (SqL.of hbs) (aM ec) ?_;cbv;refine⟨c,B.getD i [],n+(UD R+n),rfl,hc,li,∅,λH4 S4=>⟨λup=>?_,λp pw low first=>?_⟩⟩
  .cbv;refine aZ (λ_=>?_) (λz=>absurd rfl z);cbv;refine bX (SqL.of (S4 _ _ hbs)) (aM ec) ?_;cbv;refine bH (SqL.of (S4 _ _ (I.same _ _ ha))) ?_;rw[lx];cbv;refine⟨c,_,rfl,SqL.of (S4 _ _ hc),λt nt=>?_⟩;rw[LY _ _ _ (by rw[Si];lia),<- Zaf,<- Zb0];obtain⟨y1,y2⟩:=P.no wd b3 n0 m21 s up;have S5:=(I.same.trans S4).trans (ai nt (.lst ((((B.getD i []).drop n).take (UD R)).map V.int)));have h5:upd H4 t (.lst ((((B.getD i []).drop n).take (UD R)).map V.int)) t=some (.lst ((((B.getD i []).drop n).take (UD R)).map V.int)):=ag;have nt0:=(I.same.trans S4).free nt;generalize upd H4 t (.lst ((((B.getD i []).drop n).take (UD R)).map V.int))=H5 at S5 h5 ⊢;refine⟨aR,λp np=>?_⟩;have S:=ai np (.tup [.bl false,.ref t]);refine k p _ (S5.trans S) ?_ (by rw[y1];exact y2);rw[y1];exact .tup ag (.cons (.bl false) (.cons (jj nt0 (S _ _ h5)) .nil))
  .cbv;refine aZ (λz=>by cases z) (λ_=>?_);cbv;obtain⟨c1,c2⟩:=Jy wd b3 n0 m21 P s low;have I4:=I.on S4;refine⟨pB,B,i,p,n+(UD R+n)+1,rfl,I4.bd,hi,∅,∅,P.wb,∅,c1,c2,λq H5 A5=>?_⟩;cbv;refine Iw (yX (i:=4) rfl (yX (i:=5) rfl ?_));refine⟨pH,_,_,i,rfl,rfl,A5.same _ _ I4.hd,?_,?_⟩
   .unfold zq zr;rw[if_pos ∅,if_pos (by rw[Si];lia)];simp
   .have eq:(zr hs).set i (.int (p:Int))=zr (hs.set i p):=by unfold zr;rw[List.map_set]
    rw[eq];have P2:=P.next s pw low first;have I6:HI H (upd H5 pH (.lst (zr (hs.set i p)))) q pH (df B i p) (hs.set i p):=⟨λx o e=>by rw[aB (aq e I4.nH)];exact A5.same _ _ (I4.same x o e),I4.nH,Oj A5 I4.hd,ag⟩
    generalize upd H5 pH (.lst (zr (hs.set i p)))=H6 at I6 ⊢;cbv;refine Dc m21 P2 I6.bd I6.hd λv H7 S7 av=>?_
    cbv;exact⟨_,_,_,_,_,rfl,P2,I6.on S7,av⟩
abbrev dbl(R:List (List Int)):List (List Int):=R++R.map di
abbrev pX(y:List Int)(a:Nat):List Int:=Up (λs t=>s-t) (y.take a) (y.drop a)
abbrev vR (R:List (List Int)) (n:Nat):Bool×List Int:=if (eF (dbl R) n).1=true then eF (dbl R) n else (false,pX (eF (dbl R) n).2 (UD R))
structure HE (R:List (List Int)) (n:Nat) (r:Bool×List Int):Prop where
 yes:r.1=true->r.2.length=n/\(∀k,k<n->1<=pt r.2 k)/\∀i,i<UD R->(sm n λk=>pt (R.getD i []) k*pt r.2 k)=0
 no:r.1=false->r.2.length=(UD R)/\(∀k,k<n->0<=sm (UD R) λl=>pt r.2 l*pt (R.getD l []) k)/\∃k,k<n/\0<sm (UD R) λl=>pt r.2 l*pt (R.getD l []) k
 bnd:∀k,(pt r.2 k).natAbs<10 ^ 60
def gz(R:List (List Int)):(dbl R).length=UD R+UD R:=by unfold dbl;rw[SC,Si]
def D7{R:List (List Int)}{i:Nat}(h:i<UD R):(dbl R).getD i []=R.getD i []:=by
 unfold dbl;rw[Sj,Tx h,Sj]
def D8{R:List (List Int)}{i:Nat}(h:i<UD R):(dbl R).getD (UD R+i) []=di (R.getD i []):=by
 unfold dbl;rw[Sj,TH ∅,Vu,So,b9 h];rfl
def Hl(wd:Wide n R):Wide n (dbl R):=λr hr=>by
 rcases SQ.mp hr with h|h
 .exact wd r h
 .obtain⟨o,ho,rfl⟩:=SE.mp h;rw[dh];exact wd o ho
def D6{R:List (List Int)}(b3:∀r∈R,∀c∈r,c.natAbs<=3):∀r∈dbl R,∀c∈r,c.natAbs<=3:=λr hr c hc=>by
 rcases SQ.mp hr with h|h
 .exact b3 r h c hc
 .obtain⟨o,ho,rfl⟩:=SE.mp h;obtain⟨x,hx,rfl⟩:=SE.mp hc;rw[Yx];exact b3 o ho x hx
def pW{y:List Int}{a:Nat}(h:y.length=a+a):(pX y a).length=a:=by
 unfold pX;rw[UW,SL,Ux];lia
def IJ{y:List Int}{a l:Nat}(h:y.length=a+a)(hl:l<a):pt (pX y a) l=pt y l-pt y (a+l):=by
 have e:(pX y a)[l]?=some (pt y l-pt y (a+l)):=by
  unfold pX;rw[T_,Vn hl,W3,eX ∅,eX ∅]
 rw[show pt (pX y a) l=((pX y a)[l]?).getD 0 from by unfold pt;rw[Sj],e];rfl
def MJ(n:Nat)(f:Nat->Int):sm n (λk=>- f k) = - sm n f:=by
 rw[show(λk=>- f k)=λk=>(-1)*f k from funext λk=>by rw[UR],bN,UR]
def RE(h:Ew (dbl R) n (eF (dbl R) n)):HE R n (vR R n):=by
 unfold vR;generalize eF (dbl R) n=r at h ⊢;obtain⟨b,y⟩:=r;have lt:(10:Nat) ^ 59<10 ^ 60:=by decide
 have hb:=h.bnd;cases b with
 |true =>
  rw[if_pos rfl];obtain⟨y1,y2,y3⟩:=h.yes rfl;refine⟨λ_=>⟨y1,y2,λi hi=>?_⟩,λz=>Y6 z,λk=>Ut (hb k) lt⟩;have p:=y3 i (by rw[gz];lia);have q:=y3 (UD R+i) (by rw[gz];lia);rw[D7 hi] at p;rw[D8 hi,aN (g:=λk=>- (pt (R.getD i []) k*pt y k)) λk _=>by rw[iN,UY],MJ] at q;show(sm n λk=>pt (R.getD i []) k*pt y k)=0;have p':(sm n λk=>pt (R.getD i []) k*pt y k)<=0:=p;lia
 |false =>
  rw[if_neg SX];obtain⟨n1,n2,n3,n4⟩:=h.no rfl;rw[gz] at n1 n2;have len:y.length=R.length+UD R:=n1
  have e:∀k,(sm (UD R) λl=>pt (pX y (UD R)) l*pt (R.getD l []) k)=sm (dbl R).length λl=>pt y l*pt ((dbl R).getD l []) k:=by
   intro k;rw[gz,gK,<- Bo.eO];refine aN λl hl=>?_
   rw[IJ len hl,D7 hl,D8 hl,iN,Zbq,Vq];rfl
  refine⟨λz=>Y6 z,λ_=>⟨pW len,λk hk=>?_,?_⟩,λk=>?_⟩
  .show 0<=sm (UD R) λl=>pt (pX y (UD R)) l*pt (R.getD l []) k
   rw[e];exact n3 k hk
  .obtain⟨k,hk,z⟩:=n4;refine⟨k,hk,?_⟩;show 0<sm (UD R) λl=>pt (pX y (UD R)) l*pt (R.getD l []) k
   rw[e];exact z
  .show(pt (pX y (UD R)) k).natAbs<10 ^ 60;by_cases hk:k<UD R
   .rw[IJ len hk];have h1:(pt y k).natAbs<10 ^ 59:=hb k;have h2:(pt y (UD R+k)).natAbs<10 ^ 59:=hb (UD R+k);have e3:(10:Nat) ^ 60=10*10 ^ 59:=by decide
    rw[e3];generalize (10:Nat) ^ 59=T at h1 h2 ⊢;exact Tk (ZaX _ _) (Tf (ZW h1 h2) ∅)
   .rw[c6 (by rw[pW len];lia)];decide
end Br
namespace Br
open PySem L2 Fr G1 Sm Vs G2 Rk Sz Sf Rw Cl
open PySem.W (Dat kqdOk)
open PyProof.Rows
def nM{K:Fg}(h:Rp K S H v (Hm r)):∃p l,v=.ref p/\H p=some (.tup [.bl r.1,.ref l])/\S l/\H l=some (.lst (r.2.map V.int)):=by
 obtain⟨p,xs,rfl,hp,rx⟩:=Rp.bM h;cases rx with
 |cons r1 rr =>
  cases rr with
  |cons r2 rr =>
   cases rr;cases r1;obtain⟨l,rfl,s,hl⟩:=jk r2;exact⟨p,l,rfl,hp,s,hl⟩
def Ho(xs:List V){k:Nat}(h:k<=UD xs):jm xs none (some (k:Int))=xs.take k:=by
 unfold jm;have e1:HT.sIx (UD xs) 0 none=0:=rfl
 have e2:HT.sIx (UD xs) (UD xs) (some (k:Int))=k:=by
  show(if (k:Int)<0 then ((k:Int)+(UD xs:Nat)).toNat else min (k:Int).toNat (UD xs))=_;rw[if_neg ∅];lia
 rw[e1,e2,ZJ,Nat.sub_zero]
def gL(h:cJ H a R)(S:Same H H'):cJ H' a R:=by
 obtain⟨us,g1,g2,g3⟩:=h;exact⟨us,S _ _ g1,g2,λi x r e1 e2=>(g3 i x r e1 e2).same S⟩
abbrev fD(K:Fg):Sp:=λvs H Q _=>∃(a b:Addr) (R:List (List Int)) (n:Nat),vs=[.ref a,.ref b]/\cJ H a R/\cJ H b (jc n)/\Wide n R/\0<n/\n<=8/\R.length+R.length+n<=21/\n+(UD R+UD R+n)<=26/\(∀r∈R,∀c∈r,c.natAbs<=3) /\
 ∀(p:Addr) (H':Hp),Same H H'->Rp K (λa=>H a=none) H' (.ref p) (Hm (vR R n))->HE R n (vR R n)->Q (.ref p) H'
nonrec def qy(K:Fg):TS:=(ao (ay (HL (yI K) (ar (aD K) (aa 2) (tC (.int 1))) (ot (bO (bz K) (ac (aa 0) ae))) f9) (ak 4))
 (aA (bC (ac (tC (.bl false)) (ac (c5 (mq K .L .L (ac (aa 3) (ac (aa 4) ae))) 2 (cf K 2 (aS (ak 0) (aS (ak 1) cj))) (ar kf (aa 0) (aa 1))) ae)))))
abbrev h_(K:Fg):TS:=(ao (ay (aw (gH K) [] E0 (ac (ar lT (aa 0) (aw (wA K) [] E0 (ac (aa 0) ae))) (ac (aa 1) ae))) (ak 2))
 (ao (a4 (tB (ar (aD K) (aa 2) (tC (.int 0))))
 (aA (aa 2))
 be)
 (ao (ay (HL (yI K) (ar (aD K) (aa 2) (tC (.int 1))) f9 (ot (bO (bz K) (ac (aa 0) ae)))) (ak 3))
 (qy K))))
def uO{K:Fg}:ρ 5 (fD K) (h_ K):=by
 fail "R";obtain⟨a,b,R,n,rfl,⟨xs,ha,lx,hx⟩,rb,wd,n0,n8,m21,w26,b3,k⟩:=h;rw[L2.aI hN];walk_at "t";unfold h_;cbv;refine⟨a,R,rfl,⟨xs,ha,lx,hx⟩,∅,λr hr=>by rw[wd r hr];lia,λo H1 A1=>?_⟩;obtain⟨zs,ho,rz⟩:=A1.at_;have lz:UD zs=UD R:=by rw[rz.length,Si,Si]
 have S1:=A1.same;refine⟨a,o,_,_,rfl,rfl,S1 _ _ ha,ho,by rw[UG];lia,λq nq=>?_⟩;have S2:=S1.trans (ai nq (.lst (xs++zs)));have rq:cJ (upd H1 q (.lst (xs++zs))) q (dbl R):=wJ ag lx (λi x r e1 e2=>(hx i x r e1 e2).same S2) (rz.same (ai nq _));generalize upd H1 q (.lst (xs++zs))=H2 at S2 rq ⊢;clear rz ho A1 S1 nq;cbv;refine⟨q,b,dbl R,n,rfl,rq,gL rb S2,Hl wd,n0,n8,by rw[gz];exact m21,by rw[gz];exact w26,D6 b3,λp H3 S3 r3 ok3=>?_⟩;have ok:=RE ok3;have len:(eF (dbl R) n).1=false->(eF (dbl R) n).2.length=UD R+UD R:=λz=>by rw[(ok3.no z).1,gz]
 clear ok3;have eb:vR R n=if (eF (dbl R) n).1=true then eF (dbl R) n else (false,pX (eF (dbl R) n).2 (UD R)):=rfl
 generalize eF (dbl R) n=st at r3 eb len;obtain⟨bb,y⟩:=st;obtain⟨p',l,ep,hp,nl,hl⟩:=nM r3;cases ep;have S03:=S2.trans S3;cbv;refine aG (SqT.of hp) (v:=.bl bb) rfl ?_;cbv;cases bb with
 |true =>
  refine Lx rfl ?_;rw[if_pos rfl] at eb;cbv;refine k p H3 S03 ?_ ok;rw[eb];exact r3.mono λc z=>S2.free z
 |false =>
  refine Ly rfl ?_;rw[if_neg SX] at eb;have ly:y.length=R.length+UD R:=len rfl;have hl':H3 l=some (.lst (y.map V.int)):=hl;cbv;refine aG (SqT.of hp) (v:=.ref l) rfl ?_;cbv;refine bH (SqL.of (S03 _ _ ha)) ?_;rw[lx];cbv;refine⟨l,_,rfl,SqL.of hl',λt1 nt1=>?_⟩;rw[Ho _ (by rw[Si];lia),<- Zb0];have S4:=ai nt1 (.lst ((y.take (UD R)).map V.int));have h4:upd H3 t1 (.lst ((y.take (UD R)).map V.int)) t1=some (.lst ((y.take (UD R)).map V.int)):=ag;generalize upd H3 t1 (.lst ((y.take (UD R)).map V.int))=H4 at S4 h4 ⊢;cbv;refine aG (SqT.of (S4 _ _ hp)) (v:=.ref l) rfl ?_;cbv;refine bH (SqL.of (S4 _ _ (S03 _ _ ha))) ?_;rw[lx];cbv;refine⟨l,_,rfl,SqL.of (S4 _ _ hl'),λt2 nt2=>?_⟩;rw[sB,<- Zaf];have S5:=ai nt2 (.lst ((y.drop (UD R)).map V.int));have h45:=S5 _ _ h4;have h5:upd H4 t2 (.lst ((y.drop (UD R)).map V.int)) t2=some (.lst ((y.drop (UD R)).map V.int)):=ag;have S05:=(S03.trans S4).trans S5;generalize upd H4 t2 (.lst ((y.drop (UD R)).map V.int))=H5 at S5 h45 h5 S05 ⊢;cbv;refine⟨t1,t2,_,_,rfl,SqL.of h45,SqL.of h5,?_⟩;have ml:min ((y.take (UD R)).map V.int).length ((y.drop (UD R)).map V.int).length=(pX y (UD R)).length:=by rw[pW ly,Si,Si,SL,Ux];lia
  have dl:=pW ly;refine jC (k1:=.L) (k2:=.L) (xs:=(y.take (UD R)).map V.int) (ys:=(y.drop (UD R)).map V.int) λD nD=>⟨λi H6=>AccZ K H5 D H6 (((pX y (UD R)).take i).map TF),by simpa using AccZ.start (Same.refl _) nD,λi H6 _ A=>⟨SqL.of (A.same _ _ h45),SqL.of (A.same _ _ h5)⟩,?_,?_⟩
  .intro i y1 y2 H6 T e1 e2 A nT us hu
   obtain⟨u0,u1,rfl⟩:∃u0 u1,us=[u0,u1]:=ex2 hu
   rw[So] at e1 e2;obtain⟨m1,f1,rfl⟩:=SA.mp e1;obtain⟨m2,f2,rfl⟩:=SA.mp e2;have ec:(pX y (UD R))[i]?=some (m1-m2):=by unfold pX;rw[T_,f1,f2]
   have li:i<(pX y (UD R)).length:=(Sn.mp ec).1;refine bu (SqT.of ag) rfl ?_;cbv;refine⟨⟨[↥m1,↥m2],rfl,rfl⟩,?_⟩;cbv;refine aH (by rw[ml];exact li) ?_;refine(A.on (ai nT _)).bG (.int (m1-m2)) (am (by rw[Si,SL];lia)) λH7 A7=>?_
   show AccZ K H5 D H7 (((pX y (UD R)).take (i+1)).map TF);rw[SK,ec,Sr];exact A7
  .intro H6 A;rw[ml,SD (Sx _)] at A;cbv;refine⟨aR,λpp np=>?_⟩;have S:=ai np (.tup [.bl false,.ref D]);refine k pp _ ((S05.trans A.same).trans S) ?_ ok;rw[eb];exact .tup ag (.cons (.bl false) (.cons (jj (S05.free A.new) (S _ _ (AccZ.ints A))) .nil))
def RV(co:qi w ts):∀r∈ts.map cS,∀c∈r,c.natAbs<=3:=λr hr c hc=>by
 have:=co.bnd r hr c hc
 have e:(2:Nat) ^ 2=4:=rfl;rw[e] at this;lia
abbrev ui(f:List Str->List Tn->Bool×List Int)(ok:List Str->List Tn->Prop)(K:Fg):Sp:=λvs H Q _=>∃(v:V) (ws:List Str) (ts:List Tn),vs=[v]/\Rz K H v (dV ws ts)/\qi (UD ws) ts/\1<=(UD ws)/\ts≠[]/\∀(p:Addr) (H':Hp),Same H H'->Rp K (λa=>H a=none) H' (.ref p) (Hm (f ws ts))->ok ws ts->Q (.ref p) H'
abbrev uy (ws:List Str) (ts:List Tn):Bool×List Int:=eF (ts.map cS) (UD ws)
abbrev vv (ws:List Str) (ts:List Tn):Bool×List Int:=vR (ts.map cS) (UD ws)
abbrev uN (ws:List Str) (ts:List Tn):Bool×List Int:=vR (gU (UD ws) (ts.map cS)) (UD ts)
abbrev gb:Fg->Sp:=ui uy λws ts=>Ew (ts.map cS) ws.length (uy ws ts)
abbrev jX:Fg->Sp:=ui vv λws ts=>HE (ts.map cS) ws.length (vv ws ts)
abbrev gf:Fg->Sp:=ui uN λws ts=>HE (gU ws.length (ts.map cS)) ts.length (uN ws ts)
abbrev fZ(K:Fg):TS:=(aA (aw (gH K) [] E0 (ac (aw (mJ K) [] E0 (ac (aa 0) ae)) (ac (aw (ga K) [] E0 (ac (bO (bz K) (ac (ar (aD K) (aa 0) (tC (.int 0))) ae)) ae)) ae))))
def q_{K:Fg}:ρ 1 (gb K) (fZ K):=by
 fail "R";obtain⟨v,ws,ts,rfl,rv,co,w1,tne,k⟩:=h;have t8:=co.le;have w5:=co.w5;have rv0:=rv;obtain⟨a,v1,v2,rfl,ha,r1,_⟩:=gA rv;obtain⟨b,xs,rfl,hb,rx⟩:=r1.bM;have lx:UD xs=UD ws:=by rw[rx.length,Si]
 rw[L2.aI hN];walk_at "t";unfold fZ;cbv;refine⟨.ref a,ws,ts,rfl,rv0,∅,λt ht=>by rw[co.fr t ht];lia,λp H1 A1=>?_⟩;cbv;refine aG (SqT.of (A1.same _ _ ha)) (v:=.ref b) rfl ?_;cbv;refine fT (SqT.of (A1.same _ _ hb)) ?_;rw[lx];cbv;refine⟨ws.length,rfl,∅,λu H2 A2=>?_⟩;cbv;refine⟨p,u,ts.map cS,ws.length,rfl,gL (JQ A1) A2.same,Bt A2,co.wide,∅,∅,by rw[Si];lia,by rw[Si];lia,RV co,λq H3 S3 r3 ok=>?_⟩;exact k q H3 ((A1.same.trans A2.same).trans S3) (r3.mono λc z=>(A1.same.trans A2.same).free z) ok
abbrev jM(K:Fg):TS:=(aA (aw (fD K) [] E0 (ac (aw (mJ K) [] E0 (ac (aa 0) ae)) (ac (aw (ga K) [] E0 (ac (bO (bz K) (ac (ar (aD K) (aa 0) (tC (.int 0))) ae)) ae)) ae))))
def yD{K:Fg}:ρ 1 (jX K) (jM K):=by
 fail "R";obtain⟨v,ws,ts,rfl,rv,co,w1,tne,k⟩:=h;have t8:=co.le;have w5:=co.w5;have rv0:=rv;obtain⟨a,v1,v2,rfl,ha,r1,_⟩:=gA rv;obtain⟨b,xs,rfl,hb,rx⟩:=r1.bM;have lx:UD xs=UD ws:=by rw[rx.length,Si]
 rw[L2.aI hN];walk_at "t";unfold jM;cbv;refine⟨.ref a,ws,ts,rfl,rv0,∅,λt ht=>by rw[co.fr t ht];lia,λp H1 A1=>?_⟩;cbv;refine aG (SqT.of (A1.same _ _ ha)) (v:=.ref b) rfl ?_;cbv;refine fT (SqT.of (A1.same _ _ hb)) ?_;rw[lx];cbv;refine⟨ws.length,rfl,∅,λu H2 A2=>?_⟩;cbv;refine⟨p,u,ts.map cS,ws.length,rfl,gL (JQ A1) A2.same,Bt A2,co.wide,∅,∅,by rw[Si];lia,by rw[Si];lia,RV co,λq H3 S3 r3 ok=>?_⟩;exact k q H3 ((A1.same.trans A2.same).trans S3) (r3.mono λc z=>(A1.same.trans A2.same).free z) ok
abbrev f7(K:Fg):TS:=(aA (aw (fD K) [] E0 (ac (aw (j4 K) [] E0 (ac (aw (mJ K) [] E0 (ac (aa 0) ae)) ae)) (ac (aw (ga K) [] E0 (ac (bO (bz K) (ac (ar (aD K) (aa 0) (tC (.int 1))) ae)) ae)) ae))))
def re{K:Fg}:ρ 1 (gf K) (f7 K):=by
 fail "R";obtain⟨v,ws,ts,rfl,rv,co,w1,tne,k⟩:=h;have t8:=co.le;have w5:=co.w5;have rv0:=rv;obtain⟨a,v1,v2,rfl,ha,_,r2⟩:=gA rv;obtain⟨b,xs,rfl,hb,rx⟩:=r2.bM;have lx:UD xs=UD ts:=by rw[rx.length,Si]
 have lR:(ts.map cS).length=UD ts:=Si _;have t0:0<UD ts:=V5.mpr tne;have cw:=Mk.Ee ws.length (ts.map cS);have cl:=Mk.xM ws.length (ts.map cS);rw[lR] at cw;rw[L2.aI hN];walk_at "t";unfold f7;cbv;refine⟨.ref a,ws,ts,rfl,rv0,∅,λt ht=>by rw[co.fr t ht];lia,λp H1 A1=>?_⟩;obtain⟨ys,hy,ry⟩:=A1.at_;cbv;refine⟨p,ys,ts.map cS,ws.length,rfl,hy,ry,co.wide,by simpa using tne,∅,∅,λc H2 A2=>?_⟩;have S2:=A1.same.trans A2.same;cbv;refine aG (SqT.of (S2 _ _ ha)) (v:=.ref b) rfl ?_;cbv;refine fT (SqT.of (S2 _ _ hb)) ?_;rw[lx];cbv;refine⟨ts.length,rfl,∅,λu H3 A3=>?_⟩;cbv;refine⟨c,u,gU ws.length (ts.map cS),ts.length,rfl,gL (Bt A2) A3.same,Bt A3,cw,t0,t8,by rw[cl];lia,by rw[cl];lia,λr hr c hc=>?_,λq H4 S4 r4 ok=>?_⟩
 .have:=Mk.Hr co.bnd r hr c hc
  have e:(2:Nat) ^ 2=4:=rfl;rw[e] at this;lia
 .exact k q H4 ((S2.trans A3.same).trans S4) (r4.mono λc z=>(S2.trans A3.same).free z) ok
open Rk Sf Rw Bo Cl
end Br
namespace Fr
def pG{b:Int}(hb:b≠0)(L:Gd.Low t b q d):q=(Vm t b).num/\d=((Vm t b).den:Int):=by
 obtain⟨pos,low,worth⟩:=L;have e:Vm t b=Vm q d:=(Rat.divInt_eq_divInt_iff hb ∅).mpr worth.symm
 have cp:Xd q.natAbs d.natAbs:=by
  unfold Gd.gd at low;unfold Xd
  have:ZbE q d=Tz q.natAbs d.natAbs:=rfl
  lia
 have m:Rat.mk' q d.natAbs ∅ cp=Vm q d:=by
  rw[Rat.mk_eq_divInt];congr 1;lia
 rw[e,<- m];exact⟨rfl,by show d=(d.natAbs:Int);lia⟩
def o5(x:Rat):Vm x.num (x.den:Int)=x:=Rat.num_divInt_den x
def Kg(x y:Rat):Vm (x.num*(y.den:Int)+y.num*(x.den:Int)) ((x.den:Int)*(y.den:Int))=x+y:=by
 have h1:(x.den:Int)≠0:=by have:=x.den_nz;lia
 have h2:(y.den:Int)≠0:=by have:=y.den_nz;lia
 rw[<- Rat.divInt_add_divInt _ _ h1 h2,o5,o5]
def Kf(x y:Rat):Vm (x.num*y.num) ((x.den:Int)*(y.den:Int))=x*y:=by
 rw[<- Rat.divInt_mul_divInt,o5,o5]
def IK(x y:Rat):(x.den:Int)*(y.den:Int)≠0:=by
 have:=x.den_nz
 have:=y.den_nz
 exact Zbz ∅ ∅
end Fr
namespace Tr
abbrev ls{α:Type}(l:List α)(f:α->Rat):Rat:=(l.map f).sum
def Iq{α:Type}(f:α->Rat):ls [] f=0:=rfl
def dW{α:Type}(a:α)(l:List α)(f:α->Rat):ls (a :: l) f=f a+ls l f:=rfl
def jy{α:Type}{l:List α}{f g:α->Rat}(h:∀x∈l,f x=g x):ls l f=ls l g:=by
 unfold ls;rw[UV h]
section
variable(fm:Nat->List Nat)
abbrev up(g:Nat->Nat)(h k:Nat):Nat->Nat:=λx=>if x=h then k else g x
abbrev T:List Nat->((Nat->Nat)->Rat)->Rat
 |[],F=>F λ_=>0
 |h :: hs,F=>ls (fm h) λk=>T hs λg=>F (up g h k)
variable{fm}
def Et:∀{hs:List Nat} {F G:(Nat->Nat)->Rat},hs.Nodup->(∀g,(∀h∈hs,g h∈fm h)->F g=G g)->T fm hs F=T fm hs G
 |[],F,G,_,e=>e _ λh hh=>by cases hh
 |h :: hs,F,G,nd,e=>jy λk hk=>Et (Uj.mp nd).2 λg hg=>e _ λx hx=>by
  unfold up;by_cases q:x=h
  .rw[if_pos q,q];exact hk
  .rw[if_neg q];exact hg x ((S_.mp hx).resolve_left q)
def RL{hs:List Nat}{F G:(Nat->Nat)->Rat}(e:∀g,F g=G g):T fm hs F=T fm hs G:=by rw[show F=G from funext e]
end
abbrev fP(f:Nat->Nat):Nat->Nat->Nat
 |0,x=>x
 |n+1,x=>f (fP f n x)
def kD(f:Nat->Nat)(a:Nat):∀(b x:Nat),fP f (b+a) x=fP f b (fP f a x)
 |0,x=>by rw[Wc];rfl
 |b+1,x=>by rw[Nat.add_right_comm];exact congrArg f (kD f a b x)
def xk{f:Nat->Nat}{L:List Nat}(hf:∀h∈L,f h∈L){x:Nat}(hx:x∈L):∀n,fP f n x∈L
 |0=>hx
 |n+1=>hf _ (xk hf hx n)
abbrev stp(s:Nat->Nat)(r:Nat):Nat->Nat:=λx=>if x=r then r else s x
abbrev All(s:Nat->Nat)(L:List Nat)(r:Nat):Prop:=∀h∈L,∃n,fP s n h=r
abbrev Tree(s:Nat->Nat)(L:List Nat)(r:Nat):Prop:=∀h∈L,fP (stp s r) (UD L) h=r
def wt(s:Nat->Nat)(r:Nat):∀n,fP (stp s r) n r=r
 |0=>rfl
 |n+1=>by
  show stp s r (fP (stp s r) n r)=r;rw[wt s r n];exact if_pos rfl
def oB{s:Nat->Nat}{r h:Nat}:∀n,(∀m,m<n->fP s m h≠r)->fP (stp s r) n h=fP s n h
 |0,_=>rfl
 |n+1,d=>by
  show stp s r (fP (stp s r) n h)=s (fP s n h);rw[oB n λm hm=>d m ∅];exact if_neg (d n ∅)
def least{P:Nat->Prop}:∀n,P n->∃m,m<=n/\P m/\∀k,k<m->¬ P k
 |n,h=>by
  induction n using VS with
  |_ n ih =>
   by_cases q:∃k,k<n/\P k
   .obtain⟨k,hk,pk⟩:=q;obtain⟨m,hm,r⟩:=ih k hk pk;exact⟨m,∅,r⟩
   .exact⟨n,Sx _,h,λk hk pk=>q ⟨k,hk,pk⟩⟩
def EN{s:Nat->Nat}{L:List Nat}(hs:∀h∈L,s h∈L)(pig:∀l:List Nat,l.Nodup->(∀x∈l,x∈L)->UD l<=UD L):Tree s L r↔All s L r:=by
 constructor
 .intro t h hh;refine Uw λno=>?_
  have:=t h hh
  rw[oB _ λm _ e=>no ⟨m,e⟩] at this;exact no ⟨_,this⟩
 .intro a h hh;obtain⟨n,hn⟩:=a h hh;obtain⟨m,_,pm,lo⟩:=least (P:=λn=>fP s n h=r) n hn;have e1:fP (stp s r) m h=r:=by rw[oB m lo];exact pm
  have nd:((SJ (m+1)).map λi=>fP s i h).Nodup:=by
   unfold ZbS;rw[ZaW];refine YW ?_ Zq;intro i j _ hj lt e;have hj:j<m+1:=Tv.mp hj;have go:∀d,fP s (d+i) h=fP s (d+j) h:=λd=>by rw[kD s i d h,kD s j d h,e]
   have:=go (m-j)
   rw[show m-j+j=m by lia,pm] at this;exact lo (m-j+i) ∅ this
  have:=pig _ nd λx hx=>by
   obtain⟨i,_,rfl⟩:=SE.mp hx;exact xk hs hh i
  rw[Si,SV] at this;rw[show (UD L)=(UD L-m)+m by lia,kD (stp s r) m,e1];exact wt s r _
section
variable(es:List (Nat×Nat))(pc:Nat->Rat)
abbrev dm(k:Nat):Nat:=(es.getD k (0,0)).1
abbrev dH(k:Nat):Nat:=(es.getD k (0,0)).2
abbrev iQ(h:Nat):List Nat:=(SJ (UD es)).filter λk=>dm es k == h
abbrev oth(L:List Nat)(r:Nat):List Nat:=L.filter λx=>x != r
abbrev cb(g:Nat->Nat):List Nat->Rat
 |[]=>1
 |h :: hs=>pc (g h)*cb g hs
open Classical in
abbrev W (L:List Nat) (r:Nat):Rat:=T (iQ es) (oth L r) λg=>if Tree (λh=>dH es (g h)) L r then cb pc g (oth L r) else 0
variable{es}{pc}
def Gy{L:List Nat}(nd:L.Nodup){i:Nat}(hi:i∈L):L.Perm (i :: oth L i):=by
 have:=List.perm_cons_erase hi
 rw[nd.erase_eq_filter] at this;exact this
def KP{i:Nat}:i∉oth L i:=λh=>by
 have:=(Tt.mp h).2
 simp at this
def rW{α:Type}{l:List α}{f:α->Rat}(h:∀x∈l,0<=f x):0<=ls l f:=by
 induction l with
 |nil=>exact Rat.le_refl
 |cons a l ih =>
  have h1:=h a Sv;have h2:=ih λx hx=>h x (Sw _ hx)
  rw[dW]
  grind
def Oi{α:Type}{l:List α}{f:α->Rat}(h:∀x∈l,0<=f x){a:α}(ha:a∈l)(p:0<f a):0<ls l f:=by
 induction l with
 |nil=>cases ha
 |cons b l ih =>
  rw[dW];have h1:=h b Sv;have h2:=rW λx hx=>h x (Sw b hx)
  rcases S_.mp ha with rfl|hb
  .grind
  .have:=ih (λx hx=>h x (Sw _ hx)) hb
   grind
def xS{fm:Nat->List Nat}:∀{hs:List Nat} {F:(Nat->Nat)->Rat},hs.Nodup->(∀g,(∀h∈hs,g h∈fm h)->0<=F g)->0<=T fm hs F
 |[],F,_,e=>e _ λh hh=>by cases hh
 |h :: hs,F,nd,e=>rW λk hk=>xS (Uj.mp nd).2 λg hg=>e _ λx hx=>by
  unfold up;by_cases q:x=h
  .rw[if_pos q,q];exact hk
  .rw[if_neg q];exact hg x ((S_.mp hx).resolve_left q)
def PJ{fm:Nat->List Nat}:∀{hs:List Nat} {F:(Nat->Nat)->Rat} {g0:Nat->Nat},hs.Nodup->(∀g,(∀h∈hs,g h∈fm h)->0<=F g)->(∀h∈hs,g0 h∈fm h)->(∀h,h∉hs->g0 h=0)->0<F g0->0<T fm hs F
 |[],F,g0,_,_,_,z,p=>by
  show 0<F λ_=>0
  rw[show(λ_=>0)=g0 from funext λx=>(z x λh=>by cases h).symm];exact p
 |h :: hs,F,g0,nd,e,v,z,p=>by
  obtain⟨n1,n2⟩:=Uj.mp nd
  have ok:∀k∈fm h,∀g,(∀x∈hs,g x∈fm x)->0<=F (up g h k):=λk hk g hg=>e _ λx hx=>by
   unfold up;by_cases q:x=h
   .rw[if_pos q,q];exact hk
   .rw[if_neg q];exact hg x ((S_.mp hx).resolve_left q)
  refine Oi (λk hk=>xS n2 (ok k hk)) (v h Sv) ?_;refine PJ (g0:=λx=>if x=h then 0 else g0 x) n2 (ok _ (v h Sv)) (λx hx=>?_) (λx hx=>?_) ?_
  .show(if x=h then 0 else g0 x)∈fm x;have ne:x≠h:=λq=>n1 (by rw[<- q];exact hx)
   rw[if_neg ne];exact v x (Sw _ hx)
  .show(if x=h then 0 else g0 x)=0;by_cases q:x=h
   .rw[if_pos q]
   .rw[if_neg q];exact z x λm=>hx ((S_.mp m).resolve_left q)
  .rw[show up (λx=>if x=h then 0 else g0 x) h (g0 h)=g0 from funext λx=>?_]
   .exact p
   .unfold up;by_cases q:x=h
    .rw[if_pos q,q]
    .rw[if_neg q];exact if_neg q
def il{g:Nat->Nat}:∀{l:List Nat},(∀h∈l,0<pc (g h))->0<cb pc g l
 |[],_=>by show(0:Rat)<1;decide
 |h :: l,a=>Rat.mul_pos (a h Sv) (il λx hx=>a x (Sw _ hx))
abbrev Pn(es:List (Nat×Nat)):Nat->Nat->Nat->Prop
 |0,a,b=>a=b
 |n+1,a,b=>∃k,k<(UD es)/\dm es k=a/\Pn es n (dH es k) b
def Pn.snoc{es:List (Nat×Nat)}{k:Nat}(hk:k<UD es):∀{n a:Nat},Pn es n a (dm es k)->Pn es (n+1) a (dH es k)
 |0,_,h=>⟨k,hk,h.symm,rfl⟩
 |_+1,_,⟨m,hm,e,h⟩=>⟨m,hm,e,Pn.snoc hk h⟩
open Classical in
def RK{L:List Nat}(nd:L.Nodup){r:Nat}(hr:r∈L)(cl:∀k,k<UD es->(dm es k∈L↔dH es k∈L))(pig:∀l:List Nat,l.Nodup->(∀x∈l,x∈L)->UD l<=UD L)(pp:∀k,k<UD es->0<pc k)(bk:∀h∈L,∃n,Pn es n h r):0<W es pc L r:=by
 have ndo:(oth L r).Nodup:=nd.filter _;have mo:∀{h},h∈oth L r↔h∈L/\h≠r:=λ{h}=>by unfold oth;rw[Tt];simp
 have pos:∀g:Nat->Nat,(∀h∈oth L r,g h∈iQ es h)->0<cb pc g (oth L r):=λg hg=>il λh hh=>pp _ (Tv.mp (Tt.mp (hg h hh)).1)
 have near:∀h,h∈oth L r->∃k,k∈iQ es h/\∀n,(Pn es n h r/\∀m,m<n->¬ Pn es m h r)->∃m,m<n/\Pn es m (dH es k) r:=by
  intro h hh;obtain⟨hL,ne⟩:=mo.mp hh;obtain⟨n0,p0⟩:=bk h hL;obtain⟨n,_,pn,lo⟩:=least (P:=λn=>Pn es n h r) n0 p0;cases n with
  |zero=>exact absurd pn ne
  |succ n =>
   obtain⟨k,hk,e,p⟩:=pn;refine⟨k,Tt.mpr ⟨Tv.mpr hk,by simpa using e⟩,λn' ⟨q1,q2⟩=>⟨n,?_,p⟩⟩;rcases Vf n n' with z|z
   .exact z
   .exact absurd q1 (lo n' ∅)
 let g0:Nat->Nat:=λh=>if q:h∈oth L r then (near h q).choose else 0
 have v:∀h∈oth L r,g0 h∈iQ es h:=λh hh=>by
  show(if q:h∈oth L r then (near h q).choose else 0)∈_;rw[dif_pos hh];exact(near h hh).choose_spec.1
 have step:∀h∈oth L r,∀n,(Pn es n h r/\∀m,m<n->¬ Pn es m h r)->∃m,m<n/\Pn es m (dH es (g0 h)) r:=λh hh=>by
  show ∀n,_->∃m,m<n/\Pn es m (dH es (if q:h∈oth L r then (near h q).choose else 0)) r;rw[dif_pos hh];exact(near h hh).choose_spec.2
 have inL:∀h∈oth L r,dH es (g0 h)∈L:=λh hh=>by
  obtain⟨m1,m2⟩:=Tt.mp (v h hh);exact(cl _ (Tv.mp m1)).mp (by rw[show dm es (g0 h)=h by simpa using m2];exact(mo.mp hh).1)
 refine PJ (g0:=g0) ndo (λg hg=>?_) v (λh hh=>?_) ?_
 .split
  .exact Rat.le_of_lt (pos g hg)
  .exact Rat.le_refl
 .show(if q:h∈oth L r then (near h q).choose else 0)=0;rw[dif_neg hh]
 .have all:∀n h,h∈L->Pn es n h r->∃m,fP (stp (λh=>dH es (g0 h)) r) m h=r:=by
   intro n
   induction n using VS with
   |_ n ih =>
    intro h hL p;by_cases e:h=r
    .exact⟨0,e⟩
    .obtain⟨m,hm,pm,lo⟩:=least (P:=λn=>Pn es n h r) n p;have hh:=mo.mpr ⟨hL,e⟩;obtain⟨q,hq,pq⟩:=step h hh m ⟨pm,lo⟩;obtain⟨t,ht⟩:=ih q ∅ _ (inL h hh) pq;refine⟨t+1,?_⟩;rw[kD (stp (λh=>dH es (g0 h)) r) 1 t h,show fP (stp (λh=>dH es (g0 h)) r) 1 h=dH es (g0 h) from if_neg e];exact ht
  have tr:Tree (stp (λh=>dH es (g0 h)) r) L r:=(EN (s:=stp (λh=>dH es (g0 h)) r) (λh hh=>by
   unfold stp
   by_cases e:h=r
   .rw[if_pos e];exact hr
   .rw[if_neg e];exact inL h (mo.mpr ⟨hh,e⟩)) pig).mpr λh hh=>by
    obtain⟨n,pn⟩:=bk h hh;exact all n h hh pn
  have tr2:Tree (λh=>dH es (g0 h)) L r:=λh hh=>by
   have:=tr h hh
   rw[show stp (stp (λh=>dH es (g0 h)) r) r=stp (λh=>dH es (g0 h)) r from funext λx=>by
    unfold stp
    by_cases e:x=r
    .rw[if_pos e,if_pos e]
    .rw[if_neg e,if_neg e]] at this
   exact this
  rw[if_pos tr2];exact pos g0 v
end
open PySem L2 Fr G1 Sm Vs G2 Rk Sz Sf Rw Ti
open PySem.W (Dat kqdOk)
abbrev dQ(x:Rat):Dat:=dI [x.num,(x.den:Int)]
abbrev QV(K:Fg)(H:Hp)(v:V)(x:Rat):Prop:=∃a:Addr,v=.ref a/\SqT K H a [.int x.num,.int (x.den:Int)]
def QV.of{K:Fg}(h:Rz K H v (dQ x)):QV K H v x:=by
 obtain⟨a,e,ha⟩:=dG h;exact⟨a,e,SqT.of ha⟩
abbrev Bq(n:Nat)(x:Rat):Prop:=x.num.natAbs<2 ^ n/\x.den<2 ^ n
abbrev oM(K:Fg):Sp:=λvs H Q _=>∃t b:Int,vs=[.int t,.int b]/\b≠0/\t.natAbs<2 ^ 8000/\b.natAbs<2 ^ 8000/\∀(p:Addr) (H':Hp),Same H H'->Rz K H' (.ref p) (dQ (Vm t b))->Q (.ref p) H'
nonrec def Ao(K:Fg):TS:=(ao (ay (aw oP [] E0 (ac (aa 0) (ac (aa 1) ae))) (ak 2))
 (ao (a4 (aK (ar yJ (aa 1) (tC (.int 0))))
 (ay (Az (rU λi=>.int (-i)) (aa 2)) (ak 2))
 be)
 (aA (bC (ac (ar jb (aa 0) (aa 2)) (ac (ar jb (aa 1) (aa 2)) ae))))))
abbrev t7(K:Fg):TS:=(ao (a4 (HM (oz (tB (aw jU [] E0 (ac (aa 0) ae)))) (oz (tB (aw jU [] E0 (ac (aa 1) ae)))))
 qz
 be)
 (ao (a4 (aK (ar ja (aa 1) (tC (.int 0))))
 qz
 be)
 (Ao K)))
def F6{K:Fg}:ρ 3 (oM K) (t7 K):=by
 fail "R";obtain⟨t,b,rfl,b0,ht,hb,k⟩:=h;rw[L2.aI hN];walk_at "t";unfold t7;have p2:(2:Nat) ^ 8000<2 ^ 9000:=UA (by decide) (by decide);generalize (2:Nat) ^ 8000=P at ht hb p2;have gp:=Gd.mS (a:=t) b0;have gl:=Gd.LP (a:=t) b0
 have fin:∀d:Int,(d=Gd.gd t b/\0<b\/d = - Gd.gd t b/\b<0)->aA (bC (ac (ar jb (aa 0) (aa 2)) (ac (ar jb (aa 1) (aa 2)) ae))) (ends Q) [↥t,↥b,↥d] H:=by
  intro d hd;obtain⟨e1,e2⟩:=pG b0 (Gd.CO b0 hd);have dn:d≠0:=by rcases hd with⟨z,_⟩|⟨z,_⟩ <;> lia
  have dw:d.natAbs<2 ^ 9000:=by
   refine Tk ?_ (Ut hb p2);rcases hd with⟨z,_⟩|⟨z,_⟩ <;> lia
  cbv;refine⟨_,_,rfl,rfl,⟨dn,dw⟩,?_⟩;cbv;refine⟨_,_,rfl,rfl,⟨dn,dw⟩,?_⟩;cbv;refine⟨aR,λp np=>?_⟩;show Q (.ref p) (upd H p (.tup [.int (t.fdiv d),.int (b.fdiv d)]));rw[e1,e2];exact k p _ (ai np _) (.tup ag (RpL.ints [_,_]))
 cbv;refine⟨t,rfl,?_⟩;cbv;refine⟨b,rfl,?_⟩;cbv;refine aZ (λz=>absurd z b0) (λ_=>?_);cbv;refine⟨t,b,rfl,?_⟩;cbv;refine aZ (λc=>?_) (λc=>?_)
 .obtain h2:=fin _ (.inr ⟨rfl,c⟩);refine OT ?_;fail "1";refine yX (i:=2) rfl ?_;refine OA ?_;refine Dg ?_;exact h2
 .exact fin _ (.inl ⟨rfl,∅⟩)
abbrev um(K:Fg):Sp:=λvs H Q _=>∃(v u:V) (x y:Rat),vs=[v,u]/\QV K H v x/\QV K H u y/\Bq 3900 x/\Bq 3900 y/\∀(p:Addr) (H':Hp),Same H H'->Rz K H' (.ref p) (dQ (x+y))->Q (.ref p) H'
abbrev oE(K:Fg):Sp:=λvs H Q _=>∃(v u:V) (x y:Rat),vs=[v,u]/\QV K H v x/\QV K H u y/\Bq 3900 x/\Bq 3900 y/\∀(p:Addr) (H':Hp),Same H H'->Rz K H' (.ref p) (dQ (x*y))->Q (.ref p) H'
def Bq.mul{x y:Int}(hx:x.natAbs<2 ^ 3900)(hy:y.natAbs<2 ^ 3900):(x*y).natAbs<2 ^ 7800:=by
 rw[Ud]
 have:=V9 hx hy
 rwa [<- Xc] at this
def pw_lt{a b:Nat}(h:a<b):(2:Nat) ^ a<2 ^ b:=UA (by decide) h
def Bq.w{x:Int}(h:x.natAbs<2 ^ 3900):x.natAbs<2 ^ 20000:=Ut h (pw_lt (by decide))
def Bq.d(h:Bq 3900 x):((x.den:Nat):Int).natAbs<2 ^ 3900:=h.2
def Bq.sum{x y:Int}(hx:x.natAbs<2 ^ 7800)(hy:y.natAbs<2 ^ 7800):(x+y).natAbs<2 ^ 8000:=by
 refine Tf (Tk (Xq x y) (ZW hx hy)) ?_;rw[<- ZU,UE,<- Uy];exact Tc (by decide) (by decide)
abbrev tO(K:Fg):TS:=(aA (aw (oM K) [] E0 (ac (ar bc (ar ik (ar (aD K) (aa 0) (tC (.int 0))) (ar (aD K) (aa 1) (tC (.int 1)))) (ar ik (ar (aD K) (aa 1) (tC (.int 0))) (ar (aD K) (aa 0) (tC (.int 1))))) (ac (ar ik (ar (aD K) (aa 0) (tC (.int 1))) (ar (aD K) (aa 1) (tC (.int 1)))) ae))))
def FU{K:Fg}:ρ 2 (um K) (tO K):=by
 fail "R";obtain⟨v,u,x,y,rfl,rv,ru,bx,by_,k⟩:=h;obtain⟨a,rfl,ha⟩:=rv;obtain⟨b,rfl,hb⟩:=ru;rw[L2.aI hN];walk_at "t";unfold tO;cbv;refine aG ha (v:=.int x.num) rfl ?_;cbv;refine aG hb (v:=.int (y.den:Int)) rfl ?_;refine⟨_,_,rfl,rfl,⟨Bq.w bx.1,Bq.w by_.d⟩,?_⟩;cbv;refine aG hb (v:=.int y.num) rfl ?_;cbv;refine aG ha (v:=.int (x.den:Int)) rfl ?_;refine⟨_,_,rfl,rfl,⟨Bq.w by_.1,Bq.w bx.d⟩,?_⟩;cbv;refine aG ha (v:=.int (x.den:Int)) rfl ?_;cbv;refine aG hb (v:=.int (y.den:Int)) rfl ?_;refine⟨_,_,rfl,rfl,⟨Bq.w bx.d,Bq.w by_.d⟩,?_⟩;cbv;refine⟨_,_,rfl,IK x y,Bq.sum (Bq.mul bx.1 by_.d) (Bq.mul by_.1 bx.d),Ut (Bq.mul bx.d by_.d) (pw_lt (by decide)),λp H' S r=>?_⟩;rw[Kg] at r;exact k p H' S r
abbrev nQ(K:Fg):TS:=(aA (aw (oM K) [] E0 (ac (ar ik (ar (aD K) (aa 0) (tC (.int 0))) (ar (aD K) (aa 1) (tC (.int 0)))) (ac (ar ik (ar (aD K) (aa 0) (tC (.int 1))) (ar (aD K) (aa 1) (tC (.int 1)))) ae))))
def Bx{K:Fg}:ρ 2 (oE K) (nQ K):=by
 fail "R";obtain⟨v,u,x,y,rfl,rv,ru,bx,by_,k⟩:=h;obtain⟨a,rfl,ha⟩:=rv;obtain⟨b,rfl,hb⟩:=ru;rw[L2.aI hN];walk_at "t";unfold nQ;cbv;refine aG ha (v:=.int x.num) rfl ?_;cbv;refine aG hb (v:=.int y.num) rfl ?_;refine⟨_,_,rfl,rfl,⟨Bq.w bx.1,Bq.w by_.1⟩,?_⟩;cbv;refine aG ha (v:=.int (x.den:Int)) rfl ?_;cbv;refine aG hb (v:=.int (y.den:Int)) rfl ?_;refine⟨_,_,rfl,rfl,⟨Bq.w bx.d,Bq.w by_.d⟩,?_⟩;cbv;refine⟨_,_,rfl,IK x y,Ut (Bq.mul bx.1 by_.1) (pw_lt (by decide)),Ut (Bq.mul bx.d by_.d) (pw_lt (by decide)),λp H' S r=>?_⟩;rw[Kf] at r;exact k p H' S r
def Acc.ext{K:Fg}(A:Acc K H0 l H ds)(hb:H b=some (.lst zs))(rz:RpL K (λa=>H0 a=none/\a≠l) H zs es)(n:UD ds+UD es<=1000){Q:VK}(h:∀H2,Acc K H0 l H2 (ds++es)->Q .non H2):eV (.ref l) [.ref b] H Q:=by
 obtain⟨xs,h1,h2⟩:=A.at_
 have lz:UD xs+UD zs<=sizeLine:=by
  have:=am n
  rw[h2.length,rz.length];lia
 refine⟨l,b,xs,zs,rfl,rfl,h1,hb,lz,h _ ⟨λc o q=>?_,A.new,_,L2.ag,?_⟩⟩
 .rw[L2.aB (aq q A.new)];exact A.same c o q
 .exact(h2.append rz).agr (Agr.dD h1 λw=>w.2 rfl)
abbrev AW(K:Fg):Sp:=λvs H Q _=>∃(p:Addr) (xs:List V) (es:List (Nat×Nat)) (h:Nat),vs=[.ref p,.int (h:Int)]/\H p=some (.lst xs)/\RzL K H xs (es.map dP)/\es.length<=100/\∀(q:Addr) (H':Hp),AccZ K H q H' ((iQ es h).map dN)->Q (.ref q) H'
def DM{es:List (Nat×Nat)}{j:Nat}{e:Nat×Nat}(h:es[j]?=some e):dm es j=e.1/\dH es j=e.2:=by
 unfold dm dH;rw[Sj,h];exact⟨rfl,rfl⟩
abbrev An(K:Fg):TS:=(aA (d5 (iw K (ac (aa 0) ae)) 2 (cf K 2 (aS (ak 0) (aS (ak 1) cj))) (aK (ar ja (ar (aD K) (aa 1) (tC (.int 0))) (aa 3))) (aa 0)))
def J8{K:Fg}:ρ 2 (AW K) (An K):=by
 fail "R";obtain⟨p,xs,es,h,rfl,hp,rx,le,k⟩:=h;rw[L2.aI hN];walk_at "t";have lx:UD xs=UD es:=by rw[rx.length,Si]
 unfold An;cbv;refine⟨p,xs,rfl,SqL.of hp,?_⟩;refine mW (xs:=xs) λD nD=>⟨λj H2=>AccZ K H D H2 (((SJ j).filter λk=>dm es k == h).map dN),AccZ.start (Same.refl _) nD,λj H2 _ A=>SqL.of (A.same _ _ hp),?_,?_⟩
 .intro j x H2 T hx A nT us hu
  obtain⟨u0,u1,rfl⟩:∃u0 u1,us=[u0,u1]:=ex2 hu
  have lj:=(Sn.mp hx).1;obtain⟨d,g1,g2⟩:=rx.get hx;rw[So] at g1;obtain⟨e,he,rfl⟩:=SA.mp g1;obtain⟨f1,_⟩:=DM he;have A2:=A.on (ai nT (.tup [.int (j:Int),x]));have hT:upd H2 T (.tup [.int (j:Int),x]) T=some (.tup [.int (j:Int),x]):=ag;generalize upd H2 T (.tup [.int (j:Int),x])=H3 at A2 hT ⊢;obtain⟨pb,rfl,hpb⟩:=vM (g2.same A2.same);have lr:((SJ j).filter λk=>dm es k == h).length<=100:=Ta (Ua _ _) (by rw[SV];lia);have er:(SJ (j+1)).filter (λk=>dm es k == h)=(SJ j).filter (λk=>dm es k == h)++[j].filter λk=>dm es k == h:=by rw[U5,UP]
  refine bu (SqT.of hT) rfl ?_;cbv;refine⟨⟨[↥(j:Int),⇑pb],rfl,rfl⟩,?_⟩;cbv;refine aG (SqT.of hpb) (v:=.int (e.1:Int)) rfl ?_;cbv;refine aZ (λc=>?_) (λc=>?_)
  .have c':dm es j=h:=by lia
   cbv;refine aH lj ?_;refine A2.bG (d:=dN j) (.int _) (am (by rw[Si];lia)) λH4 A4=>?_
   show AccZ K H D H4 (((SJ (j+1)).filter λk=>dm es k == h).map dN);rw[er,Um (by simpa using c'),Sr];exact A4
  .have c' : ¬ dm es j=h:=by lia
   refine dO lj ?_;show AccZ K H D H3 (((SJ (j+1)).filter λk=>dm es k == h).map dN);rw[er,Uf (by simpa using c')];simpa using A2
 .intro H2 A;rw[lx] at A;exact k D H2 A
abbrev kn(es:List (Nat×Nat))(acc:List (List Nat))(h:Nat):List (List Nat):=acc.flatMap λp=>(iQ es h).map λk=>p++[k]
abbrev pk(es:List (Nat×Nat))(hs:List Nat):List (List Nat):=hs.foldl (kn es) [[]]
abbrev IM(p:List Nat):Dat:=dL (ni p)
abbrev uq(K:Fg):Sp:=λvs H Q _=>∃(p b:Addr) (xs:List V) (es:List (Nat×Nat)) (hs:List Nat),vs=[.ref p,.ref b]/\H p=some (.lst xs)/\RzL K H xs (es.map dP)/\es.length<=100/\H b=some (.lst ((ni hs).map V.int))/\hs.length<=100/\(∀i,(pk es (hs.take i)).length<=900)/\∀(q:Addr) (H':Hp),Acc K H q H' ((pk es hs).map IM)->Q (.ref q) H'
def B3{hs:List Nat}{i h:Nat}(e:hs[i]?=some h):pk es (hs.take (i+1))=kn es (pk es (hs.take i)) h:=by
 unfold pk;rw[SK,e,UJ];rfl
def Ic{es:List (Nat×Nat)}:∀{hs:List Nat} {acc:List (List Nat)} {n:Nat},(∀p∈acc,UD p=n)->∀p∈hs.foldl (kn es) acc,UD p=n+UD hs
 |[],_,_,h,p,hp=>h p hp
 |x :: hs,acc,n,h,p,hp=>by
  have:=Ic (hs:=hs) (acc:=kn es acc x) (n:=n+1) (λq hq=>by
   obtain⟨a,ha,hq⟩:=Zbg.mp hq
   obtain⟨k,_,rfl⟩:=SE.mp hq
   rw[SC,h a ha]
   rfl) p hp
  rw[this,Tu];lia
nonrec def zY(K:Fg):TS:=(ao (bo (bY K (aa 2)) (ak 5)
 (bF (dJ K "list" eV (aa 4) (ac (ck (bY K (aw (AW K) [] E0 (ac (aa 0) (ac (aa 3) ae)))) (ar lT (aa 6) (bK (ac (aa 0) ae)))) ae))))
 (ay (aa 4) (ak 2)))
abbrev tQ(K:Fg):TS:=(ao (ay (bK (ac (bK ae) ae)) (ak 2))
 (ao (bo (bY K (aa 1)) (ak 3)
 (ao (ay (bK ae) (ak 4))
 (zY K)))
 (aA (aa 2))))
def FW{K:Fg}:ρ 6 (uq K) (tQ K):=by
 fail "R";obtain⟨p,b,xs,es,hs,rfl,hp,rx,le,hb,lh,few,k⟩:=h;rw[L2.aI hN];walk_at "t";unfold tQ;cbv;refine⟨by decide,λl0 n0=>?_⟩;have S0:=ai n0 (.lst []);have h0:upd H l0 (.lst []) l0=some (.lst (([]:List Int).map V.int)):=ag;generalize upd H l0 (.lst [])=H0 at S0 h0 ⊢;cbv;refine⟨cT,λl1 n1=>?_⟩;have S1:=ai n1 (.lst [.ref l0]);have A1:Acc K H l1 (upd H0 l1 (.lst [.ref l0])) ((pk es (hs.take 0)).map IM):=⟨S0.trans S1,S0.free n1,_,ag,.cons (jj ⟨n0,aq h0 n1⟩ (S1 _ _ h0)) .nil⟩
 generalize upd H0 l1 (.lst [.ref l0])=H1 at A1 ⊢;clear S1 S0 h0;cbv;refine fO (SqL.of (A1.same _ _ hb)) ?_;refine bg (xs:=(ni hs).map V.int) (λi σ H2=>∃(t:Addr) (u3 u4 u5:Option V),σ=[⇑p,⇑b,⇑t,u3,u4,u5]/\Acc K H t H2 ((pk es (hs.take i)).map IM)) ⟨l1,none,none,none,rfl,A1⟩ (by rintro i σ H2 _ ⟨_,_,_,_,_,A⟩;exact SqL.of (A.same _ _ hb)) ?_ ?_
 .rintro i x σ H2 hx ⟨t,u3,u4,u5,rfl,A⟩
  obtain⟨h,eh,rfl⟩:∃h,hs[i]?=some h/\x=.int (h:Int):=by
   unfold ni at hx;rw[So,So] at hx;cases e:hs[i]? with
   |none=>rw[e] at hx;cases hx
   |some h=>rw[e] at hx;exact⟨h,rfl,(SU hx).symm⟩
  have fw:=few (i+1);rw[B3 eh] at fw
  have ln:∀q∈pk es (hs.take i),UD q<=100:=λq hq=>by
   have:=Ic (acc:=[[]]) (n:=0) (λp hp=>by rw[SO.mp hp];rfl) q hq
   rw[this,SL];lia
  obtain⟨ts,ht,rt⟩:=A.at_;generalize hP:pk es (hs.take i)=P at A rt fw ln;cbv;refine⟨by decide,λl nl=>?_⟩;have B0:Acc K H2 l (upd H2 l (.lst [])) ((kn es (P.take 0) h).map IM):=Acc.start nl;generalize upd H2 l (.lst [])=H3 at B0 ⊢;cbv;refine fO (SqL.of (B0.same _ _ ht)) ?_;refine bg (xs:=ts) (λj σ H4=>∃u5:Option V,σ=[⇑p,⇑b,⇑t,↥(h:Int),⇑l,u5]/\Acc K H2 l H4 ((kn es (P.take j) h).map IM)) ⟨u5,rfl,B0⟩ (by rintro j σ H4 _ ⟨_,_,B⟩;exact SqL.of (B.same _ _ ht)) ?_ ?_
  .rintro j y σ H4 hy ⟨u5,rfl,B⟩;have lj:=(Sn.mp hy).1;obtain⟨d,g1,g2⟩:=rt.get hy;rw[So] at g1;obtain⟨q,hq,rfl⟩:=SA.mp g1;obtain⟨c,rfl,_,hc⟩:=jk g2;have lq:=ln q (Sq hq)
   have ej:kn es (P.take (j+1)) h=kn es (P.take j) h++(iQ es h).map λk=>q++[k]:=by
    unfold kn;rw[SK,hq,WP];simp
   have e2:kn es P h=kn es (P.take (j+1)) h++kn es (P.drop (j+1)) h:=by unfold kn;rw[<- WP,Xx]
   have fj:(kn es (P.take (j+1)) h).length<=900:=by
    rw[e2,SC] at fw;lia
   rw[ej,SC,Si] at fj;cbv;refine⟨B.ty,?_⟩;cbv;refine⟨p,xs,es,h,rfl,B.same _ _ (A.same _ _ hp),rx.same (A.same.trans B.same),le,λr H5 A5=>?_⟩;have hr:H5 r=some (.lst ((ni (iQ es h)).map V.int)):=AccZ.ints (by unfold ni;rw[TY];exact A5);have lf:((ni (iQ es h)).map V.int).length=(iQ es h).length:=by unfold ni;rw[Si,Si]
   refine mn (SqL.of hr) ?_;refine bZ (xs:=(ni (iQ es h)).map V.int) λE nE=>⟨λm H6=>Acc K H5 E H6 ((((iQ es h).take m).map λk=>q++[k]).map IM),by simpa using Acc.start nE,λm H6 _ C=>SqL.of (C.same _ _ hr),?_,?_⟩
   .intro m z H6 hz C;have lm:=(Sn.mp hz).1
    obtain⟨n,en,rfl⟩:∃n,(iQ es h)[m]?=some n/\z=.int (n:Int):=by
     unfold ni at hz;rw[So,So] at hz;cases e:(iQ es h)[m]? with
     |none=>rw[e] at hz;cases hz
     |some n=>rw[e] at hz;exact⟨n,rfl,(SU hz).symm⟩
    have hc6:=C.same _ _ (A5.same _ _ (B.same _ _ hc));cbv;refine⟨cT,λl2 n2=>?_⟩;have S7:=ai n2 (.lst [.int (n:Int)]);have h7:upd H6 l2 (.lst [.int (n:Int)]) l2=some (.lst [.int (n:Int)]):=ag;have hc7:=S7 _ _ hc6;generalize upd H6 l2 (.lst [.int (n:Int)])=H7 at S7 h7 hc7 ⊢;refine⟨c,l2,_,_,rfl,rfl,hc7,h7,by rw[Si,UG];unfold ni;rw[Si];show (UD q)+1<=_;lia,λl3 n3=>?_⟩;have S8:=S7.trans (ai n3 (.lst ((ni q).map V.int++[.int (n:Int)])));have h8:upd H7 l3 (.lst ((ni q).map V.int++[.int (n:Int)])) l3=some (.lst ((ni (q++[n])).map V.int)):=by unfold ni;rw[Sr,Sr];exact ag
    have n36:=S7.free n3;generalize upd H7 l3 (.lst ((ni q).map V.int++[.int (n:Int)]))=H8 at S8 h8 ⊢;refine aH lm ?_;refine C.bG S8 (d:=IM (q++[n])) (jj n36 h8) (am (by rw[Si,Si,SL];lia)) λH9 C9=>?_
    show Acc K H5 E H9 ((((iQ es h).take (m+1)).map λk=>q++[k]).map IM);rw[SK,en,Sr,Sr];exact C9
   .intro H6 C;rw[lf,SD (Sx _)] at C;obtain⟨zs,hz,rz⟩:=C.at_;have B6:=(B.on A5.same).on C.same
    have lB:H4 l≠none:=by
     obtain⟨ys,h1,_⟩:=B.at_;rw[h1];exact λz=>by cases z
    cbv;refine Acc.ext B6 hz (rz.mono λa z=>⟨B.same.free (A5.same.free z.1),λe=>lB (by rw[<- e];exact A5.same.free z.1)⟩) (by rw[Si,Si,Si];lia) λH7 B7=>?_
    refine⟨_,rfl,?_⟩;rw[ej,Sr];exact B7
  .rintro σ H4 ⟨u5,rfl,B⟩;have lt:UD ts=UD P:=by rw[rt.length,Si]
   rw[lt,SD (Sx _)] at B;cbv;refine⟨l,_,_,_,rfl,?_⟩;rw[B3 eh,hP];obtain⟨zs,hz,rz⟩:=B.at_;exact⟨A.same.trans B.same,A.same.free B.new,zs,hz,rz.mono λ_ z=>⟨A.same.free z.1,z.2⟩⟩
 .rintro σ H2 ⟨t,u3,u4,u5,rfl,A⟩;rw[SD (by unfold ni;rw[Si,Si];exact Sx _)] at A;cbv;exact k t H2 A
def HB{K:Fg}(h:SqT K H a xs)(S:Same H H'):SqT K H' a xs:=by
 rcases h with(h|⟨o,h⟩)|h
 .exact .inl (.inl (S _ _ h))
 .exact .inl (.inr ⟨o,S _ _ h⟩)
 .exact .inr h
def QV.same{K:Fg}(h:QV K H v x)(S:Same H H'):QV K H' v x:=by
 obtain⟨a,e,ha⟩:=h;exact⟨a,e,HB ha S⟩
def rR{hs:List Nat}{i:Nat}{x:V}(hx:((ni hs).map V.int)[i]?=some x):∃h,hs[i]?=some h/\x=.int (h:Int):=by
 unfold ni at hx;rw[So,So] at hx;cases e:hs[i]? with
 |none=>rw[e] at hx;cases hx
 |some h=>rw[e] at hx;exact⟨h,rfl,(SU hx).symm⟩
def rQ(hs:List Nat):((ni hs).map V.int).length=UD hs:=by unfold ni;rw[Si,Si]
abbrev kd(ps:List (Nat×Nat)):List (a9×V):=ps.map λq=>((.inl (q.1:Int):a9),V.int (q.2:Int))
abbrev lk(ps:List (Nat×Nat))(h:Nat):Nat:=((ps.find? λq=>q.1 == h).map (·.2)).getD 0
def C_:∀(ps:List (Nat×Nat)) (h:Nat),bJ (kd ps) (.inl (h:Int))=(ps.find? λq=>q.1 == h).map λq=>V.int (q.2:Int)
 |[],h=>rfl
 |q :: ps,h=>by
  show bJ (((.inl (q.1:Int):a9),V.int (q.2:Int)) :: kd ps) (.inl (h:Int))=_;rw[Vi];by_cases e:q.1=h
  .rw[bB (by rw[e]),show(q.1 == h)=true by simpa using e];rfl
  .rw[bp (λz=>e (by have:=W8 z;lia)),show(q.1 == h)=false by simpa using e];exact C_ ps h
def QM{ps:List (Nat×Nat)}{h:Nat}(m:h∈ps.map (·.1)):bJ (kd ps) (.inl (h:Int))=↥(lk ps h:Int):=by
 rw[C_];unfold lk;cases e:ps.find? λq=>q.1 == h with
 |none =>
  obtain⟨q,hq,e2⟩:=SE.mp m
  have:=Yz.mp e q hq
  simp[e2] at this
 |some q=>rfl
def Ot{ps:List (Nat×Nat)}{a b:Nat}(n:a∉ps.map (·.1)):cA (kd ps) (.inl (a:Int)) (.int (b:Int))=kd (ps++[(a,b)]):=by
 have z:bJ (kd ps) (.inl (a:Int))=none:=by
  rw[C_,Yz.mpr]
  .rfl
  .intro q hq e;exact n (SE.mpr ⟨q,hq,by simpa using e⟩)
 unfold cA;rw[fC,z];show kd ps++[_]=_;unfold kd;rw[Sr];rfl
abbrev gM(es:List (Nat×Nat))(ks:List Nat)(r:Nat):List (Nat×Nat):=(r,r) :: ks.map λk=>(dm es k,dH es k)
abbrev TD(ps:List (Nat×Nat))(r:Nat):Prop:=∀q∈ps,fP (lk ps) (UD ps) q.1=r
abbrev AQ(K:Fg):Sp:=λvs H Q _=>∃(p b:Addr) (xs:List V) (es:List (Nat×Nat)) (ks:List Nat) (r:Nat),vs=[.ref p,.ref b,.int (r:Int)]/\H p=some (.lst xs)/\RzL K H xs (es.map dP)/\H b=some (.lst ((ni ks).map V.int))/\ks.length<=100/\(∀k∈ks,k<UD es)/\((gM es ks r).map (·.1)).Nodup/\(∀q∈gM es ks r,q.2∈(gM es ks r).map (·.1)) /\
 (TD (gM es ks r) r->∀H',Same H H'->Q (.bl true) H')/\(¬ TD (gM es ks r) r->∀H',Same H H'->Q (.bl false) H')
def QJ{ps:List (Nat×Nat)}(cl:∀q∈ps,q.2∈ps.map (·.1)){h:Nat}(m:h∈ps.map (·.1)):lk ps h∈ps.map (·.1):=by
 unfold lk;cases e:ps.find? λq=>q.1 == h with
 |none =>
  obtain⟨q,hq,e2⟩:=SE.mp m
  have:=Yz.mp e q hq
  simp[e2] at this
 |some q=>exact cl q (List.mem_of_find?_eq_some e)
nonrec def E4(K:Fg):TS:=(ao (bo (bY K (bO BN (ac (aa 3) ae))) (ak 5)
 (ao (ay (aa 5) (ak 6))
 (ao (bo (cZ (ac (bO M5 (ac (aa 3) ae)) ae)) (ak 7)
 (ay (uc (aa 3) (aa 6)) (ak 6)))
 (a4 (aK (ar HV (aa 6) (aa 2)))
 (aA (tC (.bl false)))
 be))))
 (aA (tC (.bl true))))
abbrev zO(K:Fg):TS:=(ao (ay (Ju [((aa 2),(aa 2))]) (ak 3))
 (ao (bo (bY K (aa 1)) (ak 4)
 (qW (aa 3) (ar (aD K) (ar (bP K) (aa 0) (aa 4)) (tC (.int 0))) (ar (aD K) (ar (bP K) (aa 0) (aa 4)) (tC (.int 1)))))
 (E4 K)))
def JW{K:Fg}:ρ 8 (AQ K) (zO K):=by
 fail "R";obtain⟨p,b,xs,es,ks,r,rfl,hp,rx,hb,lk_,lt,nd,cl,kyes,kno⟩:=h;rw[L2.aI hN];walk_at "t";have lx:UD xs=UD es:=by rw[rx.length,Si]
 unfold zO;cbv;intro rd nr;have T1:=ai nr (.dK []);unfold jR;cbv;unfold jR;refine⟨ag,[(.inl (r:Int),.int (r:Int))],rfl,by show 1<=15;decide,?_⟩
 have S1:Same H (upd (upd H rd (.dK [])) rd (.dK (d_ [] [(.inl (r:Int),.int (r:Int))]))):=λc o q=>by
  rw[aB (aq q nr)];exact T1 _ _ q
 have d1:upd (upd H rd (.dK [])) rd (.dK (d_ [] [(.inl (r:Int),.int (r:Int))])) rd=some (.dK (kd (gM es (ks.take 0) r))):=ag;generalize upd (upd H rd (.dK [])) rd (.dK (d_ [] [(.inl (r:Int),.int (r:Int))]))=H1 at S1 d1 ⊢;cbv;refine fO (SqL.of (S1 _ _ hb)) ?_;refine bg (xs:=(ni ks).map V.int) (λi σ H2=>∃u4:Option V,σ=[⇑p,⇑b,↥(r:Int),⇑rd,u4,none,none,none]/\Same H H2/\H2 rd=some (.dK (kd (gM es (ks.take i) r)))) ⟨none,rfl,S1,d1⟩ (by rintro i σ H2 _ ⟨_,_,S,_⟩;exact SqL.of (S _ _ hb)) ?_ ?_
 .rintro i x σ H2 hx ⟨u4,rfl,S2,d2⟩;obtain⟨k,ek,rfl⟩:=rR hx;have lk2:=lt k (Sq ek);obtain⟨e,he⟩:∃e,es[k]?=some e:=⟨_,Sk lk2⟩
  obtain⟨f1,f2⟩:=DM he;obtain⟨z,ez⟩:∃z,xs[k]?=some z:=⟨_,Sk ∅⟩
  obtain⟨d,g1,g2⟩:=rx.get ez;rw[So,he] at g1;cases g1;obtain⟨pb,rfl,hpb⟩:=vM (g2.same S2);have li:i<UD ks:=(Sn.mp ek).1
  have ee:gM es (ks.take (i+1)) r=gM es (ks.take i) r++[(e.1,e.2)]:=by
   unfold gM;rw[SK,ek,Sr,<- f1,<- f2];rfl
  have nk:e.1∉(gM es (ks.take i) r).map (·.1):=by
   have n2:((gM es (ks.take (i+1)) r).map (·.1)).Nodup:=by
    refine nd.sublist ?_;unfold gM;exact((Xh (i+1) ks).map _).cons_cons _ |>.map _
   rw[ee,Sr,Xo] at n2;exact λm=>n2.2.2 _ m _ Sv rfl
  cbv;refine bX (SqL.of (S2 _ _ hp)) (aM ez) ?_;cbv;refine aG (SqT.of hpb) (v:=.int (e.2:Int)) rfl ?_;cbv;refine bX (SqL.of (S2 _ _ hp)) (aM ez) ?_;cbv;refine aG (SqT.of hpb) (v:=.int (e.1:Int)) rfl ?_;refine⟨rd,_,rfl,(DPut.k d2 (am (by unfold kd gM;rw[Si,Tu,Si,SL];lia)):DPut H2 rd (kV (.inl (e.1:Int))) _ _),?_⟩;refine⟨_,rfl,λc o q=>?_,?_⟩
  .rw[aB (aq q nr)];exact S2 c o q
  .rw[ag,ee,Ot nk]
 rintro σ H2 ⟨u4,rfl,S2,d2⟩;rw[rQ,SD (Sx _)] at d2;have lp:(gM es ks r).length<=101:=by unfold gM;rw[Tu,Si];lia
 generalize gM es ks r=ps at d2 nd cl kyes kno lp;have lkd:(kd ps).length=UD ps:=Si _;cbv;refine⟨rd,_,rfl,d2,λl nl=>?_⟩;have el:((kd ps).map λkv=>kV kv.1)=(ni (ps.map (·.1))).map V.int:=by unfold kd ni;rw[TY,TY,TY];rfl
 rw[el];have S3:=S2.trans (ai nl (.lst ((ni (ps.map (·.1))).map V.int)));have d3:=ai nl (.lst ((ni (ps.map (·.1))).map V.int)) _ _ d2;have h3:upd H2 l (.lst ((ni (ps.map (·.1))).map V.int)) l=some (.lst ((ni (ps.map (·.1))).map V.int)):=ag;generalize upd H2 l (.lst ((ni (ps.map (·.1))).map V.int))=H3 at S3 d3 h3 ⊢;refine fO (SqL.of h3) ?_;refine bg (xs:=(ni (ps.map (·.1))).map V.int) (λi σ H4=>∃u5 u6 u7:Option V,σ=[⇑p,⇑b,↥(r:Int),⇑rd,u4,u5,u6,u7]/\H4=H3/\∀m,m<i->∀h,(ps.map (·.1))[m]?=some h->fP (lk ps) (UD ps) h=r) ⟨none,none,none,rfl,rfl,λm hm=>absurd hm (TZ _)⟩ (λi σ H4 _ ⟨_,_,_,_,e,_⟩=>by rw[e];exact SqL.of h3) ?_ ?_
 .rintro i x σ H4 hx ⟨u5,u6,u7,rfl,rfl,dn⟩;obtain⟨h,eh,rfl⟩:=rR hx;have mh:=Sq eh;cbv;refine⟨rd,_,rfl,d3,?_⟩;rw[lkd];refine⟨_,rfl,∅,∅,?_⟩;rw[TW];refine bR (λm σ H5=>∃u7:Option V,σ=[⇑p,⇑b,↥(r:Int),⇑rd,u4,↥(h:Int),some (.int (fP (lk ps) m h:Int)),u7]/\H5=H4) ⟨_,rfl,rfl⟩ ?_ ?_
  .rintro m σ H5 hm ⟨u7,rfl,rfl⟩;have mm:fP (lk ps) m h∈ps.map (·.1):=xk (λx hx=>QJ cl hx) mh m;cbv;refine⟨rd,_,rfl,(by have:=(DGet.k d3:DGet H5 rd (kV (.inl (fP (lk ps) m h:Int))) _);rw[QM mm] at this;exact this),?_⟩;cbv;exact⟨_,rfl,rfl⟩
  .rintro σ H5 ⟨u7,rfl,rfl⟩;cbv;refine fU (λc=>?_) (λc=>?_)
   .cbv;refine kno (λt=>c ?_) H5 S3;obtain⟨q,hq,e⟩:=SE.mp mh
    have:=t q hq
    rw[e] at this;rw[this]
   .cbv;refine⟨_,_,_,rfl,rfl,λm hm h' e'=>?_⟩;rcases Vf m i with z|z
    .exact dn m z h' e'
    .rw[show m=i by lia,eh] at e';cases e';lia
 .rintro σ H4 ⟨u5,u6,u7,rfl,rfl,dn⟩;rw[rQ] at dn;cbv;refine kyes (λq hq=>?_) H4 S3;have m1:q.1∈ps.map (·.1):=SE.mpr ⟨q,hq,rfl⟩;obtain⟨m,hm⟩:=Tb m1;exact dn m (Sn.mp hm).1 q.1 hm
open Fr
def Ir{α β:Type}(g:α->β)(f:β->Rat):∀l:List α,ls (l.map g) f=ls l λx=>f (g x)
 |[]=>rfl
 |a :: l=>by rw[TM,dW,dW,Ir g f l]
def CN{α:Type}(f:α->Rat):∀l m:List α,ls (l++m) f=ls l f+ls m f
 |[],m=>by rw[Wl,Iq,Rat.zero_add]
 |a :: l,m=>by rw[YX,dW,dW,CN f l m,Rat.add_assoc]
def CM{α β:Type}(g:α->List β)(f:β->Rat):∀l:List α,ls (l.flatMap g) f=ls l λx=>ls (g x) f
 |[]=>rfl
 |a :: l=>by rw[List.flatMap_cons,CN,dW,CM g f l]
section
variable{es:List (Nat×Nat)}{pc:Nat->Rat}
def Od{h:Nat}{hs:List Nat}(n:h∉hs):hs.map (up g h k)=hs.map g:=UV λx hx=>if_neg λe:x=h=>n (by rw[<- e];exact hx)
def Ib(G:List Nat->Rat):∀{hs:List Nat} (acc:List (List Nat)),hs.Nodup->ls (hs.foldl (kn es) acc) G=ls acc λa=>T (iQ es) hs λg=>G (a++hs.map g)
 |[],acc,_=>jy λa _=>by show G a=G (a++[]);rw[Vy]
 |h :: hs,acc,nd=>by
  obtain⟨n1,n2⟩:=Uj.mp nd;rw[WX,Ib G (kn es acc h) n2];unfold kn;rw[CM];refine jy λa _=>?_
  rw[Ir];refine jy λk _=>RL λg=>?_
  show G (a++[k]++hs.map g)=G (a++(h :: hs).map (up g h k));rw[TM,Od n1,show up g h k h=k from if_pos rfl,Ur];rfl
abbrev pq(pc:Nat->Rat)(q:List Nat):Rat:=q.foldl (λx k=>x*pc k) 1
def Kz:∀(q:List Nat) (x:Rat),q.foldl (λx k=>x*pc k) x=x*pq pc q
 |[],x=>(Rat.mul_one x).symm
 |k :: q,x=>by
  unfold pq;rw[WX,WX,Kz q,Kz q,Zbr,Zag]
def H_(g:Nat->Nat):∀hs:List Nat,pq pc (hs.map g)=cb pc g hs
 |[]=>rfl
 |h :: hs=>by
  show(hs.map g).foldl (λx k=>x*pc k) (1*pc (g h))=pc (g h)*cb pc g hs;rw[Kz,H_ g hs,Zbr]
def Iy{f f':Nat->Nat}{L:List Nat}(hf:∀h∈L,f h∈L)(e:∀h∈L,f h=f' h){x:Nat}(hx:x∈L):∀n,fP f n x=fP f' n x
 |0=>rfl
 |n+1=>by
  show f (fP f n x)=f' (fP f' n x);rw[e _ (xk hf hx n),Iy hf e hx n]
def sA{g:Nat->Nat}{h:Nat}:∀{hs:List Nat},h∈hs->((hs.map λx=>(x,g x)).find? λq=>q.1 == h)=some (h,g h)
 |[],m=>by cases m
 |x :: hs,m=>by
  rw[TM,Vi];by_cases e:x=h
  .rw[show((x,g x).1 == h)=true by simpa using e,e]
  .rw[show((x,g x).1 == h)=false by simpa using e];exact sA ((S_.mp m).resolve_left λz=>e z.symm)
def BW{hs:List Nat}{g:Nat->Nat}(v:∀h∈hs,g h∈iQ es h)(r:Nat):gM es (hs.map g) r=(r,r) :: hs.map λh=>(h,dH es (g h)):=by
 unfold gM;rw[TY];congr 1;refine UV λh hh=>?_
 have:=(Tt.mp (v h hh)).2
 show(dm es (g h),dH es (g h))=_;rw[show dm es (g h)=h by simpa using this]
def gy{h:Nat}:h∈oth L r↔h∈L/\h≠r:=by unfold oth;rw[Tt];simp
def QK{g:Nat->Nat}(v:∀h∈oth L r,g h∈iQ es h){h:Nat}(hh:h∈L):lk (gM es ((oth L r).map g) r) h=stp (λh=>dH es (g h)) r h:=by
 rw[BW v];unfold lk stp;rw[Vi];by_cases e:h=r
 .rw[if_pos e,show((r,r).1 == h)=true by simpa using e.symm];rfl
 .rw[if_neg e,show((r,r).1 == h)=false by simpa using λz=>e z.symm,sA (g:=λh=>dH es (g h)) (gy.mpr ⟨hh,e⟩)];rfl
def uT{L:List Nat}(nd:L.Nodup){r:Nat}(hr:r∈L):(oth L r).length+1=UD L:=by
 have:=(Gy nd hr).length_eq
 rw[Tu] at this;exact this.symm
def Rs{L:List Nat}{g:Nat->Nat}(cl:∀k,k<UD es->(dm es k∈L↔dH es k∈L))(v:∀h∈oth L r,g h∈iQ es h){h:Nat}(hh:h∈oth L r):dH es (g h)∈L:=by
 obtain⟨m1,m2⟩:=Tt.mp (v h hh);exact(cl _ (Tv.mp m1)).mp (by rw[show dm es (g h)=h by simpa using m2];exact(gy.mp hh).1)
def Eu{L:List Nat}(nd:L.Nodup){r:Nat}(hr:r∈L)(cl:∀k,k<UD es->(dm es k∈L↔dH es k∈L)){g:Nat->Nat}(v:∀h∈oth L r,g h∈iQ es h):TD (gM es ((oth L r).map g) r) r↔Tree (λh=>dH es (g h)) L r:=by
 have lp:(gM es ((oth L r).map g) r).length=UD L:=by
  rw[<- uT nd hr];unfold gM;rw[Tu,Si,Si]
 have st:∀h∈L,stp (λh=>dH es (g h)) r h∈L:=λh hh=>by
  unfold stp;by_cases e:h=r
  .rw[if_pos e];exact hr
  .rw[if_neg e];exact Rs cl v (gy.mpr ⟨hh,e⟩)
 have ie:∀h∈L,fP (lk (gM es ((oth L r).map g) r)) (UD L) h=fP (stp (λh=>dH es (g h)) r) (UD L) h:=λh hh=>(Iy st (λx hx=>(QK v hx).symm) hh _).symm
 unfold TD Tree;rw[lp];constructor
 .intro t h hh;rw[<- ie h hh];by_cases e:h=r
  .have:=t (r,r) (by unfold gM;exact Sv)
   rw[e];exact this
  .have:=t (h,dH es (g h)) (by rw[BW v];exact Sw _ (SE.mpr ⟨h,gy.mpr ⟨hh,e⟩,rfl⟩))
   exact this
 .intro t q hq;rw[BW v] at hq;rcases S_.mp hq with rfl|hq
  .rw[ie r hr];exact t r hr
  .obtain⟨h,hh,rfl⟩:=SE.mp hq
   have:=(gy.mp hh).1
   show fP _ _ h=r;rw[ie h this];exact t h this
open Classical in
def PH{L:List Nat}(nd:L.Nodup){r:Nat}(hr:r∈L)(cl:∀k,k<UD es->(dm es k∈L↔dH es k∈L)):ls (pk es (oth L r)) (λq=>if TD (gM es q r) r then pq pc q else 0)=W es pc L r:=by
 have ndo:(oth L r).Nodup:=nd.filter _;unfold pk;rw[Ib _ _ ndo,dW,Iq,ZaY];refine Et ndo λg v=>?_
 rw[Wl,H_];by_cases t:Tree (λh=>dH es (g h)) L r
 .rw[if_pos t,if_pos ((Eu nd hr cl v).mpr t)]
 .rw[if_neg t,if_neg λz=>t ((Eu nd hr cl v).mp z)]
def B_:∀{hs:List Nat} {acc:List (List Nat)} {q:List Nat},q∈hs.foldl (kn es) acc->∃a∈acc,∃ks:List Nat,q=a++ks/\ks.map (dm es)=hs/\∀k∈ks,k<UD es
 |[],acc,q,h=>⟨q,h,[],(Vy q).symm,rfl,λk hk=>by cases hk⟩
 |x :: hs,acc,q,h=>by
  obtain⟨a,ha,ks,e1,e2,e3⟩:=B_ (hs:=hs) (acc:=kn es acc x) h;obtain⟨a0,ha0,hm⟩:=Zbg.mp ha;obtain⟨k,hk,rfl⟩:=SE.mp hm;obtain⟨m1,m2⟩:=Tt.mp hk;refine⟨a0,ha0,k :: ks,by rw[e1,Ur];rfl,by rw[TM,e2,show dm es k=x by simpa using m2],λj hj=>?_⟩;rcases S_.mp hj with rfl|hj
  .exact Tv.mp m1
  .exact e3 j hj
end
abbrev Sml(D M:Nat)(x:Rat):Prop:=∃m:Int,x*((D:Int):Rat)=(m:Rat)/\m.natAbs<=M
def Sml.add(a:Sml D M x)(b:Sml D N y):Sml D (M+N) (x+y):=by
 obtain⟨m,e,l⟩:=a;obtain⟨n,f,k⟩:=b;refine⟨m+n,by rw[Rat.add_mul,e,f,Rat.intCast_add],?_⟩;exact Ta (Xq m n) (Nat.add_le_add l k)
def Sml.mul(a:Sml D M x)(b:Sml E N y):Sml (D*E) (M*N) (x*y):=by
 obtain⟨m,e,l⟩:=a;obtain⟨n,f,k⟩:=b;refine⟨m*n,?_,by rw[Ud];exact Uz l k⟩;rw[Wo,<- e,<- f,Zx,Wo]
 grind
def Sml.up{E N:Nat}(a:Sml D M x)(h:M*E<=N):Sml (D*E) N x:=by
 obtain⟨m,e,l⟩:=a;refine⟨m*(E:Int),by rw[Wo,<- e,Zx,Wo,Zag],?_⟩;rw[Ud];exact Ta (T8 _ l) h
def Sml.zero(D M:Nat):Sml D M 0:=⟨0,by rw[Rat.zero_mul];rfl,TV _⟩
def Sml.one{D M:Nat}(h:D<=M):Sml D M 1:=⟨(D:Int),Zbr _,h⟩
def Sml.bits(a:Sml D M x)(d0:0<D):x.num.natAbs<=M/\x.den<=D:=by
 obtain⟨m,e,l⟩:=a
 have dn:((D:Int):Rat)≠0:=by
  intro z
  have:=ZbA.mp (show(((D:Int):Int):Rat)=((0:Int):Rat) from z)
  lia
 have ex:x=Vm m (D:Int):=by
  rw[ZaZ,<- e,Rat.mul_div_cancel dn]
 have L:=Gd.CO (t:=m) (b:=(D:Int)) (d:=Gd.gd m (D:Int)) ∅ (.inl ⟨rfl,∅⟩);have A:=Gd.CQ (t:=m) (b:=(D:Int)) (d:=Gd.gd m (D:Int)) ∅ (.inl ⟨rfl,∅⟩);obtain⟨e1,e2⟩:=pG ∅ L;rw[e1,e2,<- ex] at A;exact⟨Ta A.1 l,by have:=A.2;lia⟩
abbrev lU(ts:List Tn)(k:Nat):Rat:=match ts[k]? with
 |some t=>Vm t.q t.d
 |none=>1
abbrev Pd:List Tn->Nat
 |[]=>1
 |t :: ts=>t.d.natAbs*Pd ts
abbrev dy(ts:List Tn):Prop:=∀t∈ts,iS t.q t.d
def sP:∀{ts:List Tn},dy ts->0<Pd ts
 |[],_=>Nat.one_pos
 |t :: ts,h=>by
  have:=(h t Sv).2.1
  exact UZ ∅ (sP λx hx=>h x (Sw _ hx))
def PM:∀{ts:List Tn},dy ts->Pd ts<=(10 ^ 10) ^ (UD ts)
 |[],_=>Sx _
 |t :: ts,h=>by
  have h1:=(h t Sv).2.1;have h2:=(h t Sv).2.2.2.2;show t.d.natAbs*Pd ts<=(10 ^ 10) ^ (UD ts+1);rw[Uy,UE];exact Uz (PM λx hx=>h x (Sw _ hx)) ∅
def IV:∀{ts:List Tn} {t:Tn},t∈ts->t.d.natAbs∣Pd ts
 |x :: ts,t,m=>by
  rcases S_.mp m with rfl|m
  .exact Za0 _ _
  .exact Nat.dvd_trans (IV m) (Nat.dvd_mul_left _ _)
def Ig(pa:dy ts){k:Nat}(hk:k<UD ts):Sml (Pd ts) (10 ^ 10*Pd ts) (lU ts k):=by
 obtain⟨t,ht⟩:∃t,ts[k]?=some t:=⟨_,Sk hk⟩
 have mt:=Sq ht;obtain⟨q0,d0,_,ql,_⟩:=pa t mt;obtain⟨c,hc⟩:=IV mt;have e:lU ts k=Vm t.q t.d:=by unfold lU;rw[ht]
 have dn:((t.d:Int):Rat)≠0:=by
  intro z
  have:=ZbA.mp (show((t.d:Int):Rat)=((0:Int):Rat) from z)
  lia
 refine⟨t.q*(c:Int),?_,?_⟩
 .have e2:((Pd ts:Nat):Int)=t.d*(c:Int):=by
   rw[hc,Zx];congr 1;lia
  rw[e,e2,ZaZ,Wo,Wo,<- Zag,Rat.div_mul_cancel dn]
 .rw[Ud,hc];have h1:1<=t.d.natAbs:=by lia
  refine Uz ∅ ?_;show c<=t.d.natAbs*c;exact UU _ h1
def BY{ks:List Nat}{i k:Nat}(e:ks[i]?=some k):pq pc (ks.take (i+1))=pq pc (ks.take i)*pc k:=by
 unfold pq;rw[SK,e,UJ];rfl
def HZ{ts:List Tn}(pa:dy ts){ks:List Nat}(hk:∀k∈ks,k<UD ts):∀i,i<=UD ks->Sml (Pd ts ^ i) ((10 ^ 10*Pd ts) ^ i) (pq (lU ts) (ks.take i))
 |0,_=>by
  rw[Ye,Ye];exact Sml.one (Sx _)
 |i+1,h=>by
  obtain⟨k,ek⟩:∃k,ks[i]?=some k:=⟨_,Sk h⟩
  rw[BY ek,Uy,Uy];exact(HZ pa hk i ∅).mul (Ig pa (hk k (Sq ek)))
abbrev DD(ts:List Tn):Nat:=Pd ts ^ 7
abbrev MM(ts:List Tn):Nat:=(10 ^ 10*Pd ts) ^ 7
def Ia(pa:dy ts){ks:List Nat}(hk:∀k∈ks,k<UD ts)(l7:UD ks<=7):Sml (DD ts) (MM ts) (pq (lU ts) ks):=by
 have h:=HZ pa hk (UD ks) (Sx _);rw[TX] at h
 have:=h.up (E:=Pd ts ^ (7-UD ks)) (N:=MM ts) (by
  unfold MM
  rw[show 7=UD ks+(7-UD ks) by lia,Xc,show (UD ks)+(7-UD ks)-UD ks=7-(UD ks) by lia]
  exact Ue _ (Vg (UU _ (by decide)) _))
 rw[<- Xc,show (UD ks)+(7-UD ks)=7 by lia] at this;exact this
def fE(pa:dy ts)(t8:UD ts<=8)(h:Sml D M x)(d0:0<D)(hD:D<=Pd ts ^ 8)(hM:M<=10000*(10 ^ 10*Pd ts) ^ 8):Bq 3900 x:=by
 obtain⟨h1,h2⟩:=h.bits d0;have pl:Pd ts<=10 ^ 80:=Ta (PM pa) (by rw[<- Nat.pow_mul];exact Tc (by decide) ∅);have p8:Pd ts ^ 8<=(10 ^ 80) ^ 8:=Vg pl 8;have q8:(10 ^ 10*Pd ts) ^ 8<=(10 ^ 10*10 ^ 80) ^ 8:=Vg (Ue _ pl) 8;have z1:(10 ^ 80) ^ 8<2 ^ 3900:=by decide
 have z2:10000*(10 ^ 10*10 ^ 80) ^ 8<2 ^ 3900:=by decide
 exact⟨Tk (Ta h1 (Ta hM (Ue _ q8))) z2,Tk (Ta h2 (Ta hD p8)) z1⟩
def BZ(pa:dy ts)(t8:UD ts<=8){ks:List Nat}(hk:∀k∈ks,k<UD ts)(l7:UD ks<=7)(i:Nat):Bq 3900 (pq (lU ts) (ks.take i)):=by
 have h:=Ia (ks:=ks.take i) pa (λk hk'=>hk k (UM hk')) (by rw[SL];lia);have p1:=sP pa;refine fE pa t8 h (VD p1) (Tc p1 (by decide)) ?_;unfold MM;exact Ta (Tc (UZ (by decide) p1) (by decide)) (UU _ (by decide))
def KN(pa:dy ts)(t8:UD ts<=8){k:Nat}(hk:k<UD ts):Bq 3900 (lU ts k):=by
 have p1:=sP pa;refine fE pa t8 (Ig pa hk) p1 (ZbB (by decide) _) ?_;exact Ta (ZbB (by decide) _) (UU _ (by decide))
def NP(pa:dy ts){k:Nat}{t:Tn}(ht:ts[k]?=some t):dI [t.q,t.d]=dQ (lU ts k):=by
 obtain⟨_,d0,g,_,_⟩:=pa t (Sq ht);obtain⟨e1,e2⟩:=pG (t:=t.q) (b:=t.d) (q:=t.q) (d:=t.d) ∅ ⟨d0,g,rfl⟩;unfold dQ;have e:lU ts k=Vm t.q t.d:=by unfold lU;rw[ht]
 rw[e,<- e1,<- e2]
abbrev AS(K:Fg):Sp:=λvs H Q _=>∃(c b:Addr) (xs:List V) (ts:List Tn) (ks:List Nat),vs=[.ref c,.ref b]/\H c=some (.tup xs)/\RzL K H xs (ts.map dT)/\H b=some (.lst ((ni ks).map V.int))/\(∀k∈ks,k<UD ts)/\dy ts/\ts.length<=8/\ks.length<=7/\∀(v:V) (H':Hp),Same H H'->QV K H' v (pq (lU ts) ks)->Q v H'
abbrev Aa(K:Fg)(oq:Addr):TS:=(ao (ay (tC (.ref oq)) (ak 2))
 (ao (bo (bY K (aa 1)) (ak 3)
 (ay (aw (oE K) [] E0 (ac (aa 2) (ac (ar (aD K) (ar (aD K) (aa 0) (aa 3)) (tC (.int 2))) ae))) (ak 2)))
 (aA (aa 2))))
def J0{K:Fg}(one:∀H:Hp,SqT K H oq [.int 1,.int 1]){vs:List V}{H:Hp}{N:List Str}(hN:UD N=4)(h:AS K vs H Q E):Aa K oq (ends Q) (L2.start N vs) H:=by
 obtain⟨c,b,xs,ts,ks,rfl,hc,rx,hb,hk,pa,t8,l7,k⟩:=h;rw[L2.aI hN];walk_at "t";have lx:UD xs=UD ts:=by rw[rx.length,Si]
 unfold Aa;cbv;refine fO (SqL.of hb) ?_;refine bg (xs:=(ni ks).map V.int) (λi σ H2=>∃(v:V) (u3:Option V),σ=[⇑c,⇑b,some v,u3]/\Same H H2/\QV K H2 v (pq (lU ts) (ks.take i))) ⟨.ref oq,none,rfl,Same.refl _,oq,rfl,one H⟩ (by rintro i σ H2 _ ⟨_,_,_,S,_⟩;exact SqL.of (S _ _ hb)) ?_ ?_
 .rintro i x σ H2 hx ⟨v,u3,rfl,S2,qv⟩;obtain⟨m,em,rfl⟩:=rR hx;have lm:=hk m (Sq em);obtain⟨t,ht⟩:∃t,ts[m]?=some t:=⟨_,Sk lm⟩
  obtain⟨z,ez⟩:∃z,xs[m]?=some z:=⟨_,Sk ∅⟩
  obtain⟨d,g1,g2⟩:=rx.get ez;rw[So,ht] at g1;cases g1;obtain⟨pt_,z1,z2,z3,rfl,hpt,_,_,q3⟩:=pY (g2.same S2);rw[NP pa ht] at q3;cbv;refine aG (SqT.of (S2 _ _ hc)) (v:=.ref pt_) (aM ez) ?_;cbv;refine aG (SqT.of hpt) (v:=z3) rfl ?_;cbv;refine⟨v,z3,_,_,rfl,qv,QV.of q3,BZ pa t8 hk l7 i,KN pa t8 lm,λp H3 S3 r3=>?_⟩;cbv;refine⟨_,_,rfl,S2.trans S3,?_⟩;rw[BY em];exact QV.of r3
 .rintro σ H2 ⟨v,u3,rfl,S2,qv⟩;rw[rQ,TX] at qv;cbv;exact k v H2 S2 qv
def xw{α:Type}{p q:α->Bool}:∀l:List α,(∀x∈l,p x=true->q x=false)->(l.filter p).length+(l.filter q).length=(l.filter λx=>p x || q x).length
 |[],_=>rfl
 |a :: l,h=>by
  have ih:=xw l λx hx=>h x (Sw _ hx)
  have ha:=h a Sv;cases e1:p a <;> cases e2:q a
  .rw[Uf (by rw[e1];decide),Uf (by rw[e2];decide),Uf (by rw[e1,e2];decide)];exact ih
  .rw[Uf (by rw[e1];decide),Um e2,Um (by rw[e1,e2];rfl),Tu,Tu];lia
  .rw[Um e1,Uf (by rw[e2];decide),Um (by rw[e1];rfl),Tu,Tu];lia
  .rw[ha e1] at e2;cases e2
abbrev ud(es:List (Nat×Nat)):List Nat->Nat
 |[]=>0
 |h :: hs=>(iQ es h).length+ud es hs
def AF(es:List (Nat×Nat)):∀{hs:List Nat},hs.Nodup->ud es hs<=((SJ (UD es)).filter λk=>hs.contains (dm es k)).length
 |[],_=>TV _
 |h :: hs,nd=>by
  obtain⟨n1,n2⟩:=Uj.mp nd;have ih:=AF es n2
  have e:=xw (p:=λk=>dm es k == h) (q:=λk=>hs.contains (dm es k)) (SJ (UD es)) λk _ hk=>by
   have:dm es k=h:=by simpa using hk
   rw[this];simpa using n1
  have e2:(λk=>(dm es k == h) || hs.contains (dm es k))=λk=>(h :: hs).contains (dm es k):=funext λk=>by rw[List.contains_cons]
  rw[e2] at e;show(iQ es h).length+ud es hs<=_;unfold iQ;lia
def Cb{es:List (Nat×Nat)}:∀(hs:List Nat) (acc:List (List Nat)),(hs.foldl (kn es) acc).length<=UD acc*2 ^ ud es hs
 |[],acc=>by show (UD acc)<=UD acc*2 ^ 0;lia
 |h :: hs,acc=>by
  refine Ta (Cb hs (kn es acc h)) ?_
  have l1:(kn es acc h).length=UD acc*(iQ es h).length:=by
   unfold kn;rw[List.length_flatMap];clear Cb
   induction acc with
   |nil=>rw[X_,List.sum_nil,WY,Nat.zero_mul]
   |cons a acc ih=>rw[TM,List.sum_cons,ih,Si,Tu,WI,ZaE]
  rw[l1,show ud es (h :: hs)=(iQ es h).length+ud es hs from rfl,Xc,<- Uv];exact T8 _ (Ue _ (VU Nat.lt_two_pow_self))
def Ca{es:List (Nat×Nat)}(e8:UD es<=8){hs:List Nat}(nd:hs.Nodup)(i:Nat):(pk es (hs.take i)).length<=900:=by
 have h1:=Cb (es:=es) (hs.take i) [[]];have h2:=AF es (nd.sublist (Xh i hs));have h3:=Ua (λk=>(hs.take i).contains (dm es k)) (SJ (UD es));rw[SV] at h3;have h4:2 ^ ud es (hs.take i)<=2 ^ 8:=Tc (by decide) ∅;have h5:[([]:List Nat)].length=1:=rfl;unfold pk;rw[h5] at h1;lia
open Classical in
abbrev wq (es:List (Nat×Nat)) (ts:List Tn) (r:Nat) (q:List Nat):Rat:=if TD (gM es q r) r then pq (lU ts) q else 0
def CL{α:Type}{l:List α}{f:α->Rat}{j:Nat}{x:α}(e:l[j]?=some x):ls (l.take (j+1)) f=ls (l.take j) f+f x:=by
 rw[SK,e,CN];show _+(f x+0)=_;rw[ZaY]
def zA{es:List (Nat×Nat)}{ts:List Tn}{r:Nat}(pa:dy ts):∀{l:List (List Nat)},(∀q∈l,(∀k∈q,k<UD ts)/\q.length<=7)->Sml (DD ts) (UD l*MM ts) (ls l (wq es ts r))
 |[],_=>Sml.zero _ _
 |q :: l,h=>by
  have h1:Sml (DD ts) (MM ts) (wq es ts r q):=by
   unfold wq;split
   .exact Ia pa (h q Sv).1 (h q Sv).2
   .exact Sml.zero _ _
  rw[dW,Tu,WI,ZaE];exact h1.add (zA pa λx hx=>h x (Sw _ hx))
def Jd(pa:dy ts)(t8:UD ts<=8){l:List (List Nat)}(h:∀q∈l,(∀k∈q,k<UD ts)/\q.length<=7)(few:UD l<=900):Bq 3900 (ls l (wq es ts r)):=by
 have p1:=sP pa;refine fE pa t8 (zA pa h) (VD p1) (Tc p1 (by decide)) ?_;unfold MM;exact Uz ∅ (Tc (UZ (by decide) p1) (by decide))
abbrev ug(K:Fg):Sp:=λvs H Q _=>∃(c p b:Addr) (ys xs:List V) (ts:List Tn) (es:List (Nat×Nat)) (L:List Nat) (r:Nat),vs=[.ref c,.ref p,.ref b,.int (r:Int)]/\H c=some (.tup ys)/\RzL K H ys (ts.map dT)/\H p=some (.lst xs)/\RzL K H xs (es.map dP)/\H b=some (.lst ((ni L).map V.int))/\es.length=ts.length/\ts.length<=8/\dy ts/\L.Nodup/\r∈L/\L.length<=8/\(∀k,k<UD es->(dm es k∈L↔dH es k∈L)) /\
 ∀(v:V) (H':Hp),Same H H'->QV K H' v (W es (lU ts) L r)->Q v H'
nonrec def zM(K:Fg)(nq:Addr):TS:=(ao (bo (bY K (aw (uq K) [] E0 (ac (aa 1) (ac (d5 (bY K (aa 2)) 1 (ak 0) (aK (ar HV (aa 0) (aa 4))) (aa 0)) ae)))) (ak 5)
 (a4 (tB (aw (AQ K) [] E0 (ac (aa 1) (ac (aa 5) (ac (aa 3) ae)))))
 (ay (aw (um K) [] E0 (ac (aa 4) (ac (aw (Tr.AS K) [] E0 (ac (aa 0) (ac (aa 5) ae))) ae))) (ak 4))
 be))
 (aA (aa 4)))
abbrev tF(K:Fg)(nq:Addr):TS:=(ao (ay (tC (.ref nq)) (ak 4))
 (zM K nq))
def FN{K:Fg}(zero:∀H:Hp,SqT K H nq [.int 0,.int 1]){vs:List V}{H:Hp}{N:List Str}(hN:UD N=6)(h:ug K vs H Q E):tF K nq (ends Q) (L2.start N vs) H:=by
 obtain⟨c,p,b,ys,xs,ts,es,L,r,rfl,hc,ry,hp,rx,hb,et,t8,pa,nd,hr,l8,cl,k⟩:=h;rw[L2.aI hN];walk_at "t";have ndo:(oth L r).Nodup:=nd.filter _;have lo:=uT nd hr;unfold tF;cbv;refine⟨b,rfl,⟨_,SqL.of hb⟩,?_⟩;refine fK (xs:=(ni L).map V.int) λD nD=>⟨λj H2=>AccZ K H D H2 ((oth (L.take j) r).map dN),AccZ.start (Same.refl _) nD,λj H2 _ A=>SqL.of (A.same _ _ hb),?_,?_⟩
 .intro j x H2 hx A us hu;obtain⟨u0,rfl⟩:∃u,us=[u]:=US.mp hu;have lj:=(Sn.mp hx).1;obtain⟨h,eh,rfl⟩:=rR hx
  have er:oth (L.take (j+1)) r=oth (L.take j) r++[h].filter λx=>x != r:=by
   unfold oth;rw[SK,eh,UP];rfl
  have lr:(oth (L.take j) r).length<=8:=Ta (Ua _ _) (by rw[SL];lia);cbv;refine⟨⟨[↥(h:Int)],rfl,rfl⟩,?_⟩;cbv;refine fU (λz=>?_) (λz=>?_)
  .have z':h≠r:=λe=>z (by rw[e])
   cbv;refine aH lj ?_;refine A.bG (d:=dN h) (.int _) (am (by rw[Si];lia)) λH4 A4=>?_
   show AccZ K H D H4 ((oth (L.take (j+1)) r).map dN);rw[er,Um (by simpa using z'),Sr];exact A4
  .have z':h=r:=by lia
   refine dO lj ?_;show AccZ K H D H2 ((oth (L.take (j+1)) r).map dN);rw[er,Uf (by simpa using z')];simpa using A
 intro H2 A;rw[rQ,TX] at A;have hD:H2 D=some (.lst ((ni (oth L r)).map V.int)):=AccZ.ints (by unfold ni;rw[TY];exact A);have S2:=A.same;cbv;refine⟨p,D,xs,es,oth L r,rfl,S2 _ _ hp,rx.same S2,∅,hD,∅,Ca ∅ ndo,λq H3 A3=>?_⟩;have few:=Ca (es:=es) ∅ ndo (oth L r).length;rw[TX] at few;obtain⟨zs,hz,rz⟩:=A3.at_;have lz:UD zs=(pk es (oth L r)).length:=by rw[rz.length,Si]
 have S3:=S2.trans A3.same
 have pkm:∀q∈pk es (oth L r),q.map (dm es)=oth L r/\∀k∈q,k<UD es:=λq hq=>by
  obtain⟨a,ha,ks,e1,e2,e3⟩:=B_ hq;rw[SO.mp ha,Wl] at e1;rw[e1];exact⟨e2,e3⟩
 have pk7:∀q∈pk es (oth L r),(∀k∈q,k<UD ts)/\q.length<=7:=λq hq=>by
  obtain⟨e2,e3⟩:=pkm q hq
  have:=congrArg UD e2
  rw[Si] at this;exact⟨λk hk=>by have:=e3 k hk;lia,∅⟩
 have fin:ls (pk es (oth L r)) (wq es ts r)=W es (lU ts) L r:=PH nd hr cl;rw[<- fin] at k;generalize pk es (oth L r)=P at rz lz few pkm pk7 k;refine fO (SqL.of hz) ?_;refine bg (xs:=zs) (λj σ H4=>∃(v:V) (u5:Option V),σ=[⇑c,⇑p,⇑b,↥(r:Int),some v,u5]/\Same H3 H4/\QV K H4 v (ls (P.take j) (wq es ts r))) ⟨.ref nq,none,rfl,Same.refl _,nq,rfl,zero H3⟩ (by rintro j σ H4 _ ⟨_,_,_,S,_⟩;exact SqL.of (S _ _ hz)) ?_ ?_
 .rintro j x σ H4 hx ⟨v,u5,rfl,S4,qv⟩;have lj:=(Sn.mp hx).1;obtain⟨d,g1,g2⟩:=rz.get hx;rw[So] at g1;obtain⟨w,hw,rfl⟩:=SA.mp g1;obtain⟨a,rfl,_,ha⟩:=jk g2;have mw:=Sq hw;obtain⟨m1,m2⟩:=pkm w mw;obtain⟨m3,m4⟩:=pk7 w mw;have S04:=S3.trans S4
  have keys:(gM es w r).map (·.1)=r :: oth L r:=by
   unfold gM;rw[TM,TY,<- m1];rfl
  cbv;refine⟨p,a,xs,es,w,r,rfl,S04 _ _ hp,rx.same S04,S4 _ _ ha,∅,m2,?_,?_,λtd H5 S5=>?_,λtd H5 S5=>?_⟩
  .rw[keys,Uj];exact⟨KP,ndo⟩
  .intro e he;rw[keys]
   have inL:∀h,h∈L->h∈r :: oth L r:=λh hh=>by
    by_cases q:h=r
    .rw[q];exact Sv
    .exact Sw _ (gy.mpr ⟨hh,q⟩)
   rcases S_.mp (show e∈(r,r) :: w.map λk=>(dm es k,dH es k) from he) with rfl|he
   .exact Sv
   .obtain⟨k,hk,rfl⟩:=SE.mp he;refine inL _ ((cl k (m2 k hk)).mp ?_)
    have:dm es k∈w.map (dm es):=SE.mpr ⟨k,hk,rfl⟩
    rw[m1] at this;exact(gy.mp this).1
  .cbv;refine⟨c,a,ys,ts,w,rfl,S5 _ _ (S04 _ _ hc),ry.same (S04.trans S5),S5 _ _ (S4 _ _ ha),m3,pa,t8,m4,λv2 H6 S6 qv2=>?_⟩;cbv;have fs:∀q∈P.take j,(∀k∈q,k<UD ts)/\q.length<=7:=λq hq=>pk7 q (UM hq)
   refine⟨v,v2,_,_,rfl,(qv.same S5).same S6,qv2,Jd pa t8 fs (by rw[SL];lia),by have:=BZ pa t8 m3 m4 w.length;rw[TX] at this;exact this,λp2 H7 S7 r7=>?_⟩;cbv;refine⟨_,_,rfl,S4.trans (S5.trans (S6.trans S7)),?_⟩;rw[CL hw,show wq es ts r w=pq (lU ts) w from if_pos td];exact QV.of r7
  .cbv;refine⟨_,_,rfl,S4.trans S5,?_⟩;rw[CL hw,show wq es ts r w=0 from if_neg td,ZaY];exact qv.same S5
 .rintro σ H4 ⟨v,u5,rfl,S4,qv⟩;rw[lz,TX] at qv;cbv;exact k v H4 (S3.trans S4) qv
open PySem L2 Fr G1 Sm Vs G2 Rk Sz Sf Rw Ti Lo
def bI{h:Nat}:h∈aP f v↔h<(UD f)/\Lo.at_ f h=v:=by
 unfold aP;rw[Tt,Tv,decide_eq_true_eq]
def dB(f:List Nat)(v:Nat):(aP f v).Nodup:=WL.filter _
def kj:(aP f v).length<=UD f:=by
 unfold aP;exact Ta (Ua _ _) (by rw[SV];exact Sx _)
def RC{es:List (Nat×Nat)}{k:Nat}(h:k<UD es):(dm es k,dH es k)∈es:=by
 unfold dm dH;rw[Sj,Sk h];exact Ul h
def km(F:FI n es es f)(ok:Mo n es)(v k:Nat)(hk:k<UD es):dm es k∈aP f v↔dH es k∈aP f v:=by
 have m:=RC hk;have e:=F.one _ m;have o:=ok _ m;have o1:dm es k<n:=o.1;have o2:dH es k<n:=o.2;have e':Lo.at_ f (dm es k)=Lo.at_ f (dH es k):=e;rw[bI,bI,F.len,e'];constructor
 .exact λz=>⟨o2,z.2⟩
 .exact λz=>⟨o1,z.2⟩
def Cd{L:List Nat}(l:List Nat)(nd:l.Nodup)(s:∀x∈l,x∈L):UD l<=UD L:=bQ nd s
abbrev Wt (ts:List Tn) (h:Nat):Rat:=W (aC ts) (lU ts) (aP (bq (aT ts).length (aC ts)) (Lo.at_ (bq (aT ts).length (aC ts)) h)) h
abbrev kv(dv:List (Nat×V)):List (a9×V):=dv.map λq=>((.inl (q.1:Int):a9),q.2)
def C1:∀{dv:List (Nat×V)} {h:Nat},h∉dv.map (·.1)->bJ (kv dv) (.inl (h:Int))=none
 |[],h,_=>rfl
 |q :: dv,h,n=>by
  show bJ (((.inl (q.1:Int):a9),q.2) :: kv dv) (.inl (h:Int))=_;rw[bp λz=>n (by have:=W8 z;rw[TM,show q.1=h by lia];exact Sv)];exact C1 λm=>n (Sw _ m)
def Ol{dv:List (Nat×V)}{h:Nat}(n:h∉dv.map (·.1)):cA (kv dv) (.inl (h:Int)) v=kv (dv++[(h,v)]):=by
 unfold cA;rw[fC,C1 n];show kv dv++[_]=_;unfold kv;rw[Sr];rfl
def Iv:∀{dv:List (Nat×V)} {h:Nat},h∈dv.map (·.1)->∃v,bJ (kv dv) (.inl (h:Int))=some v/\(h,v)∈dv
 |[],h,m=>by cases m
 |q :: dv,h,m=>by
  by_cases e:q.1=h
  .refine⟨q.2,?_,by rw[<- e];exact Sv⟩;show bJ (((.inl (q.1:Int):a9),q.2) :: kv dv) (.inl (h:Int))=_;rw[bB (by rw[e])]
  .obtain⟨v,h1,h2⟩:=Iv (dv:=dv) (h:=h) ((S_.mp m).resolve_left λz=>e z.symm);refine⟨v,?_,Sw _ h2⟩;show bJ (((.inl (q.1:Int):a9),q.2) :: kv dv) (.inl (h:Int))=_;rw[bp λz=>e (by have:=W8 z;lia)];exact h1
def QV.put{K:Fg}{ab:List (a9×V)}(h:QV K H v x)(hd:H rd=some (.dK ab)):QV K (upd H rd o) v x:=by
 obtain⟨a,e,ha⟩:=h;refine⟨a,e,?_⟩;rcases ha with(ha|⟨u,ha⟩)|ha
 .exact .inl (.inl (by rw[aB λz=>by rw[z,hd] at ha;cases ha];exact ha))
 .exact .inl (.inr ⟨u,by rw[aB λz=>by rw[z,hd] at ha;cases ha];exact ha⟩)
 .exact .inr ha
abbrev Kp(H H':Hp):Prop:=∀c o,H c=some o->(∀ab,o≠.dK ab)->H' c=some o
def Kp.on(k:Kp H H1)(S:Same H1 H2):Kp H H2:=λc o e n=>S _ _ (k c o e n)
def Kp.put{ab:List (a9×V)}(k:Kp H H1)(hd:H1 rd=some (.dK ab)):Kp H (upd H1 rd o):=λc o' e n=>by
 have:=k c o' e n
 rw[aB λz=>by rw[z,hd] at this;exact n ab (SU this).symm];exact this
def Kp.lst{H H1:Hp}(k:Kp H H1){c:Addr}{xs:List V}(h:H c=some (.lst xs)):H1 c=some (.lst xs):=k _ _ h λ_ z=>by cases z
def Kp.tup{H H1:Hp}(k:Kp H H1){c:Addr}{xs:List V}(h:H c=some (.tup xs)):H1 c=some (.tup xs):=k _ _ h λ_ z=>by cases z
def Kp.rz{K:Fg}(k:Kp H H1)(h:RzL K H xs ds):RzL K H1 xs ds:=h.agr ⟨λ_ _ e=>k.tup e,λ_ _ z=>z.elim⟩
structure DI (K:Fg) (ts:List Tn) (H H3:Hp) (rd:Addr) (ks:List Nat) (H4:Hp):Prop where
 same:Same H H4
 keep:Kp H3 H4
 dict:∃dv:List (Nat×V),H4 rd=some (.dK (kv dv))/\dv.map (·.1)=ks/\∀q∈dv,QV K H4 q.2 (Wt ts q.1)
abbrev uf(K:Fg):Sp:=λvs H Q _=>∃(v:V) (ws:List Str) (ts:List Tn),vs=[v]/\Rz K H v (dV ws ts)/\ts.length<=8/\(aT ts).length<=8/\dy ts/\∀(p:Addr) (H':Hp) (xs:List V),H p=none->Same H H'->H' p=some (.lst xs)->UD xs=(aT ts).length->(∀i x,xs[i]?=some x->QV K H' x (Wt ts i))->Q (.ref p) H'
nonrec def zL(K:Fg):TS:=(ao (bo (bY K (aw (mI K) [] E0 (ac (aa 0) ae))) (ak 3)
 (bo (bY K (aa 3)) (ak 4)
 (qW (aa 2) (aa 4) (aw (ug K) [] E0 (ac (ar (aD K) (aa 0) (tC (.int 1))) (ac (aa 1) (ac (aa 3) (ac (aa 4) ae))))))))
 (aA (ck (cZ (ac (bO M5 (ac (aa 2) ae)) ae)) (uc (aa 3) (aa 0)))))
abbrev tE(K:Fg):TS:=(ao (ay (aw (gJ K) [] E0 (ac (aa 0) ae)) (ak 1))
 (ao (ay HN (ak 2))
 (zL K)))
def FM{K:Fg}:ρ 5 (uf K) (tE K):=by
 fail "R";obtain⟨v,ws,ts,rfl,rv,t8,h8,pa,k⟩:=h;have rv0:=rv;obtain⟨a,v1,v2,rfl,ha,_,r2⟩:=gA rv;obtain⟨c,ys,rfl,hc,ry⟩:=r2.bM;rw[L2.aI hN];walk_at "t";have ok:=dq ts;have le:(aC ts).length=UD ts:=by unfold aC;rw[Si]
 have F:=cX ok;unfold tE;cbv;refine⟨.ref a,ws,ts,rfl,rv0,∅,λpe H1 A1=>?_⟩;obtain⟨xs,hpe,rx⟩:=A1.at_;have S1:=A1.same;cbv;intro rd nr;have S2:=S1.trans (ai nr (.dK []));have d2:upd H1 rd (.dK []) rd=some (.dK (kv [])):=ag;have hpe2:=ai nr (.dK []) _ _ hpe;have rx2:=rx.same (ai nr (.dK []));have nrH:H rd=none:=S1.free nr;generalize upd H1 rd (.dK [])=H2 at S2 d2 hpe2 rx2 ⊢;cbv;refine⟨.ref a,ws,ts,rfl,rv0.same S2,t8,h8,λlp H3 S3 r3=>?_⟩;obtain⟨lp',zs,elp,_,hl,rz⟩:=Rp.kB r3;cases elp;unfold b6 at rz;have lz:UD zs=(e_ (bq (aT ts).length (aC ts))).length:=by rw[rz.length,Si,Si]
 have hW:∀h,Wt ts h=W (aC ts) (lU ts) (aP (bq (aT ts).length (aC ts)) (Lo.at_ (bq (aT ts).length (aC ts)) h)) h:=λ_=>rfl
 generalize bq (aT ts).length (aC ts)=f at F rz lz hW;generalize (aT ts).length=n at F ok h8 k;have fl:=F.len;have hpe3:=S3 _ _ hpe2;have rx3:=rx2.same S3;have hc3:=S3 _ _ (S2 _ _ hc);have ry3:=(ry.same S2).same S3;have ha3:=S3 _ _ (S2 _ _ ha)
 have lo:∀i L,(e_ f)[i]?=some L->∃v,((SJ f.length).filter λv=>Lo.at_ f v=v)[i]?=some v/\L=aP f v:=λi L e=>by
  unfold e_ at e;rw[So] at e;obtain⟨v,h1,h2⟩:=SA.mp e;exact⟨v,h1,h2.symm⟩
 have vnd:((SJ f.length).filter λv=>Lo.at_ f v=v).Nodup:=WL.filter _;generalize hV:(SJ f.length).filter (λv=>Lo.at_ f v=v)=Vs at lo vnd;have D0:DI K ts H H3 rd [] H3:=⟨S2.trans S3,λ_ _ e _=>e,[],S3 _ _ d2,rfl,λq hq=>by cases hq⟩
 let Dn:Nat->List Nat->Prop:=λi ks=>ks.Nodup/\∀h,h∈ks↔h<n/\∃m,m<i/\Vs[m]?=some (Lo.at_ f h)
 have Dn0:Dn 0 []:=⟨VJ,λh=>⟨(λz=>by cases z),(by rintro ⟨_,m,hm,_⟩;exact absurd hm (TZ _))⟩⟩
 refine fO (SqL.of hl) ?_;refine bg (xs:=zs) (λi σ H4=>∃(u3 u4:Option V) (ks:List Nat),σ=[⇑a,⇑pe,⇑rd,u3,u4]/\DI K ts H H3 rd ks H4/\Dn i ks) ⟨none,none,[],rfl,D0,Dn0⟩ (by rintro i σ H4 _ ⟨_,_,_,_,D,_⟩;exact SqL.of (D.keep.lst hl)) ?_ ?_
 .rintro i x σ H4 hx ⟨u3,u4,ks,rfl,D,dn⟩;have li:=(Sn.mp hx).1;obtain⟨d,g1,g2⟩:=rz.get hx;rw[So,So] at g1;cases eL:(e_ f)[i]? with
  |none=>rw[eL] at g1;cases g1
  |some L =>
   rw[eL] at g1;cases g1;obtain⟨b,rfl,_,hb⟩:=jk g2;obtain⟨w,ew,rfl⟩:=lo i L eL;have hb':H3 b=some (.lst ((ni (aP f w)).map V.int)):=hb;cbv;refine fO (SqL.of (D.keep.lst hb')) ?_;refine bg (xs:=(ni (aP f w)).map V.int) (λj σ H5=>∃(u4:Option V),σ=[⇑a,⇑pe,⇑rd,⇑b,u4]/\DI K ts H H3 rd (ks++(aP f w).take j) H5) ⟨u4,rfl,by simpa using D⟩ (by rintro j σ H5 _ ⟨_,_,D⟩;exact SqL.of (D.keep.lst hb')) ?_ ?_
   .rintro j x σ H5 hx5 ⟨u4,rfl,D5⟩;obtain⟨h,eh,rfl⟩:=rR hx5;have mh:=Sq eh;obtain⟨hn,ah⟩:=bI.mp mh
    have nk:h∉ks++(aP f w).take j:=by
     intro m;rcases SQ.mp m with m|m
     .obtain⟨_,t,ht,et⟩:=(dn.2 h).mp m;rw[ah] at et;have l1:=(Sn.mp et)
      have l2:=(Sn.mp ew)
      have:=(VE (h₀:=l1.1) (h₁:=l2.1) vnd).mp (by rw[l1.2,l2.2])
      lia
     .obtain⟨t,et⟩:=Tb m
      have tj:t<j:=by
       have:=(Sn.mp et).1
       rw[SL] at this;lia
      rw[Vn tj] at et;have l1:=(Sn.mp et)
      have l2:=(Sn.mp eh)
      have:=(VE (h₀:=l1.1) (h₁:=l2.1) (dB f w)).mp (by rw[l1.2,l2.2])
      lia
    cbv;refine aG (SqT.of (D5.keep.tup ha3)) (v:=.ref c) rfl ?_;cbv;refine⟨c,pe,b,ys,xs,ts,aC ts,aP f w,h,rfl,D5.keep.tup hc3,D5.keep.rz ry3,D5.keep.lst hpe3,D5.keep.rz rx3,D5.keep.lst hb',le,t8,pa,dB f w,mh,Ta kj ∅,km F ok w,λv6 H6 S6 qv=>?_⟩;obtain⟨dv,q1,q2,q3⟩:=D5.dict;have d6:=S6 _ _ q1;have nkd:h∉dv.map (·.1):=by rw[q2];exact nk
    have ldv:UD dv<=100:=by
     have l1:(dv.map (·.1)).length<=(SJ n).length:=by
      refine bQ ?_ λx hx=>?_
      .rw[q2];refine Xo.mpr ⟨dn.1,(dB f w).sublist (Xh _ _),λx hx y hy e=>?_⟩;subst e;obtain⟨_,t,ht,et⟩:=(dn.2 x).mp hx
       have:=(bI.mp (UM hy)).2
       rw[this] at et;have l1:=(Sn.mp et)
       have l2:=(Sn.mp ew)
       have:=(VE (h₀:=l1.1) (h₁:=l2.1) vnd).mp (by rw[l1.2,l2.2])
       lia
      .rw[q2] at hx;rw[Tv];rcases SQ.mp hx with hx|hx
       .exact((dn.2 x).mp hx).1
       .have:=(bI.mp (UM hx)).1
        lia
     rw[Si,SV] at l1;lia
    cbv;refine⟨rd,_,rfl,(DPut.k d6 (am (by unfold kv;rw[Si];lia)):DPut H6 rd (kV (.inl (h:Int))) _ _),?_⟩;refine⟨_,rfl,λe o q=>?_,(D5.keep.on S6).put d6,dv++[(h,v6)],?_,?_,λq hq=>?_⟩
    .rw[aB (aq q nrH)];exact S6 _ _ (D5.same e o q)
    .rw[ag,Ol nkd]
    .rw[Sr,q2,SK,eh,Ur];rfl
    .rcases SQ.mp hq with hq|hq
     .exact((q3 q hq).same S6).put d6
     .rw[SO.mp hq];refine QV.put ?_ d6;show QV K H6 v6 (Wt ts h);rw[hW h,ah];exact qv
   .rintro σ H5 ⟨u4,rfl,D5⟩;rw[rQ,TX] at D5;cbv;refine⟨_,_,_,rfl,D5,Xo.mpr ⟨dn.1,dB f w,λx hx y hy e=>?_⟩,λh=>?_⟩
    .subst e;obtain⟨_,t,ht,et⟩:=(dn.2 x).mp hx;rw[(bI.mp hy).2] at et;have l1:=(Sn.mp et)
     have l2:=(Sn.mp ew)
     have:=(VE (h₀:=l1.1) (h₁:=l2.1) vnd).mp (by rw[l1.2,l2.2])
     lia
    .rw[SQ,dn.2 h,bI,fl];constructor
     .rintro(⟨q1,m,hm,em⟩|⟨q1,q2⟩)
      .exact⟨q1,m,∅,em⟩
      .exact⟨q1,i,∅,by rw[q2];exact ew⟩
     .rintro⟨q1,m,hm,em⟩;rcases Vf m i with z|z
      .exact .inl ⟨q1,m,z,em⟩
      .rw[show m=i by lia,ew] at em;exact .inr ⟨q1,(SU em).symm⟩
 rintro σ H4 ⟨u3,u4,ks,rfl,D,dn⟩;obtain⟨dv,q1,q2,q3⟩:=D.dict
 have all:∀h,h∈ks↔h<n:=λh=>by
  rw[dn.2 h];refine⟨λz=>z.1,λz=>⟨z,?_⟩⟩
  have m:Lo.at_ f h∈Vs:=by
   rw[<- hV,Tt,Tv,decide_eq_true_eq,fl];exact⟨Tk (F.le h z) z,F.fix h z⟩
  obtain⟨t,et⟩:=Tb m;refine⟨t,?_,et⟩
  have:=(Sn.mp et).1
  rw[lz];unfold e_;rw[Si,hV];exact this
 have lk2:UD ks=n:=by
  have l1:=bQ (hs:=SJ n) dn.1 λx hx=>Tv.mpr ((all x).mp hx)
  have l2:=bQ (hs:=ks) (WL (n:=n)) λx hx=>(all x).mpr (Tv.mp hx)
  rw[SV] at l1 l2;lia
 have ldv:(kv dv).length=n:=by
  unfold kv;rw[Si,<- lk2,<- q2,Si]
 cbv;refine⟨rd,_,rfl,q1,?_⟩;rw[ldv];refine⟨_,rfl,∅,∅,?_⟩;rw[TW];refine bU (n:=n) λE nE=>⟨λj H5=>∃us:List V,H5=upd H4 E (.lst us)/\us.length=j/\∀i x,us[i]?=some x->QV K H4 x (Wt ts i),⟨[],rfl,rfl,λi x e=>by cases e⟩,?_,?_⟩
 .rintro j H5 hj ⟨us,rfl,lu,qs⟩;rw[UB];have q15:=ai nE (.lst us) _ _ q1;obtain⟨v,e1,e2⟩:=Iv (dv:=dv) (h:=j) (by rw[q2];exact(all j).mpr hj);cbv;refine⟨rd,_,rfl,(by have:=(DGet.k q15:DGet _ rd (kV (.inl (j:Int))) _);rw[e1] at this;exact this),?_⟩;refine aH hj ⟨us,ag,am ∅,us++[v],?_,by rw[SC,lu];rfl,λi x e=>?_⟩
  .funext z;unfold upd;by_cases w:z=E
   .rw[if_pos w,if_pos w]
   .rw[if_neg w,if_neg w,if_neg w]
  .rcases Vf i (UD us) with z|z
   .rw[Tx z] at e;exact qs i x e
   .have li:=(Sn.mp e).1;rw[SC,Vj] at li;have ei:i=UD us:=by lia
    subst ei;rw[TH (Sx _),ZaM] at e;cases e;rw[lu];exact q3 _ e2
 .rintro H5 ⟨us,rfl,lu,qs⟩;exact k E _ us (D.same.free nE) (D.same.trans (ai nE _)) ag lu λi x e=>(qs i x e).same (ai nE _)
abbrev qD(K:Fg):Sp:=λvs H Q _=>∃t b:Int,vs=[.int t,.int b]/\0<b/\t.natAbs<2 ^ 8000/\b.natAbs<2 ^ 8000/\∀(p:Addr) (q d:Int) (H':Hp),Same H H'->Gd.Low t b q d->q.natAbs<=t.natAbs->d.natAbs<=b.natAbs->Rz K H' (.ref p) (dI [q,d])->Q (.ref p) H'
abbrev Af(K:Fg):TS:=(ao (ay (aw oP [] E0 (ac (aa 0) (ac (aa 1) ae))) (ak 2))
 (aA (bC (ac (ar jb (aa 0) (aa 2)) (ac (ar jb (aa 1) (aa 2)) ae)))))
def J4{K:Fg}:ρ 3 (qD K) (Af K):=by
 fail "R";obtain⟨t,b,rfl,b0,ht,hb,k⟩:=h;rw[L2.aI hN];walk_at "t";unfold Af;have p2:(2:Nat) ^ 8000<2 ^ 9000:=UA (by decide) (by decide);have nb:b≠0:=by lia
 have gp:=Gd.mS (a:=t) nb;have gl:=Gd.LP (a:=t) nb;have wd:(Gd.gd t b).natAbs<2 ^ 9000:=Tk ∅ (Ut hb p2);have L:=Gd.CO (t:=t) (b:=b) (d:=Gd.gd t b) nb (.inl ⟨rfl,b0⟩);have M:=Gd.CQ (t:=t) (b:=b) (d:=Gd.gd t b) nb (.inl ⟨rfl,b0⟩);cbv;refine⟨t,b,rfl,?_⟩;cbv;refine vx ⟨∅,wd⟩ ?_;cbv;refine vx ⟨∅,wd⟩ ?_;cbv;refine⟨aR,λp np=>?_⟩;exact k p _ _ _ (ai np _) L M.1 M.2 (.tup ag (RpL.ints [_,_]))
def CS{K:Fg}{t b:Int}{Q:VK}(t0:0<t)(b0:0<b)(t1:t<=10000000000)(b1:b<=10000000000)(k:∀(p:Addr) (q d:Int) (H':Hp),Same H H'->iS q d->Rz K H' (.ref p) (dI [q,d])->Q (.ref p) H'):qD K [.int t,.int b] H Q E:=by
 have z:(10000000000:Nat)<2 ^ 8000:=Tf (show(10000000000:Nat)<2 ^ 40 by decide) (Tc (by decide) (by decide));refine⟨t,b,rfl,b0,Tk ∅ z,Tk ∅ z,λp q d H' S L m1 m2 r=>k p q d H' S ⟨?_,L.pos,L.low,?_,?_⟩ r⟩
 .have w:=L.worth
  have:=L.pos
  by_cases z:0<q
  .exact z
  .have h1:q*b<=0:=Int.mul_nonpos_of_nonpos_of_nonneg ∅ ∅;have h2:0<t*d:=VY t0 L.pos;lia
 .lia
 .have:=L.pos
  lia
nonrec def z_(K:Fg):TS:=(aA (aw (qD K) [] E0 (ac (ar bc (tC (.int 1)) (ar a6 (aa 0) (ar Kj (tC (.int 10)) (tC (.int 9))))) (ac (ar bc (tC (.int 1)) (ar a6 (ar cI (aa 0) (ar Kj (tC (.int 10)) (tC (.int 9)))) (ar Kj (tC (.int 10)) (tC (.int 9))))) ae))))
nonrec def zZ(K:Fg):TS:=(ao (a4 (aK (ar ja (aa 1) (tC (.int 1))))
 (aA (aw (qD K) [] E0 (ac (ar bc (tC (.int 1)) (ar a6 (aa 0) (tC (.int 6)))) (ac (ar bc (tC (.int 1)) (ar a6 (ar cI (aa 0) (tC (.int 6))) (tC (.int 5)))) ae))))
 be)
 (z_ K))
abbrev tR(K:Fg):TS:=(ao (a4 (aK (ar ja (aa 1) (tC (.int 0))))
 (aA (bC (ac (tC (.int 1)) (ac (tC (.int 1)) ae))))
 be)
 (zZ K))
def FX{K:Fg}:ρ 2 (ib K) (tR K):=by
 fail "R";obtain⟨a,b,rfl,k⟩:=h;rw[L2.aI hN];walk_at "t";unfold tR;cbv;refine aZ (λz=>?_) (λz=>?_)
 .cbv;refine⟨aR,λp np=>?_⟩;exact k p 1 1 _ (ai np _) ⟨by decide,by decide,Rv,by decide,by decide⟩ (.tup ag (RpL.ints [1,1]))
 cbv;refine aZ (λz=>?_) (λz=>?_)
 .cbv;exact CS ∅ ∅ ∅ ∅ k
 .cbv;rw[p9];cbv;rw[p9];cbv;rw[p9];cbv;exact CS ∅ ∅ ∅ ∅ k
def PD(pa:dy ts)(t8:UD ts<=8)(h8:(aT ts).length<=8){h:Nat}(hh:h<(aT ts).length):Sml (DD ts) (900*MM ts) (Wt ts h):=by
 have ok:=dq ts;have F:=cX ok;have le:(aC ts).length=UD ts:=by unfold aC;rw[Si]
 unfold Wt;generalize bq (aT ts).length (aC ts)=f at F;have nd:=dB f (Lo.at_ f h);have hr:h∈aP f (Lo.at_ f h):=bI.mpr ⟨by rw[F.len];exact hh,rfl⟩;have ndo:(oth (aP f (Lo.at_ f h)) h).Nodup:=nd.filter _;have few:=Ca (es:=aC ts) ∅ ndo (oth (aP f (Lo.at_ f h)) h).length;rw[TX] at few;have lo:=uT nd hr;have l8:(aP f (Lo.at_ f h)).length<=8:=Ta kj (by rw[F.len];exact h8);rw[<- PH nd hr (km F ok _)]
 have s:=zA (es:=aC ts) (r:=h) pa (l:=pk (aC ts) (oth (aP f (Lo.at_ f h)) h)) λq hq=>by
  obtain⟨a,ha,ks,e1,e2,e3⟩:=B_ hq;rw[SO.mp ha,Wl] at e1
  have:=congrArg UD e2
  rw[Si] at this;rw[e1];exact⟨λk hk=>by have:=e3 k hk;lia,∅⟩
 obtain⟨m,e,l⟩:=s;exact⟨m,e,Ta l (T8 _ few)⟩
def M0(h:Rch es a b):∃n,Pn es n a b:=by
 induction h with
 |refl=>exact⟨0,rfl⟩
 |@step x y _ m ih =>
  obtain⟨n,p⟩:=ih;obtain⟨k,hk⟩:=Tb m;obtain⟨e1,e2⟩:=DM hk;have lk:=(Sn.mp hk).1
  have:=Pn.snoc (es:=es) (k:=k) lk (n:=n) (a:=a) (by rw[e1];exact p)
  rw[e2] at this;exact⟨n+1,this⟩
def Em{es:List (Nat×Nat)}(bk:∀e∈es,Rch es e.2 e.1)(h:Rch (gX es) a b):Rch es a b:=by
 induction h with
 |refl=>exact .refl
 |@step x y _ m ih =>
  refine Rch.trans ih ?_;rcases SQ.mp m with m|m
  .exact .step .refl m
  .obtain⟨e,he,z⟩:=SE.mp m;cases z;exact bk e he
def CG{x:Rat}:0<x.num↔0<x:=by
 constructor
 .intro h;have h1:=ZbT.mp (Zp h);have h2:x≠0:=λe=>by rw[e] at h;exact absurd h (by decide)
  grind
 .intro h;have h1:=ZbT.mpr (Rat.le_of_lt h)
  have h2:x.num≠0:=λe=>by
   have:=Rat.num_eq_zero.mp e
   rw[this] at h;exact absurd h (by decide)
  lia
def NO(pa:dy ts){k:Nat}(hk:k<UD ts):0<lU ts k:=by
 obtain⟨t,ht⟩:∃t,ts[k]?=some t:=⟨_,Sk hk⟩
 obtain⟨q0,d0,g,_,_⟩:=pa t (Sq ht);obtain⟨e1,e2⟩:=pG (t:=t.q) (b:=t.d) (q:=t.q) (d:=t.d) ∅ ⟨d0,g,rfl⟩;have e:lU ts k=Vm t.q t.d:=by unfold lU;rw[ht]
 rw[e];exact CG.mp (by rw[<- e1];exact q0)
def IU(pa:dy ts)(bk:∀e∈aC ts,Rch (aC ts) e.2 e.1){h:Nat}(hh:h<(aT ts).length):0<(Wt ts h).num:=by
 have ok:=dq ts;have F:=cX ok;have le:(aC ts).length=UD ts:=by unfold aC;rw[Si]
 refine CG.mpr ?_;unfold Wt;generalize bq (aT ts).length (aC ts)=f at F;have mh:h∈aP f (Lo.at_ f h):=bI.mpr ⟨by rw[F.len];exact hh,rfl⟩;refine RK (dB f _) mh (km F ok _) Cd (λk hk=>NO pa ∅) λx hx=>?_
 obtain⟨x1,x2⟩:=bI.mp hx;rw[F.len] at x1;exact M0 (Em bk ((F.tied x1 hh).mp x2))
end Tr
namespace Rd
end Rd
namespace Wq
end Wq
namespace Nv
end Nv
namespace Rk
def MF(st:Nat×List (List Int))(p:Nat):(iM st p).1<=st.1+1:=by
 unfold iM;split
 .exact XQ _
 .exact Sx _
def ME:∀(n a:Nat) (st:Nat×List (List Int)),((W_ a n).foldl iM st).1<=st.1+n
 |0,_,_=>Sx _
 |n+1,a,st=>by
  rw[List.range'_succ,WX];have h1:=ME n (a+1) (iM st a);have h2:=MF st a;lia
def Fs(w:Nat)(R:List (List Int)):size w R<=w:=by
 have:=ME w 0 (0,R)
 unfold size;rw[ZQ];lia
def LQ(hw:Wide w R)(f:bv R):UD R<=w:=by
 have:=((AZ hw).1).mpr f
 have:=Fs w R
 lia
nonrec def Mk:=List Int×Int×List Int
abbrev vs(n:Nat):List Int->List Mk->List Int
 |a :: as,t :: L=>Up (· + ·) (t.2.2.map λx=>a*x) (vs n as L)
 |_,_=>SR n 0
def zE{n:Nat}:∀(a:List Int) (L:List Mk),(∀t∈L,t.2.2.length=n)->(vs n a L).length=n
 |[],_,_=>by simp[vs]
 |_ :: _,[],_=>by simp[vs]
 |a :: as,t :: L,h=>by
  show(Up (· + ·) (t.2.2.map λx=>a*x) (vs n as L)).length=n;rw[UW,Si,h t Sv,zE as L λu hu=>h u (Sw _ hu),Zo]
def Ni{a b:List Int}(h:UD a=UD b)(p:Nat):pt (Up (· + ·) a b) p=pt a p+pt b p:=by
 unfold pt;rw[Sj,Sj,Sj,T_];by_cases q:p<UD a
 .rw[Sk q,Sk (show p<(UD b) by lia)];rfl
 .rw[Tj ∅,Tj (show (UD b)<=p by lia)];rfl
def Nd(c:Int)(r:List Int)(p:Nat):pt (r.map λx=>c*x) p=c*pt r p:=by
 unfold pt;rw[Sj,Sj,So];cases r[p]? with
 |none=>exact(TL c).symm
 |some x=>rfl
def HY(n p:Nat):pt (SR n 0) p=0:=by
 unfold pt;rw[Sj,Y1];split <;> rfl
def Na{n:Nat}(p:Nat):∀(a:List Int) (L:List Mk),(∀t∈L,t.2.2.length=n)->pt (vs n a L) p=aO a (L.map (·.2.2)) p
 |[],L,_=>by
  rw[show vs n [] L=SR n 0 by cases L <;> rfl,HY];cases L <;> rfl
 |_ :: _,[],_=>by
  show pt (SR n 0) p=_;rw[HY];rfl
 |a :: as,t :: L,h=>by
  have hl:=zE as L λu hu=>h u (Sw _ hu)
  show pt (Up (· + ·) (t.2.2.map λx=>a*x) (vs n as L)) p=a*pt t.2.2 p+aO as (L.map (·.2.2)) p;rw[Ni (by rw[Si,h t Sv,hl]),Nd,Na p as L λu hu=>h u (Sw _ hu)]
def IH{R:List (List Int)}(q:Nat):∀(a:List Int) (L:List Mk),(∀t∈L,t.2.2.length=(UD R)/\∀q,t.2.1*pt t.1 q=aO t.2.2 R q)->aO (vs (UD R) a L) R q=aO (Up (λx (t:Mk)=>x*t.2.1) a L) (L.map (·.1)) q
 |[],L,_=>by
  rw[show vs R.length [] L=SR (UD R) 0 by cases L <;> rfl,fI (λc hc=>(W6.mp hc).2)];cases L <;> rfl
 |_ :: _,[],_=>by
  show aO (SR (UD R) 0) R q=_;rw[fI (λc hc=>(W6.mp hc).2)];rfl
 |a :: as,t :: L,h=>by
  have hl:=zE (n:=R.length) as L λu hu=>(h u (Sw _ hu)).1
  have ht:=h t Sv;show aO (Up (· + ·) (t.2.2.map λx=>a*x) (vs (UD R) as L)) R q=a*t.2.1*pt t.1 q+aO (Up (λx (t:Mk)=>x*t.2.1) as L) (L.map (·.1)) q;rw[pV _ _ _ _ (by rw[Si,ht.1,hl]),b5,IH q as L λu hu=>h u (Sw _ hu),<- ht.2 q,SY]
def Ph{R:List (List Int)}(L:List Mk)(h:∀t∈L,t.2.1≠0/\t.2.2.length=(UD R)/\∀q,t.2.1*pt t.1 q=aO t.2.2 R q)(f:bv (L.map (·.1))):bv (L.map (·.2.2)):=by
 intro a la ha;rw[Si] at la;have hl:=λt ht=>(h t ht).2
 have z:∀q,aO (Up (λx (t:Mk)=>x*t.2.1) a L) (L.map (·.1)) q=0:=λq=>by
  rw[<- IH q a L hl];refine fI (λc hc=>?_) R q;obtain⟨p,hp⟩:=Tb hc;have e:=Na (n:=R.length) p a L λt ht=>(hl t ht).1
  rw[ha p] at e;unfold pt at e;rw[Sj,hp] at e;exact e
 have zz:=f _ (by rw[UW,Si,la,Zo]) z;intro c hc;obtain⟨i,hi⟩:=Tb hc;have li:=(Sn.mp hi).1;have lL:i<UD L:=by lia
 have e2:(Up (λx (t:Mk)=>x*t.2.1) a L)[i]?=some (c*(L[i]).2.1):=by
  rw[T_,hi,Sk lL]
 have:=zz _ (Sq e2)
 rcases TJ.mp this with q|q
 .exact q
 .exact absurd q (h _ (Ul lL)).1
abbrev PY(R:List (List Int))(x:List Int):Prop:=∃(g:Int) (d:List Int),g≠0/\d.length=R.length/\∀q,g*pt x q=aO d R q
def wv(f:bv S)(h:∀s∈S,PY R s):UD S<=UD R:=by
 have mk:∀S:List (List Int),(∀s∈S,PY R s)->∃L:List Mk,L.map (·.1)=S/\∀t∈L,t.2.1≠0/\t.2.2.length=(UD R)/\∀q,t.2.1*pt t.1 q=aO t.2.2 R q:=by
  intro S
  induction S with
  |nil=>intro _;exact⟨[],rfl,by simp⟩
  |cons s S ih =>
   intro h;obtain⟨L,e,hL⟩:=ih λu hu=>h u (Sw _ hu)
   obtain⟨g,d,h1,h2,h3⟩:=h s Sv;refine⟨(s,g,d) :: L,by rw[TM,e],λt ht=>?_⟩;rcases S_.mp ht with rfl|ht
   .exact⟨h1,h2,h3⟩
   .exact hL t ht
 obtain⟨L,e,hL⟩:=mk S h;have f2:=Ph L hL (by rw[e];exact f)
 have:=LQ (w:=R.length) (λr hr=>by obtain⟨t,ht,rfl⟩:=SE.mp hr;exact(hL t ht).2.1) f2
 rw[Si] at this;rw[<- e,Si];exact this
abbrev Sp(R:List (List Int))(φ:Nat->Int):Prop:=∃(g:Int) (d:List Int),g≠0/\d.length=R.length/\∀q,g * φ q=aO d R q
def Sp.zero(R:List (List Int)):Sp R λ_=>0:=⟨1,SR (UD R) 0,by decide,Uh,λq=>by rw[fI λc hc=>(W6.mp hc).2];rfl⟩
def Sp.smul(h:Sp R φ)(c:Int):Sp R λq=>c * φ q:=by
 obtain⟨g,d,hg,ld,e⟩:=h;refine⟨g,d.map λx=>c*x,hg,by rw[Si];exact ld,λq=>?_⟩;rw[b5,<- e q,<- SY,<- SY,T9 g c]
def Sp.add(h:Sp R φ)(k:Sp R ψ):Sp R λq=>φ q + ψ q:=by
 obtain⟨g,d,hg,ld,e⟩:=h;obtain⟨f,c,hf,lc,m⟩:=k;refine⟨g*f,Up (· + ·) (d.map λx=>f*x) (c.map λx=>g*x),λz=>(TJ.mp z).elim hg hf,by rw[UW,Si,Si,ld,lc,Zo],λq=>?_⟩;rw[pV _ _ _ _ (by rw[Si,Si,ld,lc]),b5,b5,<- e q,<- m q,Vb];have e1:g*f * φ q=f*(g * φ q):=by rw[<- SY,T9 g f]
 have e2:g*f * ψ q=g*(f * ψ q):=SY _ _ _;rw[e1,e2]
def Sp.of{ψ:Nat->Int}(h:Sp R φ)(e:∀q,ψ q=φ q):Sp R ψ:=by
 obtain⟨g,d,hg,ld,m⟩:=h;exact⟨g,d,hg,ld,λq=>by rw[e q];exact m q⟩
def Sp.div{ψ:Nat->Int}{c:Int}(hc:c≠0)(h:Sp R φ)(e:∀q,c * ψ q=φ q):Sp R ψ:=by
 obtain⟨g,d,hg,ld,m⟩:=h;refine⟨g*c,d,λz=>(TJ.mp z).elim hg hc,ld,λq=>?_⟩;rw[SY,e q];exact m q
def Sp.cons{R:List (List Int)}{φ:Nat->Int}(r:List Int)(h:Sp R φ):Sp (r :: R) φ:=by
 obtain⟨g,d,hg,ld,m⟩:=h;refine⟨g,0 :: d,hg,by rw[Tu,Tu,ld],λq=>?_⟩;show _=0*pt r q+aO d R q;rw[Uq,UB];exact m q
def Sp.mem:∀{R:List (List Int)} {r:List Int},r∈R->Sp R (pt r)
 |s :: R,r,h=>by
  rcases S_.mp h with rfl|h
  .refine⟨1,1 :: SR (UD R) 0,by decide,by simp,λq=>?_⟩;show 1*pt r q=1*pt r q+aO (SR (UD R) 0) R q;rw[fI λc hc=>(W6.mp hc).2,UF]
  .exact(Sp.mem h).cons s
def Sp.dots{G:List (List Int)}:∀(d:List Int) (R:List (List Int)),(∀r∈R,Sp G (pt r))->Sp G (aO d R)
 |[],R,_=>(Sp.zero G).of λq=>by cases R <;> rfl
 |_ :: _,[],_=>(Sp.zero G).of λq=>rfl
 |a :: d,r :: R,h=>(((h r Sv).smul a).add (Sp.dots d R λs hs=>h s (Sw _ hs))).of λ_=>rfl
def Sp.trans(h:Sp R φ)(k:∀r∈R,Sp G (pt r)):Sp G φ:=by
 obtain⟨g,d,hg,ld,m⟩:=h;exact(Sp.dots d R k).div hg m
def Sp.sub(h:Sp R φ)(k:Sp R ψ):Sp R λq=>φ q-ψ q:=(h.add (k.smul (-1))).of λq=>by lia
def Qi{x:List Int}(f:bv G)(n : ¬ bv (G++[x])):Sp G (pt x):=by
 apply Uw;intro no;refine n λa la ha=>?_
 obtain⟨b,c,rfl,lb,lc⟩:=split_len la
 obtain⟨y,rfl⟩:∃y,c=[y]:=by
  match c,lc with
  |[y],_=>exact⟨y,rfl⟩
 have h0:∀p,aO b G p+y*pt x p=0:=λp=>by
  have:=ha p
  rw[cE _ _ _ lb] at this;have e:aO [y] [x] p=y*pt x p:=by show y*pt x p+0=_;rw[UF]
  rw[e] at this;exact this
 have hy:y=0:=Uw λq=>no ⟨y,b.map λz=>(-1)*z,q,by rw[Si];exact lb,λp=>by rw[b5];have:=h0 p;lia⟩
 subst hy;have hb:=f b lb λp=>by have:=h0 p;rw[Uq,UF] at this;exact this
 intro z hz;rcases SQ.mp hz with q|q
 .exact hb z q
 .exact SO.mp q
def Bn(fa:bv A)(fb:bv B)(h:∀a∈A,Sp B (pt a))(k:∀b∈B,Sp A (pt b)):UD A=UD B:=Nat.le_antisymm (wv fa h) (wv fb k)
def jz{R:List (List Int)}:∀i,bv (Sf.rowsOf R (Sf.grd R i))
 |0=>λa la _ c hc=>by
  have:a=[]:=TB (by rw[la];rfl)
  rw[this] at hc;cases hc
 |i+1=>by
  by_cases h:bv (Sf.rowsOf R (Sf.grd R i)++[R.getD i []])
  .rw[Sf.kG rfl h];unfold Sf.rowsOf at h ⊢;rw[Sr];exact h
  .rw[Sf.so rfl h];exact jz i
def Sp.app{S:List (List Int)}(h:Sp R φ):Sp (R++S) φ:=h.trans λr hr=>Sp.mem (Te _ hr)
def xq{R:List (List Int)}:∀(i j:Nat),j<i->Sp (Sf.rowsOf R (Sf.grd R i)) (pt (R.getD j []))
 |0,j,h=>absurd h (TZ _)
 |i+1,j,hj=>by
  by_cases h:bv (Sf.rowsOf R (Sf.grd R i)++[R.getD i []])
  .have e:Sf.rowsOf R (Sf.grd R (i+1))=Sf.rowsOf R (Sf.grd R i)++[R.getD i []]:=by
    rw[Sf.kG rfl h];unfold Sf.rowsOf;rw[Sr];rfl
   rw[e];by_cases q:j<i
   .exact(xq i j q).app
   .have:j=i:=by lia
    subst this;exact Sp.mem (SW _ (SO.mpr rfl))
  .have e:Sf.rowsOf R (Sf.grd R (i+1))=Sf.rowsOf R (Sf.grd R i):=by rw[Sf.so rfl h]
   rw[e];by_cases q:j<i
   .exact xq i j q
   .have:j=i:=by lia
    subst this;exact Qi (jz j) h
end Rk
namespace Lk
open Rk Sf Ti Lo
def Nh(a b:List Int)(q:Nat):pt (a++b) q=if q<(UD a) then pt a q else pt b (q-UD a):=by
 unfold pt;rw[Sj,List.getElem?_append];split
 .rw[Sj]
 .rw[Sj]
def BS{a:List Int}{q:Nat}(h:UD a<=q):pt a q=0:=by
 unfold pt;rw[Sj,Tj h];rfl
def vH{p:Nat}:∀(b:List Int) (R:List (List Int)),(∀r∈R,pt r p=0)->aO b R p=0
 |[],R,_=>by cases R <;> rfl
 |_ :: _,[],_=>rfl
 |x :: b,r :: R,h=>by
  show x*pt r p+aO b R p=0;rw[h r Sv,TL,vH b R λs hs=>h s (Sw _ hs)];rfl
def mP{g:Nat->List Int}{pos:Nat->Nat}:∀(V:List Nat) (b:List Int),V.Nodup->UD b=UD V->(∀u∈V,∀v∈V,pt (g v) (pos u)=if v=u then 1 else 0)->(∀u∈V,aO b (V.map g) (pos u)=0)->∀c∈b,c=0
 |[],b,_,lb,_,_,c,hc=>by
  have:b=[]:=TB lb
  rw[this] at hc;cases hc
 |v :: V,[],_,lb,_,_,_,_=>by simp at lb
 |v :: V,x :: b,nd,lb,hp,h0,c,hc=>by
  obtain⟨nv,nd'⟩:=Uj.mp nd
  have z:aO b (V.map g) (pos v)=0:=vH b _ λr hr=>by
   obtain⟨u,hu,rfl⟩:=SE.mp hr;rw[hp v Sv u (Sw _ hu),if_neg λe:u=v=>nv (e ▸ hu)]
  have hx:x=0:=by
   have:=h0 v Sv
   rw[show aO (x :: b) ((v :: V).map g) (pos v)=x*pt (g v) (pos v)+aO b (V.map g) (pos v) from rfl,z,hp v Sv v Sv,if_pos rfl] at this;lia
  rcases S_.mp hc with rfl|hc
  .exact hx
  .refine mP V b nd' (by simpa using lb) (λu hu w hw=>hp u (Sw _ hu) w (Sw _ hw)) (λu hu=>?_) c hc
   have:=h0 u (Sw _ hu)
   rw[show aO (x :: b) ((v :: V).map g) (pos u)=x*pt (g v) (pos u)+aO b (V.map g) (pos u) from rfl,hx,Uq,UB] at this;exact this
def DE{R:List (List Int)}:∀{k i:Nat},i∈grd R k->i<k
 |0,i,h=>by
  have:grd R 0=[]:=rfl
  rw[this] at h;cases h
 |k+1,i,h=>by
  by_cases f:bv (rowsOf R (grd R k)++[R.getD k []])
  .rw[kG rfl f] at h;rcases SQ.mp h with q|q
   .have:=DE q
    lia
   .rw[SO.mp q];lia
  .rw[so rfl f] at h
   have:=DE h
   lia
def o4{r:List Int}(h:r∈rowsOf R (grd R k)):∃i,i<k/\r=R.getD i []:=by
 obtain⟨i,hi,rfl⟩:=SE.mp h;exact⟨i,DE hi,rfl⟩
abbrev reps(f:List Nat):List Nat:=(SJ (UD f)).filter λv=>at_ f v=v
abbrev mk(Y:Nat->List Int)(f:List Nat)(h:Nat):List Int:=Y h++(reps f).map λv=>if at_ f h=v then 1 else 0
def JS(f:List Nat):(reps f).Nodup:=List.Pairwise.filter _ WL
def pE{v:Nat}:v∈reps f↔v<(UD f)/\at_ f v=v:=by
 unfold reps;rw[Tt,Tv,decide_eq_true_iff]
def Kt{Y:Nat->List Int}{w:Nat}(hY:(Y h).length=w):pt (mk Y f h) q=pt (Y h) q+(if q<w then 0 else pt ((reps f).map λv=>if at_ f h=v then 1 else 0) (q-w)):=by
 unfold mk;rw[Nh,hY];split
 .rw[UF]
 .rw[BS (a:=Y h) ∅,UB]
def Lb{Y:Nat->List Int}{w:Nat}(hh:(Y h).length=w)(hk:(Y k).length=w)(e:at_ f h=at_ f k)(q:Nat):pt (mk Y f k) q-pt (mk Y f h) q=pt (Y k) q-pt (Y h) q:=by
 rw[Kt hh,Kt hk,e];lia
def CY{w:Nat}{Y:Nat->List Int}(F:FI n es es f)(lf:UD f=n)(ok:Mo n es)(hY:∀h,h<n->(Y h).length=w){C:List (List Int)}(lC:UD C=UD es)(wC:Wide w C)
  (hC:∀i e,es[i]?=some e->∀q,pt (C.getD i []) q=pt (Y e.2) q-pt (Y e.1) q) :
  (grd ((SJ n).map (mk Y f)) n).length=(reps f).length+(grd C (UD C)).length:=by
 have tied:∀{i j:Nat},i<n->j<n->(at_ f i=at_ f j↔Rch (gX es) i j):=λhi hj=>F.tied hi hj
 have row:∀{h:Nat},h<n->((SJ n).map (mk Y f)).getD h []=mk Y f h:=λhh=>by
  rw[Sj,So,TC hh];rfl
 have edge:∀{i:Nat},i<UD C->∃e,es[i]?=some e/\e.1<n/\e.2<n/\at_ f e.1=at_ f e.2/\∀q,pt (C.getD i []) q=pt (mk Y f e.2) q-pt (mk Y f e.1) q:=by
  intro i hi;have hi':i<UD es:=by lia
  refine⟨es[i],Sk hi',?_⟩;have m:=Ul hi';have o:=ok _ m;have t:at_ f es[i].1=at_ f es[i].2:=(tied o.1 o.2).mpr (.step .refl (Te _ m));exact⟨o.1,o.2,t,λq=>by rw[hC i _ (Sk hi') q,Lb (hY _ o.1) (hY _ o.2) t]⟩
 generalize hG:rowsOf C (grd C (UD C))=Gc;have fG:bv Gc:=hG ▸ jz _;have lG:UD Gc=(grd C (UD C)).length:=by rw[<- hG];unfold rowsOf;rw[Si]
 have inG:∀{i:Nat},i<UD C->Sp Gc (pt (C.getD i [])):=λhi=>hG ▸ xq (UD C) _ hi
 have wG:∀r∈Gc,UD r=w:=λr hr=>by
  rw[<- hG] at hr;obtain⟨i,hi,rfl⟩:=o4 hr;refine wC _ (Sq (i:=i) ?_);rw[Sj,Sk hi];rfl
 have fB:bv ((reps f).map (mk Y f)++Gc):=by
  intro a la ha;obtain⟨b,c,rfl,lb,lc⟩:=split_len la;have lbV:UD b=(reps f).length:=by rw[lb,Si]
  obtain⟨ps,hps⟩:∃ps:Nat->Nat,∀u∈reps f,(reps f)[ps u]?=some u:=by
   refine⟨λu=>if h:u∈reps f then VH (Tb h) else 0,λu hu=>?_⟩;show(reps f)[dite (u∈reps f) (λh=>VH (Tb h)) (λ_=>0)]?=some u;rw[dif_pos hu];exact Vk (Tb hu)
  have hb:∀x∈b,x=0:=by
   refine mP (g:=mk Y f) (pos:=λu=>w+ps u) (reps f) b (JS f) lbV (λu hu v hv=>?_) (λu hu=>?_)
   .obtain⟨v1,v2⟩:=pE.mp hv;rw[Kt (hY v ∅),BS (a:=Y v) (by rw[hY v ∅];lia),UB,if_neg ∅,Vu];unfold pt;rw[Sj,So,hps u hu,v2];rfl
   .have:=ha (w+ps u)
    rw[cE _ _ _ lb,vH c Gc λr hr=>BS (by rw[wG r hr];lia),UF] at this;exact this
  have hc:=fG c lc λp=>by
   have:=ha p
   rw[cE _ _ _ lb,fI hb,UB] at this;exact this
  intro x hx;rcases SQ.mp hx with q|q
  .exact hb x q
  .exact hc x q
 have inB:∀{i:Nat},i<UD C->Sp ((reps f).map (mk Y f)++Gc) (pt (C.getD i [])):=λhi=>(inG hi).trans λr hr=>Sp.mem (SW _ hr)
 have path:∀{v h:Nat},v∈reps f->Rch (gX es) v h->Sp ((reps f).map (mk Y f)++Gc) (pt (mk Y f h)):=by
  intro v h hv r
  induction r with
  |refl=>exact Sp.mem (Te _ (SE.mpr ⟨v,hv,rfl⟩))
  |@step x y r m ih =>
   rcases SQ.mp m with m|m
   .obtain⟨i,hi⟩:=Tb m;have li:i<UD C:=by rw[lC];exact(Sn.mp hi).1
    obtain⟨e,ee,_,_,_,d⟩:=edge li;rw[hi] at ee;cases SU ee;exact(ih.add (inB li)).of λq=>by have:=d q;simp only at this;lia
   .obtain⟨e',me,ee'⟩:=SE.mp m;obtain⟨i,hi⟩:=Tb me;have li:i<UD C:=by rw[lC];exact(Sn.mp hi).1
    obtain⟨e,ee,_,_,_,d⟩:=edge li;rw[hi] at ee;cases SU ee;have e1:e'.2=x:=congrArg ZS ee';have e2:e'.1=y:=congrArg Yu ee';exact(ih.sub (inB li)).of λq=>by have:=d q;rw[e1,e2] at this;lia
 have all:∀h,h<n->Sp ((reps f).map (mk Y f)++Gc) (pt (mk Y f h)):=λh hh=>by
  have l1:=F.le h hh;exact path (v:=at_ f h) (pE.mpr ⟨∅,F.fix h hh⟩) (jD (F.tie h hh))
 have e:=Bn (A:=rowsOf ((SJ n).map (mk Y f)) (grd ((SJ n).map (mk Y f)) n)) (B:=(reps f).map (mk Y f)++Gc) (jz _) fB (λa ha=>by
  obtain⟨i,hi,rfl⟩:=o4 ha
  rw[row hi]
  exact all i hi) λb hb=>by
   have rowSp:∀h,h<n->Sp (rowsOf ((SJ n).map (mk Y f)) (grd ((SJ n).map (mk Y f)) n)) (pt (mk Y f h)):=λh hh=>by
    have:=xq (R:=(SJ n).map (mk Y f)) n h hh
    rw[row hh] at this;exact this
   rcases SQ.mp hb with q|q
   .obtain⟨v,hv,rfl⟩:=SE.mp q;exact rowSp v (by have:=(pE.mp hv).1;lia)
   .rw[<- hG] at q;obtain⟨i,hi,rfl⟩:=o4 q;obtain⟨e,_,l1,l2,_,d⟩:=edge hi;exact((rowSp _ l2).sub (rowSp _ l1)).of d
 unfold rowsOf at e;rw[Si,SC,Si,lG] at e;exact e
end Lk
namespace Mb
end Mb
namespace Lc
open PySem L2 Fr G1 Sm Vs G2 Rk Sz Sf Rw Ti Lo
open PySem.W (Dat kqdOk)
abbrev mi(n:Nat)(M:List (List Int)):List Int:=M.map λl=>if (n:Int)∈l then 1 else 0
abbrev ur(K:Fg):Sp:=λvs H Q _=>∃(n:Nat) (u:V) (M:List (List Int)),vs=[.int (n:Int),u]/\Rp K (λ_=>True) H u (dM M)/\M.length<=100/\∀(p:Addr) (H':Hp),AccZ K H p H' ((mi n M).map TF)->Q (.ref p) H'
abbrev tU(K:Fg):TS:=(aA (ck (bY K (aa 1)) (Mj (aK (ar (i_ K false) (aa 1) (aa 0))) (tC (.int 1)) (tC (.int 0)))))
def wY{l:List Int}:TF n∈l.map TF↔n∈l:=by
 constructor
 .intro h;obtain⟨x,hx,e⟩:=SE.mp h;cases e;exact hx
 .exact λh=>SE.mpr ⟨n,h,rfl⟩
def FY{K:Fg}:ρ 2 (ur K) (tU K):=by
 fail "R";obtain⟨n,u,M,rfl,ru,hl,k⟩:=h;rw[L2.aI hN];walk_at "t";obtain⟨c,ys,rfl,_,hc,ry⟩:=Rp.kB ru;have ly:UD ys=UD M:=by rw[ry.length,Si]
 have lm:(mi n M).length=UD M:=by unfold mi;rw[Si]
 unfold tU;cbv;refine mn (SqL.of hc) ?_;refine bZ (xs:=ys) λD nD=>⟨λj H2=>AccZ K H D H2 (((mi n M).take j).map TF),by simpa using AccZ.start (Same.refl _) nD,λj H2 _ A=>SqL.of (A.same _ _ hc),?_,?_⟩
 .intro j x H2 hx A;have lj:=(Sn.mp hx).1;obtain⟨d,g1,g2⟩:=ry.get hx;rw[So] at g1;obtain⟨l,hl2,rfl⟩:=SA.mp g1;have ej:(mi n M)[j]?=some (if (n:Int)∈l then 1 else 0):=by unfold mi;rw[So,hl2];rfl
  have r2:=g2.same A.same;cbv;refine OI (d:=TF (n:Int)) (ds:=l.map TF) (.int _) r2.rep (λe he=>by obtain⟨b,_,rfl⟩:=SE.mp he;rfl) rfl (λz=>?_) (λz=>?_)
  .have z':=wY.mp z;cbv;refine aH lj ?_;refine A.bG (.int 1) (am (by rw[Si,SL];lia)) λH5 A5=>?_
   show AccZ K H D H5 (((mi n M).take (j+1)).map TF);rw[SK,ej,Sr,if_pos z'];exact A5
  .have z' : ¬ (n:Int)∈l:=λy=>z (wY.mpr y)
   cbv;refine aH lj ?_;refine A.bG (.int 0) (am (by rw[Si,SL];lia)) λH5 A5=>?_
   show AccZ K H D H5 (((mi n M).take (j+1)).map TF);rw[SK,ej,Sr,if_neg z'];exact A5
 .intro H2 A;rw[SD ∅] at A;exact k D H2 A
abbrev eG(ts:List Tn):Int:=((aT ts).length:Int)-(b6 ts).length-(wE (ts.map cS)).free.length
abbrev AV(K:Fg):Sp:=λvs H Q _=>∃(v:V) (ws:List Str) (ts:List Tn) (w:Nat),vs=[v]/\Rz K H v (dV ws ts)/\qi w ts/\(aT ts).length<=8/\∀H',Same H H'->Q (.int (eG ts)) H'
abbrev Aj(K:Fg):TS:=(aA (ar kf (ar kf (bO (bz K) (ac (aw (c_ K) [] E0 (ac (aa 0) ae)) ae)) (bO (bz K) (ac (aw (mI K) [] E0 (ac (aa 0) ae)) ae))) (bO (bz K) (ac (aw (oK K) [] E0 (ac (aa 0) ae)) ae))))
def J6{K:Fg}:ρ 1 (AV K) (Aj K):=by
 fail "R";obtain⟨v,ws,ts,w,rfl,rv,co,h8,k⟩:=h;rw[L2.aI hN];walk_at "t";unfold Aj;have t8:=co.le;cbv;refine⟨v,ws,ts,rfl,rv,∅,λp1 H1 A1=>?_⟩;obtain⟨xs,hp1,rx⟩:=A1.at_;have lx:UD xs=(aT ts).length:=by rw[rx.length,Si]
 cbv;refine bH (SqL.of hp1) ?_;rw[lx];cbv;refine⟨v,ws,ts,rfl,rv.same A1.same,t8,h8,λp2 H2 S2 r2=>?_⟩;obtain⟨c,ys,ec,_,hc,ry⟩:=Rp.kB r2;cases ec;have ly:UD ys=(b6 ts).length:=by rw[ry.length,Si]
 cbv;refine bH (SqL.of hc) ?_;rw[ly];cbv;refine⟨v,ws,ts,w,rfl,(rv.same A1.same).same S2,co,λp3 H3 A3=>?_⟩;have h3:=AccZ.ints A3;cbv;refine bH (SqL.of h3) ?_;have ln:((ni (wE (ts.map cS)).free).map V.int).length=(wE (ts.map cS)).free.length:=by unfold ni;rw[Si,Si]
 rw[ln];cbv;exact k H3 ((A1.same.trans S2).trans A3.same)
abbrev cD(ts:List Tn):List (List Int):=(SJ (aT ts).length).map λi=>(aT ts).getD i []++mi i (b6 ts)
abbrev ut(K:Fg):Sp:=λvs H Q _=>∃(v:V) (ws:List Str) (ts:List Tn) (w:Nat),vs=[v]/\Rz K H v (dV ws ts)/\qi w ts/\(aT ts).length<=8/\(b6 ts).length<=8/\Wide w (aT ts)/\zj 2 (aT ts) /\
 ∀(p:Addr) (H':Hp),Same H H'->Rp K (λa=>H a=none) H' (.ref p) (dM (wE (cD ts)).makers)->Q (.ref p) H'
def cV(ts:List Tn):(cD ts).length=(aT ts).length:=by unfold cD;rw[Si,SV]
def GR{i:Nat}(h:i<(aT ts).length):(cD ts)[i]?=some ((aT ts).getD i []++mi i (b6 ts)):=by unfold cD;rw[So,TC h];rfl
def iu(hw:Wide w (aT ts)):Wide (w+(b6 ts).length) (cD ts):=λr hr=>by
 unfold cD at hr;obtain⟨i,hi,rfl⟩:=SE.mp hr;rw[SC];unfold mi;rw[Si,Sj,Sk (Tv.mp hi),XG,hw _ (Ul _)]
def kC(br:zj 2 (aT ts)):zj 2 (cD ts):=λr hr c hc=>by
 unfold cD at hr;obtain⟨i,hi,rfl⟩:=SE.mp hr;rcases SQ.mp hc with y|y
 .rw[Sj,Sk (Tv.mp hi),XG] at y;exact br _ (Ul _) c y
 .unfold mi at y;obtain⟨l,_,rfl⟩:=SE.mp y;split <;> decide
nonrec def Ai(K:Fg):TS:=(aA (aw (oI K) [] E0 (ac (c5 (iw K (ac (aw (c_ K) [] E0 (ac (aa 0) ae)) ae)) 2 (cf K 2 (aS (ak 0) (aS (ak 1) cj))) (ar lT (bO (eU K) (ac (aa 1) ae)) (aw (ur K) [] E0 (ac (aa 0) (ac (aa 3) ae))))) ae)))
abbrev tX(K:Fg):TS:=(ao (ay (aw (mI K) [] E0 (ac (aa 0) ae)) (ak 1))
 (Ai K))
def F1{K:Fg}:ρ 2 (ut K) (tX K):=by
 fail "R";obtain⟨v,ws,ts,w,rfl,rv,co,h8,l8,hw,br,k⟩:=h;rw[L2.aI hN];walk_at "t";unfold tX;have t8:=co.le;have w5:=co.w5;cbv;refine⟨v,ws,ts,rfl,rv,t8,h8,λp1 H1 S1 r1=>?_⟩;cbv;refine⟨v,ws,ts,rfl,rv.same S1,∅,λp2 H2 A2=>?_⟩;obtain⟨xs,hp2,rx⟩:=A2.at_;have lx:UD xs=(aT ts).length:=by rw[rx.length,Si]
 have r2:Rp K (λ_=>True) H2 (.ref p1) (dM (b6 ts)):=(r1.same A2.same).mono λ_ _=>trivial
 have S02:=S1.trans A2.same;cbv;refine⟨p2,_,rfl,SqL.of hp2,?_⟩;refine mV (xs:=xs) λD nD=>⟨λj H3=>Acc K H2 D H3 (((cD ts).take j).map dL),by simpa using Acc.start nD,λj H3 _ A=>SqL.of (A.same _ _ hp2),?_,?_⟩
 .rintro j x H3 T hx A nT us hu
  obtain⟨u0,u1,rfl⟩:∃u w,us=[u,w]:=ex2 hu
  have lj:=(Sn.mp hx).1;have lj':j<(aT ts).length:=by lia
  obtain⟨d,g1,g2⟩:=rx.get hx;rw[So,Sk lj'] at g1;cases g1;obtain⟨b,rfl,hb⟩:=dG (g2.same A.same);have eB:=GR lj';rw[Sj,Sk lj',XG] at eB;have lr:(aT ts)[j].length=w:=hw _ (Ul _);generalize (aT ts)[j]=r at hb eB lr;have S3:=ai nT (.tup [.int (j:Int),.ref b]);have hT:upd H3 T (.tup [.int (j:Int),.ref b]) T=some (.tup [.int (j:Int),.ref b]):=ag;have hb3:=S3 _ _ hb;have A3:=A.on S3;generalize upd H3 T (.tup [.int (j:Int),.ref b])=H4 at S3 hT hb3 A3 ⊢;refine bu (SqT.of hT) rfl ?_;cbv;refine⟨⟨[↥(j:Int),⇑b],rfl,rfl⟩,?_⟩;cbv;refine Dd (SqT.of hb3) λl nl=>?_
  have S5:=ai nl (.lst (r.map V.int));have hl5:upd H4 l (.lst (r.map V.int)) l=some (.lst (r.map V.int)):=ag;generalize upd H4 l (.lst (r.map V.int))=H5 at S5 hl5 ⊢;have S45:=A3.same.trans S5;cbv;refine⟨j,.ref p1,b6 ts,rfl,r2.same S45,∅,λm H6 A6=>?_⟩;have h6:=AccZ.ints A6;cbv;have lk:(mi j (b6 ts)).length=(b6 ts).length:=by unfold mi;rw[Si]
  refine⟨l,m,_,_,rfl,rfl,A6.same _ _ hl5,h6,by rw[UG,Si,Si];lia,λq nq=>?_⟩;have S7:=ai nq (.lst (r.map V.int++(mi j (b6 ts)).map V.int));have hq:upd H6 q (.lst (r.map V.int++(mi j (b6 ts)).map V.int)) q=some (.lst ((r++mi j (b6 ts)).map V.int)):=by rw[Sr];exact ag
  have S47:=(S5.trans A6.same).trans S7;have nq4:H4 q=none:=(S5.trans A6.same).free nq;generalize upd H6 q (.lst (r.map V.int++(mi j (b6 ts)).map V.int))=H7 at S7 hq S47 ⊢;refine aH lj ?_;refine A3.bG S47 (d:=dL (r++mi j (b6 ts))) (jj nq4 hq) (am (by rw[Si,SL];lia)) λH8 A8=>?_
  show Acc K H2 D H8 (((cD ts).take (j+1)).map dL);rw[SK,eB,Sr];exact A8
 .intro H3 A;have lB:=cV ts;rw[SD ∅] at A;cbv;refine⟨D,cD ts,w+(b6 ts).length,2,rfl,Bt A,iu hw,∅,∅,kC br,by decide,IR ∅,λq H4 S4 r4=>?_⟩;have S03:=S02.trans A.same;exact k q H4 (S03.trans S4) (r4.mono λ_ z=>S03.free z)
def DA{hs:List (List Int)}:∀(ts:List Tn) (l:List (List Int)),(∀t∈ts,t.fr∈hs/\t.to∈hs)->(∀x∈l,x∈hs)->∀x∈fQ l ts,x∈hs
 |[],l,_,h,x,hx=>h x hx
 |t :: ts,l,ht,h,x,hx=>by
  have ins:∀(l:List (List Int)) (y:List Int),(∀x∈l,x∈hs)->y∈hs->∀x∈bS l y,x∈hs:=λl y h hy x hx=>by
   unfold bS at hx;split at hx
   .exact h x hx
   .rcases SQ.mp hx with z|z
    .exact h x z
    .rw[SO.mp z];exact hy
  have t0:=ht t Sv;exact DA ts (bS (bS l t.fr) t.to) (λu hu=>ht u (Sw _ hu)) (ins _ _ (ins _ _ h t0.1) t0.2) x hx
structure Me (w:Nat) (ts:List Tn):Prop where
 h8:(aT ts).length<=8
 l8:(b6 ts).length<=8
 wide:Wide w (aT ts)
 bnd:zj 2 (aT ts)
 to:∀t∈ts,t.to.length=w
def LL(vo:iA ws ts):Me ws.length ts:=by
 obtain⟨hs,po,h8,tk⟩:=vo.turns;have sub:∀x∈aT ts,x∈hs:=DA ts [] (λt ht=>⟨(tk.ok t ht).1,(tk.ok t ht).2.1⟩) λx h=>by cases h
 have n8:(aT ts).length<=8:=Ta (bQ (IA ts) sub) h8;refine⟨n8,?_,λr hr=>(po.2 r (sub r hr)).1,λr hr c hc=>?_,λt ht=>(po.2 _ (tk.ok t ht).2.1).1⟩
 .unfold b6 e_;rw[Si,Si];refine Ta (Ua _ _) ?_;rw[SV,(cX (dq ts)).len];exact n8
 .have:=(po.2 r (sub r hr)).2 c hc
  show c.natAbs<4;lia
section
variable{ts:List Tn}{w:Nat}
def GM(ts:List Tn):(b6 ts).length=(Lk.reps (bq (aT ts).length (aC ts))).length:=by
 unfold b6 e_ Lk.reps;rw[Si,Si]
def GK{i:Nat}(hi:i<(aT ts).length):mi i (b6 ts)=(Lk.reps (bq (aT ts).length (aC ts))).map λv=>if at_ (bq (aT ts).length (aC ts)) i=v then 1 else 0:=by
 have F:=cX (dq ts);unfold b6 mi e_ Lk.reps;generalize bq (aT ts).length (aC ts)=f at F;rw[TY,TY];refine UV λv _=>?_
 show(if (i:Int)∈zN (aP f v) then (1:Int) else 0)=_
 have e:(i:Int)∈zN (aP f v)↔at_ f i=v:=by
  unfold zN aP;rw[SE];constructor
  .rintro⟨a,ha,ea⟩
   have:a=i:=Wp ea
   subst this;simpa using(Tt.mp ha).2
  .intro h;exact⟨i,Tt.mpr ⟨Tv.mpr (by rw[F.len];exact hi),by simpa using h⟩,rfl⟩
 by_cases c:at_ f i=v
 .rw[if_pos (e.mpr c),if_pos c]
 .rw[if_neg λz=>c (e.mp z),if_neg c]
def GQ(ts:List Tn):cD ts=(SJ (aT ts).length).map (Lk.mk (λh=>(aT ts).getD h []) (bq (aT ts).length (aC ts))):=by
 unfold cD;refine UV λi hi=>?_
 rw[GK (Tv.mp hi)];rfl
def DF{x:List Int}(h:x∈aT ts):(aT ts).getD (ix (aT ts) x) []=x:=by rw[Sj,GX h];rfl
def O6(hw:Wide w (aT ts)){h:Nat}(hh:h<(aT ts).length):((aT ts).getD h []).length=w:=by
 rw[Sj,Sk hh];exact hw _ (Ul _)
def Lr(co:qi w ts)(ho:Me w ts):(grd (cD ts) (cD ts).length).length=(b6 ts).length+(grd (ts.map cS) (ts.map cS).length).length:=by
 rw[cV,GQ,GM];have F:=cX (dq ts);refine Lk.CY (w:=w) F F.len (dq ts) (λh hh=>O6 ho.wide hh) (by unfold aC;rw[Si,Si]) co.wide λi e he q=>?_
 unfold aC at he;rw[So] at he;obtain⟨t,ht,rfl⟩:=SA.mp he;have mt:=Sq ht;have m:=dX (hs:=[]) mt;show pt ((ts.map cS).getD i []) q=pt ((aT ts).getD (ix (aT ts) t.to) []) q-pt ((aT ts).getD (ix (aT ts) t.fr) []) q;rw[DF m.2,DF m.1,<- Dn.Ng (co.fr t mt) (ho.to t mt),Sj,So,ht];rfl
def C0(co:qi w ts)(ho:Me w ts):((wE (cD ts)).makers.length:Int)=eG ts/\(wE (cD ts)).makers.length+(grd (cD ts) (cD ts).length).length=(aT ts).length:=by
 have hw:=iu ho.wide;have hb:=kC ho.bnd;have J:=Mk.Le hw (by decide) hb _ (Sx _);have I:=A_ hw (by decide) hb _ (Sx _);have c:(wE (cD ts)).makers.length+(grd (cD ts) (cD ts).length).length=(cD ts).length:=by rw[<- I.free];exact J.cnt
 rw[cV] at c;have r:=Lr co ho;rw[cV] at r;have s:=congrArg UD (A_ co.wide (by decide) co.bnd (ts.map cS).length (Sx _)).free;have s':(wE (ts.map cS)).free.length=(grd (ts.map cS) (ts.map cS).length).length:=s;refine⟨?_,by rw[cV];exact c⟩;unfold eG;lia
end
end Lc
namespace Wd
end Wd
namespace Tw
end Tw
namespace Tp2
end Tp2
namespace Md
end Md
namespace Tr2
end Tr2
namespace Cm
end Cm
namespace Cg
end Cg
namespace Bg
end Bg
namespace Gu
end Gu
namespace Tg
end Tg
local macro_rules | `(tactic| walk_at "d")=>`(tactic| repeat first|fail "1"|with_reducible first|refine L2.k_fld ?_|refine L2.k_sfld ?_|refine L2.k_mt ?_)
namespace Dk
open PySem L2 Fr G1 Sm Vs
open PySem.W (Dat kqdOk)
open Dn (pr)
end Dk
namespace Dk
open PySem L2 Fr G1 Sm Vs
open PySem.W (Dat kqdOk)
open PySem L2 Fr G1 Sm Vs Dn Rk Wd
end Dk
namespace Dk
open PySem L2 Fr G1 Sm Vs Dn Rk Wd
open PySem.W (Dat kqdOk)
end Dk
namespace Dh
open PySem L2 Fr G1 Sm Vs Dk
open PySem.W (Dat kqdOk)
open Dn (pr)
end Dh
namespace Dh
open PySem L2 Fr G1 Sm Vs Dk
open PySem.W (Dat kqdOk)
open PySem L2 Fr G1 Sm Vs Dk Dn Rk Wd
local macro_rules | `(tactic| walk_at "d")=>`(tactic| repeat first|fail "1"|with_reducible first|refine k_fld ?_|refine k_sfld ?_|refine k_mt ?_|refine k_bIf ?_|refine k_bMethA ?_|refine k_bSeq ?_|refine k_tryB ?_)
end Dh
namespace Pw
abbrev IsP(p:Nat):Prop:=2<=p/\∀d,d∣p->d=1\/d=p
def Gi:∀{n:Nat},2<=n->∃p,IsP p/\p∣n:=by
 intro n
 induction n using VS with
 |_ n ih =>
  intro h;by_cases c:∃d,d∣n/\d≠1/\d≠n
  .obtain⟨d,dv,d1,dn⟩:=c;have dp:0<d:=Nat.pos_of_dvd_of_pos dv ∅;have dl:=XN ∅ dv;obtain⟨p,pp,pd⟩:=ih d ∅ ∅;exact⟨p,pp,Nat.dvd_trans pd dv⟩
  .refine⟨n,⟨h,λd dv=>?_⟩,Nat.dvd_refl n⟩;by_cases d1:d=1
   .exact .inl d1
   .by_cases dn:d=n
    .exact .inr dn
    .exact absurd ⟨d,dv,d1,dn⟩ c
def IsP.dvd_mul{a b:Nat}(hp:IsP p)(h:p∣a*b):p∣a\/p∣b:=by
 rcases hp.2 (Tz p a) (WK p a) with g|g
 .exact .inr (Xd.dvd_of_dvd_mul_left g h)
 .exact .inl (g ▸ YN p a)
abbrev tk(d n:Nat):Nat×Nat:=if _h:2<=d/\0<n/\d∣n then ((tk d (n / d)).1+1,(tk d (n / d)).2) else (0,n)
termination_by n
decreasing_by all_goals exact Nat.div_lt_self _h.2.1 _h.1
abbrev b_(d n:Nat):Nat:=(tk d n).1
abbrev cm(d n:Nat):Nat:=(tk d n).2
def Jl{d n:Nat}(h : ¬ d∣n):tk d n=(0,n):=by
 rw[tk,dif_neg λz=>h z.2.2]
def rP{d n:Nat}(h : ¬ d∣n):b_ d n=0:=by unfold b_;rw[Jl h]
def zI{d n:Nat}(hd:2<=d)(hn:0<n):tk d (d*n)=(b_ d n+1,cm d n):=by
 rw[tk,dif_pos ⟨hd,UZ ∅ hn,Za0 d n⟩,Zb n (by lia:0<d)];rfl
def gt{d n:Nat}(hd:2<=d)(hn:0<n):b_ d (d*n)=b_ d n+1:=by
 show(tk d (d*n)).1=_;rw[zI hd hn]
def hZ{d:Nat}(hd:2<=d):∀n,0<n->n=d ^ b_ d n*cm d n/\¬ d∣cm d n:=by
 intro n
 induction n using VS with
 |_ n ih =>
  intro hn;by_cases c:d∣n
  .obtain⟨m,rfl⟩:=c;have hm:0<m:=Vv hn;have lt:m<d*m:=by have:=T8 m hd;lia
   obtain⟨a,b⟩:=ih m lt hm;have e:tk d (d*m)=(b_ d m+1,cm d m):=zI hd hm;unfold b_ cm;rw[e];refine⟨?_,b⟩;show d*m=d ^ (b_ d m+1)*cm d m;rw[Uy,UE (d ^ b_ d m) d,Uv,<- a]
  .have e:=Jl c;unfold b_ cm;rw[e];exact⟨by simp,c⟩
def Mp(hp:IsP p):∀a b,0<a->0<b->b_ p (a*b)=b_ p a+b_ p b:=by
 intro a
 induction a using VS with
 |_ a ih =>
  intro b ha hb;by_cases c:p∣a
  .obtain⟨m,rfl⟩:=c;have hm:0<m:=Vv ha;have lt:m<p*m:=by have:=T8 m hp.1;lia
   rw[Uv,gt hp.1 (UZ hm hb),ih m lt b hm hb,gt hp.1 hm];lia
  .clear ih;rw[rP c,Wc]
   induction b using VS with
   |_ b ih =>
    by_cases c2:p∣b
    .obtain⟨m,rfl⟩:=c2;have hm:0<m:=Vv hb;have lt:m<p*m:=by have:=T8 m hp.1;lia
     rw[Xs,gt hp.1 (UZ ha hm),ih m lt hm,gt hp.1 hm]
    .rw[rP c2,rP λz=>(hp.dvd_mul z).elim c c2]
structure Add (f:Nat->Int):Prop where
 mul:∀a b,0<a->0<b->f (a*b)=f a+f b
def IsP.add(hp:IsP p):Add λn=>(b_ p n:Int):=⟨λa b ha hb=>by rw[Mp hp a b ha hb];lia⟩
def Add.one(h:Add f):f 1=0:=by have:=h.mul 1 1 (by decide) (by decide);simp at this;lia
def Add.pow{f:Nat->Int}(h:Add f){a:Nat}(ha:0<a):∀k:Nat,f (a ^ k)=(k:Int)*f a
 |0=>by rw[Ye,h.one];simp
 |k+1=>by
  rw[Uy,h.mul _ _ (VD ha) ha,Add.pow h ha k];show _=((k:Int)+1)*f a;rw[WB,XW]
nonrec def Pr:=Nat×Int
abbrev SF(f:Nat->Int):List Pr->Int
 |[]=>0
 |x :: L=>x.2*f x.1+SF f L
def m6(f:Nat->Int):∀A B,SF f (A++B)=SF f A+SF f B
 |[],B=>by simp[SF]
 |x :: A,B=>by show _+SF f (A++B)=_;rw[m6 f A B];show _=_+_+_;lia
abbrev AM(x y:Pr):List Pr :=
 [(cm (Tz x.1 y.1) x.1,x.2),(cm (Tz x.1 y.1) y.1,y.2),(Tz x.1 y.1,b_ (Tz x.1 y.1) x.1*x.2+b_ (Tz x.1 y.1) y.1*y.2)]
def gm{d n:Nat}(hd:2<=d)(hn:0<n):0<cm d n:=by
 rcases W4 (cm d n) with z|z
 .have:=(hZ hd n hn).2;rw[z] at this;exact absurd ⟨0,rfl⟩ this
 .exact z
def PL(hf:Add f){x y:Pr}(hx:0<x.1)(hy:0<y.1)(hg:2<=Tz x.1 y.1):SF f (AM x y)=x.2*f x.1+y.2*f y.1:=by
 have gp:0<Tz x.1 y.1:=by lia
 have e:∀n,0<n->f n=b_ (Tz x.1 y.1) n*f (Tz x.1 y.1)+f (cm (Tz x.1 y.1) n):=λn hn=>by
  have s:=(hZ hg n hn).1
  have:=congrArg f s
  rw[hf.mul _ _ (VD gp) (gm hg hn),hf.pow gp] at this;exact this
 have e1:=e x.1 hx;have e2:=e y.1 hy;show x.2*f (cm (Tz x.1 y.1) x.1)+(y.2*f (cm (Tz x.1 y.1) y.1)+((b_ (Tz x.1 y.1) x.1*x.2+b_ (Tz x.1 y.1) y.1*y.2)*f (Tz x.1 y.1)+0))=_;rw[e1,e2];generalize f (cm (Tz x.1 y.1) x.1)=u;generalize f (cm (Tz x.1 y.1) y.1)=v;generalize f (Tz x.1 y.1)=w;generalize (b_ (Tz x.1 y.1) x.1:Int)=i;generalize (b_ (Tz x.1 y.1) y.1:Int)=j;rw[Vb,Vb,WB,To x.2 i w,SY i x.2 w,To y.2 j w,SY j y.2 w];lia
abbrev Qf(L:List Nat):Prop:=(∀q∈L,2<=q)/\L.Pairwise λa b=>Xd a b
def Pf{p:Nat}(hp:2<=p)(c:Xd q r)(h:p∣q) : ¬ p∣r:=λz=>by
 have:=Nat.dvd_gcd h z
 rw[c] at this
 have:=XN (by decide) this
 lia
def Ey{f:Nat->Int}:∀{L:List Pr},(∀x∈L,f x.1=0)->SF f L=0
 |[],_=>rfl
 |x :: L,h=>by show _*_+_=0;rw[h x Sv,Ey λy hy=>h y (Sw _ hy)];simp
def Py{L:List Pr}(ha:Qf (L.map (·.1)))(he:∀x∈L,x.2≠0)(hL:L≠[]):∃p,IsP p/\SF (λn=>(b_ p n:Int)) L≠0:=by
 cases L with
 |nil=>exact absurd rfl hL
 |cons x L =>
  have h2:2<=x.1:=ha.1 x.1 Sv;obtain⟨p,hp,d⟩:=Gi h2;refine⟨p,hp,?_⟩;have c:=(Yt.mp ha.2).1;show x.2*_+SF _ L≠0;rw[Ey λy hy=>by show(b_ p y.1:Int)=0;rw[rP (Pf hp.1 (c y.1 (WQ hy)) d)];rfl,UF];obtain⟨m,e⟩:=d;have hm:0<m:=W7 λz=>by rw[z] at e;simp at e;lia
  show x.2*(b_ p x.1:Int)≠0;rw[e,gt hp.1 hm];exact Zbz (he x Sv) ∅
abbrev vs(f:Nat->Int):List (Nat×Nat)->List Int->Int
 |w :: W,e :: R=>e*(f w.1-f w.2)+vs f W R
 |_,_=>0
abbrev i4:List (Nat×Nat)->List Int->List Pr
 |w :: W,e :: R=>(w.1,e) :: (w.2,-e) :: i4 W R
 |_,_=>[]
def Ex(f:Nat->Int):∀W R,SF f (i4 W R)=vs f W R
 |[],_=>rfl
 |_ :: _,[]=>rfl
 |w :: W,e :: R=>by
  show e*f w.1+(-e*f w.2+SF f (i4 W R))=e*(f w.1-f w.2)+vs f W R;rw[Ex f W R,Xb,UY];lia
abbrev One(W:List (Nat×Nat))(R:List Int):Prop:=∀p,IsP p->vs (λn=>(b_ p n:Int)) W R=0
def Cw{T:List Pr}(ha:Qf (T.map (·.1)))(he:∀x∈T,x.2≠0)(hs:∀f,Add f->SF f T=SF f (i4 W R)):One W R↔T=[]:=by
 constructor
 .intro h;by_cases c:T=[]
  .exact c
  .obtain⟨p,hp,z⟩:=Py ha he c;exact absurd ((hs _ hp.add).trans ((Ex _ W R).trans (h p hp))) z
 .intro h p hp;rw[<- Ex,<- hs _ hp.add,h];rfl
abbrev cb:List Nat->Nat
 |[]=>1
 |q :: L=>q*cb L
def dR:∀A B,cb (A++B)=cb A*cb B
 |[],B=>(ZV _).symm
 |q :: A,B=>by show q*cb (A++B)=q*cb A*cb B;rw[dR A B,Uv]
def il:∀{L:List Nat},(∀q∈L,0<q)->0<cb L
 |[],_=>by decide
 |q :: L,h=>UZ (h q Sv) (il λx hx=>h x (Sw _ hx))
def kh:∀{L:List Nat} {i q:Nat},L[i]?=some q->cb L=q*cb (L.eraseIdx i)
 |x :: L,0,q,h=>by cases h;rfl
 |x :: L,i+1,q,h=>by
  show x*cb L=q*(x*cb (L.eraseIdx i));rw[kh (L:=L) (i:=i) (by simpa using h),Xs]
def xU(f:Nat->Int):∀{L:List Pr} {i:Nat} {y:Pr},L[i]?=some y->SF f L=y.2*f y.1+SF f (L.eraseIdx i)
 |x :: L,0,y,h=>by cases h;rfl
 |x :: L,i+1,y,h=>by
  show x.2*f x.1+SF f L=y.2*f y.1+(x.2*f x.1+SF f (L.eraseIdx i))
  rw[xU f (L:=L) (i:=i) (by simpa using h)];lia
abbrev iL:List Pr->Nat
 |[]=>0
 |x :: L=>x.2.natAbs*x.1.log2+iL L
def hJ:∀A B,iL (A++B)=iL A+iL B
 |[],B=>(Wc _).symm
 |q :: A,B=>by show _+iL (A++B)=_+iL A+iL B;rw[hJ A B,Nat.add_assoc]
def qw:∀{L:List Pr} {i:Nat} {y:Pr},L[i]?=some y->iL L=y.2.natAbs*y.1.log2+iL (L.eraseIdx i)
 |x :: L,0,y,h=>by cases h;rfl
 |x :: L,i+1,y,h=>by
  show _+iL L=_+(x.2.natAbs*x.1.log2+iL (L.eraseIdx i))
  rw[qw (L:=L) (i:=i) (by simpa using h)];lia
def xh{a b:Nat}(ha:0<a)(hb:0<b):a.log2+b.log2<=(a*b).log2:=by
 rw[ZX (Wg (UZ ha hb)),Xc];exact Uz (XH (Wg ha)) (XH (Wg hb))
def Lp{a b:Nat}(ha:0<a)(h:a<=b):a.log2<=b.log2:=by
 rw[ZX ∅];exact Ta (XH ∅) h
def CV{a b:Nat}(ha:0<a)(h:2*a<=b):a.log2+1<=b.log2:=by
 rw[ZX ∅,Uy]
 have:=XH (n:=a) ∅
 lia
def xf{a:Nat}(ha:0<a):∀k:Nat,k*a.log2<=(a ^ k).log2
 |0=>by simp
 |k+1=>by
  have:=xh (VD (n:=k) ha) ha
  have:=xf ha k
  rw[Uy,WI];lia
def CU{d n:Nat}(hd:2<=d)(hn:0<n):b_ d n*d.log2+(cm d n).log2<=n.log2:=by
 have:=xh (VD (n:=b_ d n) (by lia:0<d)) (gm hd hn)
 rw[<- (hZ hd n hn).1] at this
 have:=xf (by lia:0<d) (b_ d n)
 lia
def Ji{x y:Pr}(hx:0<x.1)(hy:0<y.1)(hg:2<=Tz x.1 y.1):iL (AM x y)<=x.2.natAbs*x.1.log2+y.2.natAbs*y.1.log2:=by
 have a:=Ue x.2.natAbs (CU hg hx);have b:=Ue y.2.natAbs (CU hg hy);show x.2.natAbs*(cm (Tz x.1 y.1) x.1).log2+(y.2.natAbs*(cm (Tz x.1 y.1) y.1).log2+((b_ (Tz x.1 y.1) x.1*x.2+b_ (Tz x.1 y.1) y.1*y.2).natAbs*(Tz x.1 y.1).log2+0))<=_;generalize Tz x.1 y.1=g at *
 have c:(b_ g x.1*x.2+b_ g y.1*y.2).natAbs<=x.2.natAbs*b_ g x.1+y.2.natAbs*b_ g y.1:=by
  refine Ta (Xq _ _) ?_;rw[Ud,Ud,Zaw,Zaw,UE,UE (b_ g y.1)];exact Sx _
 have c':=T8 g.log2 c;rw[Nat.add_mul,Uv,Uv] at c';rw[Nat.mul_add] at a b;lia
def HS{d n:Nat}(hd:2<=d)(hn:0<n):cm d n<=n:=by
 have:=(hZ hd n hn).1
 have k:=T8 (cm d n) (VD (n:=b_ d n) (by lia:0<d));lia
def K8{d n:Nat}(hd:2<=d)(hn:0<n)(h:d∣n):0<b_ d n:=by
 obtain⟨m,rfl⟩:=h;rw[gt hd (Vv hn)];lia
def Ru{a b:Nat}(ha:0<a)(hb:0<b)(hg:2<=Tz a b):2*(cm (Tz a b) a*(cm (Tz a b) b*Tz a b))<=a*b:=by
 have da:=WK a b;have db:=YN a b;generalize Tz a b=g at *
 have le:∀n,0<n->g∣n->cm g n*g<=n:=λn hn h=>by
  have o:=K8 hg hn h;have s:=(hZ hg n hn).1;obtain⟨k,e⟩:∃k,b_ g n=k+1:=⟨b_ g n-1,∅⟩
  rw[e,Uy,Uv,UE g] at s
  have:=T8 (cm g n*g) (VD (n:=k) (by lia:0<g))
  lia
 have la:=le a ha da;have lb:=le b hb db;have l2:2*cm g a<=a:=by have:=Ue (cm g a) hg;lia
 calc 2*(cm g a*(cm g b*g))=(2*cm g a)*(cm g b*g):=by rw[Uv]
  _<=a*b:=Uz l2 lb
def DT{α β:Type}(f:α->β):∀(L:List α) (i:Nat),(L.map f).eraseIdx i=(L.eraseIdx i).map f
 |[],_=>rfl
 |_ :: _,0=>rfl
 |x :: L,i+1=>congrArg (f x :: ·) (DT f L i)
structure Ap (P0:List Pr) (B T C:Nat) (told left:List Pr):Prop where
 apt:Qf (told.map (·.1))
 ne:∀x∈told,x.2≠0
 pos:∀x∈left,0<x.1
 bT:∀x∈told,x.1<=B
 bL:∀x∈left,x.1<=B
 sf:∀f,Add f->SF f told+SF f left=SF f P0
 le:iL told+iL left<=T
 few:UD told+UD left+(cb (told.map (·.1))*cb (left.map (·.1))).log2<=C
abbrev mu(told left:List Pr):Nat:=2*(cb (told.map (·.1))*cb (left.map (·.1)))+UD left
def Ap.start{P0:List Pr}{B:Nat}(hp:∀x∈P0,0<x.1/\x.1<=B):Ap P0 B (iL P0) (UD P0+(cb (P0.map (·.1))).log2) [] P0 :=
 ⟨⟨λ_ h=>(by cases h),ZaF⟩,λ_ h=>(by cases h),λx h=>(hp x h).1,λ_ h=>(by cases h),λx h=>(hp x h).2,λf _=>by simp[SF],by simp[iL],by show 0+UD P0+(1*cb (P0.map (·.1))).log2<=_;rw[ZV,Wc];exact Sx _⟩
variable{P0:List Pr}{B T C:Nat}{told left:List Pr}{x y:Pr}
def xT(f:Nat->Int)(x:Pr):SF f [x]=x.2*f x.1:=by simp[SF]
def Jj(x:Pr):iL [x]=x.2.natAbs*x.1.log2:=by simp[iL]
def Ap.pp(h:Ap P0 B T C told (left++[x])):0<cb (told.map (·.1))/\0<cb (left.map (·.1))/\0<x.1/\x.1<=B :=
 ⟨il λq hq=>by have:=h.apt.1 q hq;lia,il λq hq=>by obtain⟨z,hz,rfl⟩:=SE.mp hq;exact h.pos z (Te _ hz),h.pos x (SW _ Sv),h.bL x (SW _ Sv)⟩
def Ap.drop(h:Ap P0 B T C told (left++[x]))(c : ¬ (1<x.1/\x.2≠0)):Ap P0 B T C told left/\mu told left<mu told (left++[x]):=by
 have ⟨p1,p2,p3,_⟩:=h.pp;refine⟨⟨h.apt,h.ne,λz hz=>h.pos z (Te _ hz),h.bT,λz hz=>h.bL z (Te _ hz),λf hf=>?_,?_,?_⟩,?_⟩
 .have e:=h.sf f hf;rw[m6,xT] at e
  have:x.2*f x.1=0:=by
   by_cases z:x.2=0
   .rw[z];simp
   .rw[show x.1=1 by lia,hf.one];simp
  lia
 .have:=h.le
  rw[hJ] at this;lia
 .have f:=h.few;rw[Sr,dR,SC] at f
  have:=Lp (UZ p1 p2) (Ue (cb (told.map (·.1))) (Zc (cb (left.map (·.1))) (by show 0<x.1*1;lia:0<cb ([x].map (·.1)))))
  lia
 .unfold mu;rw[Sr,dR,SC];show _<2*(_*(cb (left.map (·.1))*(x.1*1)))+(UD left+1)
  have:=Ue (cb (told.map (·.1))) (Zc (cb (left.map (·.1))) (by lia:0<x.1*1))
  lia
def Ap.keep(h:Ap P0 B T C told (left++[x]))(c1:1<x.1)(c2:x.2≠0)(hc:∀z∈told,Tz z.1 x.1<=1):Ap P0 B T C (told++[x]) left/\mu (told++[x]) left<mu told (left++[x]):=by
 have ⟨p1,p2,p3,p4⟩:=h.pp
 have cop:∀z∈told,Xd z.1 x.1:=λz hz=>by
  have:=hc z hz
  have g:0<Tz z.1 x.1:=Nat.gcd_pos_of_pos_right _ p3;show Tz z.1 x.1=1;lia
 refine⟨⟨⟨λq hq=>?_,?_⟩,λz hz=>?_,λz hz=>h.pos z (Te _ hz),λz hz=>?_,λz hz=>h.bL z (Te _ hz),λf hf=>?_,?_,?_⟩,?_⟩
 .rw[Sr] at hq;rcases SQ.mp hq with k|k
  .exact h.apt.1 q k
  .have:q=x.1:=by simpa using k
   lia
 .rw[Sr,List.pairwise_append];refine⟨h.apt.2,by simp,λa ha b hb=>?_⟩;obtain⟨z,hz,rfl⟩:=SE.mp ha
  have:b=x.1:=by simpa using hb
  rw[this];exact cop z hz
 .rcases SQ.mp hz with k|k
  .exact h.ne z k
  .have:z=x:=by simpa using k
   rw[this];exact c2
 .rcases SQ.mp hz with k|k
  .exact h.bT z k
  .have:z=x:=by simpa using k
   rw[this];exact p4
 .have e:=h.sf f hf;rw[m6,xT] at e;rw[m6,xT];lia
 .have:=h.le
  rw[hJ] at this;rw[hJ];lia
 .have f:=h.few;rw[Sr,dR,SC] at f;rw[Sr,dR,SC,Uv,UE (cb ([x].map (·.1)))];lia
 .unfold mu;rw[Sr,dR,Sr,dR,SC]
  have:cb (told.map (·.1))*cb ([x].map (·.1))*cb (left.map (·.1))=cb (told.map (·.1))*(cb (left.map (·.1))*cb ([x].map (·.1))):=by
   rw[Uv,UE (cb ([x].map (·.1)))]
  rw[this];show _<_+(UD left+1)
  lia
def Ap.split(h:Ap P0 B T C told (left++[x])){i:Nat}(hi:told[i]?=some y)(hg:1<Tz y.1 x.1) :
  Ap P0 B T C (told.eraseIdx i) (left++AM x y)/\mu (told.eraseIdx i) (left++AM x y)<mu told (left++[x]):=by
 have ⟨p1,p2,p3,p4⟩:=h.pp;have hy:=Sq hi;have y2:2<=y.1:=h.apt.1 y.1 (WQ hy);have yB:=h.bT y hy;rw[Nat.gcd_comm] at hg;have hg2:2<=Tz x.1 y.1:=hg;have sub:(told.eraseIdx i).Sublist told:=List.eraseIdx_sublist _ _;have gl:Tz x.1 y.1<=x.1:=XN p3 (WK _ _)
 have mem:∀z∈AM x y,0<z.1/\z.1<=B:=λz hz=>by
  have r1:=gm hg2 p3;have r2:=gm hg2 (by lia:0<y.1);have r3:=HS hg2 p3;have r4:=HS hg2 (by lia:0<y.1);unfold AM at hz;simp only[S_,VG,or_false] at hz;rcases hz with rfl|rfl|rfl
  .exact⟨r1,by show cm _ _<=_;lia⟩
  .exact⟨r2,by show cm _ _<=_;lia⟩
  .exact⟨by show 0<Tz _ _;lia,by show Tz _ _<=_;lia⟩
 have hv:2*(cb ((told.eraseIdx i).map (·.1))*cb ((left++AM x y).map (·.1)))<=cb (told.map (·.1))*cb ((left++[x]).map (·.1))/\2<=cb ((told.eraseIdx i).map (·.1))*cb ((left++AM x y).map (·.1)):=by
  have hi':(told.map (·.1))[i]?=some y.1:=by rw[So,hi];rfl
  rw[kh hi',<- DT];generalize hP:cb ((told.map (·.1)).eraseIdx i)=P;have Pp:0<P:=W7 λz=>by rw[kh hi',hP,z] at p1;simp at p1
  rw[Sr,dR,Sr,dR];generalize hL:cb (left.map (·.1))=L at p2;have hf:=Ru p3 (by lia:0<y.1) hg2;show 2*(P*(L*(cm (Tz x.1 y.1) x.1*(cm (Tz x.1 y.1) y.1*(Tz x.1 y.1*1)))))<=y.1*P*(L*(x.1*1))/\2<=P*(L*(cm (Tz x.1 y.1) x.1*(cm (Tz x.1 y.1) y.1*(Tz x.1 y.1*1))));rw[Nat.mul_one,Nat.mul_one]
  have S1:2<=cm (Tz x.1 y.1) x.1*(cm (Tz x.1 y.1) y.1*Tz x.1 y.1):=by
   have r1:=gm hg2 p3;have r2:=gm hg2 (by lia:0<y.1)
   calc 2<=1*(1*Tz x.1 y.1):=by lia
    _<=_:=Uz r1 (Uz r2 (Sx _))
  generalize cm (Tz x.1 y.1) x.1*(cm (Tz x.1 y.1) y.1*Tz x.1 y.1)=S at hf S1
  have q1:y.1*P*(L*x.1)=P*L*(x.1*y.1):=by
   rw[UE y.1 P,Uv,Uv,Xs y.1 L,UE y.1]
  rw[q1,<- Uv P L S];have q2:=Ue (P*L) hf;have q3:1<=P*L:=UZ Pp p2;have q4:=Uz q3 S1;rw[Xs] at q2;exact⟨q2,∅⟩
 refine⟨⟨⟨λq hq=>h.apt.1 q ((sub.map _).subset hq),h.apt.2.sublist (sub.map _)⟩,λz hz=>h.ne z (sub.subset hz),λz hz=>?_,λz hz=>h.bT z (sub.subset hz),λz hz=>?_,λf hf=>?_,?_,?_⟩,?_⟩
 .rcases SQ.mp hz with k|k
  .exact h.pos z (Te _ k)
  .exact(mem z k).1
 .rcases SQ.mp hz with k|k
  .exact h.bL z (Te _ k)
  .exact(mem z k).2
 .have e:=h.sf f hf;rw[m6,xT,xU f hi] at e;rw[m6,PL hf p3 ∅ hg2];lia
 .have e:=h.le;rw[hJ,Jj,qw hi] at e
  have:=Ji p3 (by lia:0<y.1) hg2
  rw[hJ];lia
 .have f:=h.few;have lt:=(Sn.mp hi).1
  have:=CV (W7 λz=>by rw[z] at hv;lia) hv.1
  rw[SC] at f ⊢;rw[ZR,if_pos lt];show (UD told)-1+(UD left+3)+_<=C;have f':UD told+(UD left+1)+(cb (told.map (·.1))*cb ((left++[x]).map (·.1))).log2<=C:=f;lia
 .unfold mu;rw[SC,SC];show _+(UD left+3)<_+(UD left+1)
  lia
variable{N0 F Wt:List Nat}{a b:Nat}
end Pw
namespace Ev
end Ev
namespace Dt
end Dt
namespace As
open PySem L2 Fr G1 Sm Vs G2 Ti
open PySem.W (Dat kqdOk)
abbrev Fine(es:List (Nat×Nat))(j:Nat):Prop:=∀x y,es[j]?=some (x,y)->Rch es y x
abbrev oR(K:Fg):Sp:=λvs H Q _=>∃(v:V) (ws:List Str) (ts:List Tn),vs=[v]/\Rz K H v (dV ws ts)/\ts.length<=100 /\
 (∀i x y,(aC ts)[i]?=some (x,y)->(∀j<i,Fine (aC ts) j)->¬ Rch (aC ts) y x->∀H',Same H H'->Q (.int (i:Int)) H')/\((∀j,Fine (aC ts) j)->∀H',Same H H'->Q .non H')
abbrev oj(K:Fg):TS:=(ao (bo (iw K (ac (aw (gJ K) [] E0 (ac (aa 0) ae)) ae)) (cf K 2 (aS (ak 1) (aS (ak 2) cj)))
 (a4 (aK (ar BO (aw (AR K) [] E0 (ac (aa 0) (ac (ar (aD K) (aa 2) (tC (.int 1))) (ac (ar (aD K) (aa 2) (tC (.int 0))) ae)))) (tC .non)))
 (aA (aa 1))
 be))
 (aA (tC .non)))
def BI{K:Fg}:ρ 3 (oR K) (oj K):=by
 fail "R";obtain⟨v,ws,ts,rfl,rv,hl,k1,k2⟩:=h;rw[L2.aI hN];walk_at "t";have eo:=dq ts;unfold oj;cbv;refine⟨v,ws,ts,rfl,rv,hl,λpe H1 A1=>?_⟩;obtain⟨xs,hpe,rx⟩:=A1.at_;have S1:=A1.same;have lx:UD xs=(aC ts).length:=by rw[rx.length,Si]
 cbv;refine⟨pe,xs,rfl,SqL.of hpe,?_⟩;refine dY (xs:=xs) (λi σ H2=>∃u1 u2:Option V,σ=[some v,u1,u2]/\Same H1 H2/\∀j<i,Fine (aC ts) j) ⟨none,none,rfl,Same.refl _,λj hj=>absurd hj (TZ _)⟩ (by rintro i σ H2 _ ⟨_,_,_,S,_⟩;exact SqL.of (S _ _ hpe)) ?_ ?_
 .rintro i z σ H2 T hz ⟨u1,u2,rfl,S2,dn⟩ nT;obtain⟨dd,g1,g2⟩:=rx.get hz;rw[So] at g1;obtain⟨e,he,rfl⟩:=SA.mp g1;obtain⟨x,y⟩:=e;have oe:=eo _ (Sq he);have S3:=ai nT (.tup [.int (i:Int),z]);obtain⟨pb,rfl,hpb⟩:=vM ((g2.same S2).same S3);refine bu (SqT.of ag) rfl ?_;cbv;generalize upd H2 T (.tup [.int (i:Int),.ref pb])=H3 at S3 hpb ⊢;have S13:=S2.trans S3;refine aG (SqT.of hpb) (v:=.int (y:Int)) rfl ?_;cbv;refine aG (SqT.of hpb) (v:=.int (x:Int)) rfl ?_;cbv;refine⟨v,ws,ts,y,x,rfl,(rv.same S1).same S13,hl,oe.2,oe.1,λr p H4 S4=>?_,λnr H4 S4=>?_⟩
  .cbv;refine aZ (λz=>nomatch z) (λ_=>?_);cbv;refine⟨_,_,rfl,S13.trans S4,λj hj x' y' ge=>?_⟩;by_cases ji:j<i
   .exact dn j ji x' y' ge
   .have:j=i:=by lia
    rw[this,he] at ge;cases SU ge;exact r
  .cbv;refine aZ (λ_=>?_) (λz=>absurd rfl z);cbv;exact k1 i x y he dn nr H4 (S1.trans (S13.trans S4))
 .rintro σ H2 ⟨u1,u2,rfl,S2,dn⟩;cbv;refine k2 (λj=>?_) H2 (S1.trans S2);by_cases jl:j<UD xs
  .exact dn j jl
  .intro x y ge;rw[Tj ∅] at ge;cases ge
end As
namespace Pw
open PySem L2 Fr G1 Sm Vs G2 Rk Sz Sf Rw Ti
open PySem.W (Dat kqdOk)
def He(m d:Nat):(m:Int).fmod (d:Int)=((m % d:Nat):Int):=by
 rw[Ym _ (Yr d)];rfl
def Hf(m d:Nat):(m:Int).fdiv (d:Int)=((m / d:Nat):Int):=by
 rw[Yl _ (Yr d)];rfl
def IC(a b:Nat):Gd.gd (a:Int) (b:Int)=((Tz a b:Nat):Int):=rfl
def Mv{d m:Nat}(hd:2<=d)(hm:0<m)(h:d∣m):b_ d m=b_ d (m / d)+1/\cm d m=cm d (m / d)/\0<m / d/\m / d<m:=by
 obtain⟨k,rfl⟩:=h;have hk:0<k:=Vv hm;have e:=zI hd hk;rw[Zb k (by lia:0<d)];refine⟨gt hd hk,by show(tk d (d*k)).2=_;rw[e],hk,?_⟩
 have:=T8 k hd
 lia
def Mu{d m:Nat}(h : ¬ d∣m):b_ d m=0/\cm d m=m:=⟨rP h,congrArg Yu (Jl h)⟩
abbrev Fm(K:Fg):Sp:=λvs H Q _=>∃n d:Nat,vs=[.int (n:Int),.int (d:Int)]/\0<n/\2<=d/\d<2 ^ 9000/\∀(p:Addr) (H':Hp),Same H H'->Rz K H' (.ref p) (dI [(b_ d n:Int),(cm d n:Int)])->Q (.ref p) H'
abbrev Jo(K:Fg):TS:=(ao (ay (tC (.int 0)) (ak 2))
 (ao (eM (aK (ar ja (ar Km (aa 0) (aa 1)) (tC (.int 0))))
 (ao (ay (ar jb (aa 0) (aa 1)) (ak 0))
 (ay (ar bc (aa 2) (tC (.int 1))) (ak 2))))
 (aA (bC (ac (aa 2) (ac (aa 0) ae))))))
def MS{K:Fg}:ρ 3 (Fm K) (Jo K):=by
 fail "R";obtain⟨n,d,rfl,n0,d2,dw,k⟩:=h;rw[L2.aI hN];walk_at "t";unfold Jo;cbv
 refine js (λσ H'=>H'=H/\∃m c:Nat,σ=[↥(m:Int),↥(d:Int),↥(c:Int)]/\0<m/\b_ d n=c+b_ d m/\cm d n=cm d m)
  (λσ _=>match σ with | [↥m,_,_]=>m.toNat|_=>0) ⟨rfl,n,0,rfl,n0,∅,rfl⟩ ?_ ?_
 .rintro σ H' ⟨rfl,m,c,rfl,m0,e1,e2⟩;cbv;refine vx ∅ ?_;cbv;rw[He];refine aZ (λz=>?_) (λz=>?_)
  .have dv:d∣m:=Nat.dvd_of_mod_eq_zero ∅;obtain⟨f1,f2,f3,f4⟩:=Mv d2 m0 dv;cbv;refine vx ⟨∅,by show d<_;exact dw⟩ ?_;rw[Hf];cbv;exact⟨⟨rfl,m / d,c+1,rfl,f3,∅,by rw[e2,f2]⟩,by show(((m / d:Nat):Int)).toNat<((m:Nat):Int).toNat;lia⟩
  .have dv : ¬ d∣m:=λy=>z (by rw[Nat.mod_eq_zero_of_dvd y];rfl)
   obtain⟨f1,f2⟩:=Mu dv;cbv;refine⟨aR,λp np=>?_⟩
   have:=k p _ (ai np (.tup [.int (c:Int),.int (m:Int)]))
   rw[e1,e2,f1,f2] at this;exact this (.tup ag (RpL.ints [_,_]))
 .rintro σ H' R R' h ⟨w1,e1,w2,e2,i,j,e3,e4,c,sc,kk,ek,q⟩;exact⟨w1,e1,w2,e2,i,j,e3,e4,c,sc,kk,ek,h _ _ q⟩
abbrev lE(x:Pr):Dat:=dI [(x.1:Int),x.2]
abbrev uj(K:Fg):Sp:=λvs H Q _=>∃(u v:V) (x y:Pr),vs=[u,v]/\Rz K H u (lE x)/\Rz K H v (lE y)/\0<x.1/\0<y.1/\2<=Tz x.1 y.1/\x.1<2 ^ 8000/\y.1<2 ^ 8000/\x.2.natAbs<2 ^ 8000/\y.2.natAbs<2 ^ 8000 /\
 ∀(p:Addr) (H':Hp),AccZ K H p H' ((AM x y).map lE)->Q (.ref p) H'
def Ik{d n:Nat}(hd:2<=d)(hn:0<n):b_ d n<n:=by
 have e:=(hZ hd n hn).1;have r:=gm hd hn;have l:b_ d n<d ^ b_ d n:=Nat.lt_pow_self ∅
 have:=Ue (d ^ b_ d n) r
 lia
nonrec def zR(K:Fg):TS:=(aA (bK (ac (bC (ac (ar (aD K) (aa 3) (tC (.int 1))) (ac (ar (aD K) (aa 0) (tC (.int 1))) ae))) (ac (bC (ac (ar (aD K) (aa 4) (tC (.int 1))) (ac (ar (aD K) (aa 1) (tC (.int 1))) ae))) (ac (bC (ac (aa 2) (ac (ar bc (ar ik (ar (aD K) (aa 3) (tC (.int 0))) (ar (aD K) (aa 0) (tC (.int 1)))) (ar ik (ar (aD K) (aa 4) (tC (.int 0))) (ar (aD K) (aa 1) (tC (.int 1))))) ae))) ae)))))
nonrec def zQ(K:Fg):TS:=(ao (ay (aw (Pw.Fm K) [] E0 (ac (ar (aD K) (aa 0) (tC (.int 0))) (ac (aa 2) ae))) (ak 3))
 (ao (ay (aw (Pw.Fm K) [] E0 (ac (ar (aD K) (aa 1) (tC (.int 0))) (ac (aa 2) ae))) (ak 4))
 (zR K)))
abbrev tH(K:Fg):TS:=(ao (ay (aw oP [] E0 (ac (ar (aD K) (aa 0) (tC (.int 0))) (ac (ar (aD K) (aa 1) (tC (.int 0))) ae))) (ak 2))
 (zQ K))
def FQ{K:Fg}:ρ 5 (uj K) (tH K):=by
 fail "R";obtain⟨u,v,x,y,rfl,ru,rv,x0,y0,g2,xb,yb,xe,ye,k⟩:=h;rw[L2.aI hN];walk_at "t";obtain⟨a,rfl,ha⟩:=dG ru;obtain⟨b,rfl,hb⟩:=dG rv;have p8:(2:Nat) ^ 8000<2 ^ 9000:=Tr.pw_lt (by decide);have p2:(2:Nat) ^ 8000<2 ^ 20000:=Tr.pw_lt (by decide);have ox:=Ik g2 x0;have oy:=Ik g2 y0;have gl:=XN x0 (WK x.1 y.1);have k':=k;unfold AM at k';generalize hg:Tz x.1 y.1=g at *;generalize (2:Nat) ^ 8000=P8 at *;unfold tH;cbv;refine aG (SqT.of ha) (v:=.int (x.1:Int)) rfl ?_;cbv;refine aG (SqT.of hb) (v:=.int (y.1:Int)) rfl ?_;cbv;refine⟨_,_,rfl,?_⟩;rw[IC,hg];cbv;refine aG (SqT.of ha) (v:=.int (x.1:Int)) rfl ?_;cbv;refine⟨x.1,g,rfl,x0,g2,∅,λp1 H1 S1 r1=>?_⟩;cbv;have hb1:=S1 _ _ hb;have ha1:=S1 _ _ ha;refine aG (SqT.of hb1) (v:=.int (y.1:Int)) rfl ?_;cbv;refine⟨y.1,g,rfl,y0,g2,∅,λp3 H3 S3 r3=>?_⟩;have ha3:=S3 _ _ ha1;have hb3:=S3 _ _ hb1;obtain⟨_,q1,h1⟩:=dG (r1.same S3);cases q1;obtain⟨_,q3,h3⟩:=dG r3;cases q3;cbv;refine aG (SqT.of h1) (v:=.int (cm g x.1:Int)) rfl ?_;cbv;refine aG (SqT.of ha3) (v:=.int x.2) rfl ?_;cbv;refine⟨aR,λq1 n1=>?_⟩;have T1:=ai n1 (.tup [.int (cm g x.1:Int),.int x.2]);have z1:Rz K (upd H3 q1 (.tup [.int (cm g x.1:Int),.int x.2])) (.ref q1) (lE (cm g x.1,x.2)):=.tup ag (RpL.ints [_,_]);generalize upd H3 q1 (.tup [.int (cm g x.1:Int),.int x.2])=H4 at T1 z1 ⊢;cbv;refine aG (SqT.of (T1 _ _ h3)) (v:=.int (cm g y.1:Int)) rfl ?_;cbv;refine aG (SqT.of (T1 _ _ hb3)) (v:=.int y.2) rfl ?_;cbv;refine⟨aR,λq2 n2=>?_⟩;have T2:=ai n2 (.tup [.int (cm g y.1:Int),.int y.2]);have z2:Rz K (upd H4 q2 (.tup [.int (cm g y.1:Int),.int y.2])) (.ref q2) (lE (cm g y.1,y.2)):=.tup ag (RpL.ints [_,_]);generalize upd H4 q2 (.tup [.int (cm g y.1:Int),.int y.2])=H5 at T2 z2 ⊢;have T12:=T1.trans T2;cbv;refine aG (SqT.of (T12 _ _ h1)) (v:=.int (b_ g x.1:Int)) rfl ?_;cbv;refine aG (SqT.of (T12 _ _ ha3)) (v:=.int x.2) rfl ?_;cbv;refine vx ⟨by show b_ g x.1<_;lia,∅⟩ ?_;cbv;refine aG (SqT.of (T12 _ _ h3)) (v:=.int (b_ g y.1:Int)) rfl ?_;cbv;refine aG (SqT.of (T12 _ _ hb3)) (v:=.int y.2) rfl ?_;cbv;refine vx ⟨by show b_ g y.1<_;lia,∅⟩ ?_;cbv;refine⟨aR,λq3 n3=>?_⟩;have T3:=ai n3 (.tup [.int (g:Int),.int (b_ g x.1*x.2+b_ g y.1*y.2)]);have z3:Rz K (upd H5 q3 (.tup [.int (g:Int),.int (b_ g x.1*x.2+b_ g y.1*y.2)])) (.ref q3) (lE (g,b_ g x.1*x.2+b_ g y.1*y.2)):=.tup ag (RpL.ints [_,_]);generalize upd H5 q3 (.tup [.int (g:Int),.int (b_ g x.1*x.2+b_ g y.1*y.2)])=H6 at T3 z3 ⊢;cbv;refine⟨gg,λl nl=>?_⟩;have T4:=ai nl (.lst [.ref q1,.ref q2,.ref q3]);have S06:=((S1.trans S3).trans T12).trans T3;exact k' l _ ⟨S06.trans T4,S06.free nl,_,ag,.cons (((z1.same T2).same T3).same T4) (.cons ((z2.same T3).same T4) (.cons (z3.same T4) .nil))⟩
abbrev uo(K:Fg):Sp:=λvs H Q _=>∃(a:Addr) (xs:List V) (L:List Pr) (n:Nat),vs=[.ref a,.int (n:Int)]/\H a=some (.lst xs)/\RzL K H xs (L.map lE) /\
 (∀(i:Nat) (y:Pr) (H':Hp),Same H H'->L[i]?=some y->1<Tz y.1 n->Q (.int (i:Int)) H')/\∀H',Same H H'->(∀z∈L,Tz z.1 n<=1)->Q .non H'
abbrev tP(K:Fg):TS:=(ao (bo (iw K (ac (aa 0) ae)) (cf K 2 (aS (ak 2) (aS (ak 3) cj)))
 (a4 (aK (ar zm (aw oP [] E0 (ac (ar (aD K) (aa 3) (tC (.int 0))) (ac (aa 1) ae))) (tC (.int 1))))
 (aA (aa 2))
 be))
 (aA (tC .non)))
def FV{K:Fg}:ρ 4 (uo K) (tP K):=by
 fail "R";obtain⟨a,xs,L,n,rfl,ha,rx,k1,k2⟩:=h;rw[L2.aI hN];walk_at "t";unfold tP;cbv;refine⟨a,_,rfl,SqL.of ha,?_⟩;refine dY (xs:=xs) (λi σ H2=>∃u1 u2:Option V,σ=[⇑a,↥(n:Int),u1,u2]/\Same H H2/\∀j<i,∀z,L[j]?=some z->Tz z.1 n<=1) ⟨none,none,rfl,Same.refl _,λj hj=>absurd hj (TZ _)⟩ (by rintro i σ H2 _ ⟨_,_,_,S,_⟩;exact SqL.of (S _ _ ha)) ?_ ?_
 .rintro i z σ H2 T hz ⟨u1,u2,rfl,S,d⟩ nT;obtain⟨dd,g1,g2⟩:=rx.get hz;rw[So] at g1;obtain⟨y,hy,rfl⟩:=SA.mp g1;have S1:=ai nT (.tup [.int (i:Int),z]);have S2:=S.trans S1;obtain⟨b,rfl,hb⟩:=dG (g2.same S2);have hT:upd H2 T (.tup [.int (i:Int),.ref b]) T=some (.tup [.int (i:Int),.ref b]):=ag;generalize upd H2 T (.tup [.int (i:Int),.ref b])=H3 at S1 S2 hT hb ⊢;refine bu (SqT.of hT) rfl ?_;cbv;refine aG (SqT.of hb) (v:=.int (y.1:Int)) rfl ?_;cbv;refine⟨_,_,rfl,?_⟩;rw[IC];cbv;refine aZ (λc=>?_) (λc=>?_)
  .cbv;exact k1 i y H3 S2 hy ∅
  .cbv;refine⟨_,_,rfl,S2,λj hj z hz=>?_⟩;by_cases e:j=i
   .rw[e,hy] at hz;cases hz;lia
   .exact d j ∅ z hz
 .rintro σ H2 ⟨u1,u2,rfl,S,d⟩;cbv;refine k2 H2 S λz hz=>?_
  obtain⟨j,hj⟩:=Tb hz
  have:=(Sn.mp hj).1
  exact d j (by rw[rx.length,Si];exact this) z hj
def OB{K:Fg}{ds:List Dat}{d:Dat}{Q:VK}(A:AccZ K H0 l H (ds++[d]))
  (h:∀y H2,Rz K H2 y d->AccZ K H0 l H2 ds->(∀{m:Addr} {es:List Dat},m≠l->AccZ K H0 m H es->AccZ K H0 m H2 es)->Q y H2):Kk (.ref l) [] H Q:=by
 obtain⟨xs,h1,h2⟩:=A.at_
 obtain⟨a,b,rfl,ra,rb⟩:∃a b,xs=a++[b]/\RzL K H a ds/\Rz K H b d:=by
  have ll:=h2.length;rw[SC] at ll;have hne:xs≠[]:=λz=>by rw[z] at ll;simp at ll
  refine⟨xs.dropLast,xs.getLast hne,(Wn hne).symm,?_⟩;have e:=(Wn hne).symm;rw[e] at h2;generalize xs.dropLast=a at h2;generalize xs.getLast hne=b at h2;clear e ll h1 A h hne
  induction a generalizing ds with
  |nil =>
   cases ds with
   |nil=>cases h2 with|cons r _=>exact⟨.nil,r⟩
   |cons e es=>cases h2 with|cons _ r=>cases es <;> cases r
  |cons x a ih =>
   cases ds with
   |nil=>cases h2 with|cons _ r=>cases a <;> cases r
   |cons e es=>cases h2 with|cons q r=>exact⟨.cons q (ih r).1,(ih r).2⟩
 refine⟨l,a++[b],b,rfl,rfl,h1,by rw[SC];show(a++[b])[UD a+1-1]? = _;simp,?_⟩;rw[List.dropLast_concat];exact h b _ (Rz.upd rb h1) ⟨A.ag,A.new,a,ag,RzL.upd ra h1⟩ λne B=>B.other ne A.new h1
def qX{K:Fg}{H:Hp}:∀{xs:List V} {ds:List Dat} (i:Nat),RzL K H xs ds->RzL K H (xs.eraseIdx i) (ds.eraseIdx i)
 |_,_,_,.nil=>.nil
 |_,_,0,.cons _ r=>r
 |_,_,i+1,.cons q r=>.cons q (qX i r)
def GS{K:Fg}{d:Dat}{i:Nat}{Q:VK}(A:AccZ K H0 l H ds)(hi:ds[i]?=some d)(n:UD ds<2 ^ 62)
  (h:∀y H2,Rz K H2 y d->AccZ K H0 l H2 (ds.eraseIdx i)->(∀{v:V} {e:Dat},Rz K H v e->Rz K H2 v e)->(∀{m:Addr} {es:List Dat},m≠l->AccZ K H0 m H es->AccZ K H0 m H2 es)->Q y H2):BM (.ref l) [.int (i:Int)] H Q:=by
 obtain⟨xs,h1,h2⟩:=A.at_;have li:=(Sn.mp hi).1;have lx:=h2.length;obtain⟨y,hy⟩:∃y,xs[i]?=some y:=⟨_,Sk ∅⟩
 obtain⟨e,g1,g2⟩:=h2.get hy;rw[hi] at g1;cases g1;refine⟨l,xs,i,i,y,rfl,rfl,h1,∅,∅,?_,hy,h y _ (Rz.upd g2 h1) ⟨A.ag,A.new,_,ag,RzL.upd (qX i h2) h1⟩ (λq=>Rz.upd q h1) λne B=>B.other ne A.new h1⟩;unfold seqIndex?;simp;lia
def OM{K:Fg}{Q:VK}(A:AccZ K H0 l H ds)(hb:H b=some (.lst zs))(rz:RzL K H zs es)(n:UD ds+UD es<=sizeLine)
  (h:∀H2,AccZ K H0 l H2 (ds++es)->(∀{m:Addr} {fs:List Dat},m≠l->AccZ K H0 m H fs->AccZ K H0 m H2 fs)->Q .non H2):eV (.ref l) [.ref b] H Q:=by
 obtain⟨xs,h1,h2⟩:=A.at_;exact⟨l,b,xs,zs,rfl,rfl,h1,hb,by rw[h2.length,rz.length];exact n,h _ ⟨A.ag,A.new,_,ag,RzL.upd (h2.append rz) h1⟩ λne B=>B.other ne A.new h1⟩
def EM{c:TT}{tb:TS}{D:cr}{H:Hp}(Pv:Nat->St->Hp->Prop)(h0:Pv m σ H)
  (hs:∀m σ H,Pv m σ H->c σ H λb H1=>if b=true then tb {D with nx:=λσ' H'=>∃k,k<m/\Pv k σ' H',ct:=λσ' H'=>∃k,k<m/\Pv k σ' H',bk:=D.nx} σ H1 else D.nx σ H1)
  (mono:∀σ H Q Q',(∀b H1,Q b H1->Q' b H1)->c σ H Q->c σ H Q'):eM c tb D σ H:=by
 refine⟨Pv,⟨m,h0⟩,λn σ H p=>mono σ H _ _ (λb H1 q=>?_) (hs n σ H p)⟩;cases b with
 |true=>exact⟨_,λσ' H' h=>h,q⟩
 |false=>exact q
abbrev ux(K:Fg):Sp:=λvs H Q _=>∃(a:Addr) (xs:List V) (P0:List Pr),vs=[.ref a]/\H a=some (.lst xs)/\RzL K H xs (P0.map lE)/\(∀x∈P0,0<x.1/\x.1<2 ^ 8000)/\iL P0<2 ^ 8000/\P0.length+(cb (P0.map (·.1))).log2<2 ^ 20 /\
 ∀(p:Addr) (H':Hp) (T:List Pr),AccZ K H p H' (T.map lE)->Qf (T.map (·.1))->(∀x∈T,x.2≠0)->(∀f,Add f->SF f T=SF f P0)->UD T<2 ^ 20->Q (.ref p) H'
def tt:∀{L:List Pr} {x:Pr},x∈L->2<=x.1->x.2.natAbs<=iL L
 |y :: L,x,h,h2=>by
  show _<=y.2.natAbs*y.1.log2+iL L;rcases S_.mp h with e|e
  .subst e
   have:1<=x.1.log2:=(ZX ∅).mpr ∅
   have:=Ue x.2.natAbs this
   lia
  .have:=tt e h2
   lia
nonrec def Ay(K:Fg):TS:=(a4 (aK (ar BO (aa 4) (tC .non)))
 (bF (dJ K "list" aJ (aa 1) (ac (aa 3) ae)))
 (bF (dJ K "list" eV (aa 2) (ac (aw (Pw.uj K) [] E0 (ac (aa 3) (ac (dJ K "list" BM (aa 1) (ac (aa 4) ae)) ae))) ae))))
nonrec def Ax(K:Fg):TS:=(a4 (oA (aK (ar zm (ar (aD K) (aa 3) (tC (.int 0))) (tC (.int 1)))) (aK (ar HV (ar (aD K) (aa 3) (tC (.int 1))) (tC (.int 0)))))
 (ao (ay (aw (Pw.uo K) [] E0 (ac (aa 1) (ac (ar (aD K) (aa 3) (tC (.int 0))) ae))) (ak 4))
 (Ay K))
 be)
abbrev ua(K:Fg):TS:=(ao (ay (bK ae) (ak 1))
 (ao (ay (bO (eU K) (ac (aa 0) ae)) (ak 2))
 (ao (eM (aK (ar zm (bO (bz K) (ac (aa 2) ae)) (tC (.int 0))))
 (ao (ay (Jv K "list" Kk (aa 2)) (ak 3))
 (Ax K)))
 (aA (aa 1)))))
def F_{K:Fg}:ρ 5 (ux K) (ua K):=by
 fail "R";obtain⟨a,xs,P0,rfl,ha,rx,pos,ht,hc,k⟩:=h;rw[L2.aI hN];walk_at "t";obtain⟨B,hB⟩:∃B,B+1=2 ^ 8000:=⟨2 ^ 8000-1,Nat.sub_add_cancel (VD (by decide))⟩
 rw[<- hB] at pos ht;have s24:sizeLine=16777216:=by decide
 have lt8:∀{n:Nat},n<=B->n<2 ^ 8000:=λ{n} h=>by rw[<- hB];lia
 unfold ua;cbv;refine⟨by show 0<=sizeLine;exact TV _,λl nl=>?_⟩;have A1:AccZ K H l (upd H l (.lst [])) []:=AccZ.start (Same.refl _) nl;have ha1:=ai nl (.lst []) _ _ ha;have rx1:=rx.same (ai nl (.lst []));generalize upd H l (.lst [])=H1 at A1 ha1 rx1 ⊢;cbv;refine vz (SqL.of ha1) λm nm=>?_
 have Sm_:=ai nm (.lst xs);have lm:l≠m:=λz=>by obtain⟨_,h1,_⟩:=A1.at_;rw[z,nm] at h1;cases h1
 have A2:=A1.on Sm_;have A3:AccZ K H m (upd H1 m (.lst xs)) (P0.map lE):=⟨A2.same,A1.same.free nm,xs,ag,rx1.same Sm_⟩
 generalize upd H1 m (.lst xs)=H2 at A2 A3 ⊢;cbv
 refine EM (λn σ H'=>∃(told left:List Pr) (u1 u2:Option V),n=mu told left/\σ=[⇑a,⇑l,⇑m,u1,u2]/\AccZ K H l H' (told.map lE)/\AccZ K H m H' (left.map lE)/\Ap P0 B (iL P0) (UD P0+(cb (P0.map (·.1))).log2) told left)
  ⟨[],P0,none,none,rfl,rfl,A2,A3,Ap.start λx hx=>⟨(pos x hx).1,by have:=(pos x hx).2;lia⟩⟩ ?_ ?_
 .rintro _ σ H3 ⟨told,left,u1,u2,rfl,rfl,AT,AL,ap⟩;have few:=ap.few;obtain⟨zs,hz,rz⟩:=AL.at_;have lz:UD zs=UD left:=by rw[rz.length,Si]
  cbv;refine bH (SqL.of hz) ?_;cbv;rw[lz];refine aZ (λc=>?_) (λc=>?_)
  .rcases List.eq_nil_or_concat left with e|⟨L,x,e⟩
   .rw[e] at c;simp at c
   rw[List.concat_eq_append] at e;subst e;rw[Sr] at AL;have lf:UD told+(UD L+1)<2 ^ 20:=by rw[SC] at few;show (UD told)+(UD L+[x].length)<_;lia
   cbv;refine⟨AL.ty,OB (ds:=L.map lE) AL λy H4 ry AL4 oth=>?_⟩;have AT4:=oth lm AT;obtain⟨b,rfl,hb⟩:=dG ry;cbv;refine aG (SqT.of hb) (v:=.int (x.1:Int)) rfl ?_;cbv;refine aZ (λc1=>?_) (λc1=>?_)
   .cbv;refine aG (SqT.of hb) (v:=.int x.2) rfl ?_;cbv;refine fU (λc2=>?_) (λc2=>?_)
    .have x2:1<x.1:=by lia
     obtain⟨ys,hy,rY⟩:=AT4.at_;cbv;refine aG (SqT.of hb) (v:=.int (x.1:Int)) rfl ?_;cbv;refine⟨l,ys,told,x.1,rfl,hy,rY,λi y H5 S5 hi hg=>?_,λH5 S5 no=>?_⟩
     .have AT5:=AT4.on S5;have AL5:=AL4.on S5;have rx5:=ry.same S5;cbv;refine aZ (λz=>nomatch z) (λ_=>?_);cbv;refine⟨AL5.ty,?_⟩;cbv;refine⟨AT5.ty,?_⟩;cbv;refine GS AT5 (d:=lE y) (i:=i) (by rw[So,hi];rfl) (by rw[Si];lia) λy' H6 ry' AT6 rz6 oth6=>?_
      have AL6:=oth6 (λz=>lm z.symm) AL5;have hyT:=Sq hi;have y2:2<=y.1:=ap.apt.1 y.1 (WQ hyT);have yB:=ap.bT y hyT;have xB:=ap.bL x (SW _ Sv);have le:=ap.le;have t1:=tt hyT y2;have t2:=tt (L:=L++[x]) (SW _ Sv) (by lia:2<=x.1);have g2:2<=Tz x.1 y.1:=by rw[Nat.gcd_comm];exact hg
      cbv;refine⟨_,y',x,y,rfl,rz6 rx5,ry',∅,∅,g2,lt8 xB,lt8 yB,lt8 ∅,lt8 ∅,λp H7 A7=>?_⟩;obtain⟨zs7,h7,r7⟩:=A7.at_;cbv;have s1:=ap.split hi hg;have AL7:=AL6.on A7.same;refine OM AL7 h7 r7 (by rw[Si,Si];show (UD L)+3<=_;lia) λH8 AL8 oth8=>?_
      have AT8:=oth8 lm (AT6.on A7.same);cbv;exact⟨_,s1.2,told.eraseIdx i,L++AM x y,_,_,rfl,rfl,by rw[<- DT];exact AT8,by rw[Sr];exact AL8,s1.1⟩
     .have AT5:=AT4.on S5;have AL5:=AL4.on S5;cbv;refine aZ (λ_=>?_) (λz=>absurd rfl z);cbv;refine⟨AT5.ty,?_⟩;cbv;refine cx AT5 (ry.same S5) (by rw[Si];lia) λH6 AT6 rz6 _ oth6=>?_
      have AL6:=oth6 (λz=>lm z.symm) AL5;cbv;exact⟨_,(ap.keep x2 c2 no).2,told++[x],L,_,_,rfl,rfl,by rw[Sr];exact AT6,AL6,(ap.keep x2 c2 no).1⟩
    .cbv;have dr:=ap.drop λz=>z.2 c2
     exact⟨_,dr.2,told,L,_,_,rfl,rfl,AT4,AL4,dr.1⟩
   .cbv;have dr:=ap.drop λz=>c1 ∅
    exact⟨_,dr.2,told,L,_,_,rfl,rfl,AT4,AL4,dr.1⟩
  .have e:left=[]:=TB ∅;subst e;cbv;exact k l H3 told AT ap.apt ap.ne (λf hf=>by have:=ap.sf f hf;simpa[SF] using this) ∅
 .rintro σ H' R R' h ⟨w1,e1,p,ys,e3,e4,i,j,e5,e6,kk,e7,q⟩;exact⟨w1,e1,p,ys,e3,e4,i,j,e5,e6,kk,e7,h _ _ q⟩
abbrev wl(w:Nat->Rat)(n:Nat):List (Nat×Nat):=(SJ n).map λi=>((w i).num.natAbs,(w i).den)
def zC:∀{A B:List (Nat×Nat)} {R S:List Int},UD A=UD R->i4 (A++B) (R++S)=i4 A R++i4 B S
 |[],_,[],_,_=>rfl
 |_ :: A,B,_ :: R,S,h=>by show _ :: _ :: i4 (A++B) (R++S)=_;rw[zC (by simpa using h)];rfl
def tq:∀{A:List (Nat×Nat)} {R:List Int},UD A=UD R->(i4 A R).length=2*UD R
 |[],[],_=>rfl
 |_ :: A,_ :: R,h=>by show(i4 A R).length+2=2*(UD R+1);rw[tq (by simpa using h)];lia
abbrev Jz(K:Fg):Sp:=λvs H Q _=>∃(a b:Addr) (xs:List V) (row:List Int) (w:Nat->Rat),vs=[.ref a,.ref b]/\H a=some (.lst xs)/\H b=some (.lst (row.map V.int))/\xs.length=row.length/\row.length<=100/\(∀i x,xs[i]?=some x->Tr.QV K H x (w i)/\0<(w i).num) /\
 ∀(p:Addr) (H':Hp),AccZ K H p H' ((i4 (wl w (UD row)) row).map lE)->Q (.ref p) H'
nonrec def Jm (K:Fg):TS:=(ao (bF (dJ K "list" aJ (aa 2) (ac (bC (ac (ar (aD K) (aa 3) (tC (.int 0))) (ac (aa 4) ae))) ae)))
 (bF (dJ K "list" aJ (aa 2) (ac (bC (ac (ar (aD K) (aa 3) (tC (.int 1))) (ac (Az (rU λi=>.int (-i)) (aa 4)) ae))) ae))))
abbrev Jn(K:Fg):TS:=(ao (ay (bK ae) (ak 2))
 (ao (bo (mq K .L .L (ac (aa 0) (ac (aa 1) ae))) (cf K 2 (aS (ak 3) (aS (ak 4) cj)))
 (Jm K))
 (aA (aa 2))))
def MR{K:Fg}:ρ 5 (Jz K) (Jn K):=by
 fail "R";obtain⟨a,b,xs,row,w,rfl,ha,hb,lx,l1,qx,k⟩:=h;rw[L2.aI hN];walk_at "t";unfold Jn;cbv;refine⟨by show 0<=sizeLine;exact TV _,λl nl=>?_⟩;have A1:AccZ K H l (upd H l (.lst [])) []:=AccZ.start (Same.refl _) nl;generalize upd H l (.lst [])=H1 at A1 ⊢;cbv;refine⟨a,b,xs,_,rfl,SqL.of (A1.same _ _ ha),SqL.of (A1.same _ _ hb),?_⟩;refine vD (n:=row.length) lx (by rw[Si]) (λi σ H2=>∃u1 u2:Option V,σ=[⇑a,⇑b,⇑l,u1,u2]/\AccZ K H l H2 ((i4 (wl w i) (row.take i)).map lE)) ⟨none,none,rfl,A1⟩ (λi σ H2 _ ⟨_,_,_,A⟩=>⟨SqL.of (A.same _ _ ha),SqL.of (A.same _ _ hb)⟩) ?_ ?_
 .rintro i x y σ H2 T hx hy ⟨u1,u2,rfl,A2⟩ nT;rw[So] at hy;obtain⟨e,he,rfl⟩:=SA.mp hy;have li:=(Sn.mp he).1;obtain⟨q,wp⟩:=qx i x hx;have S3:=ai nT (.tup [x,.int e]);have A3:=A2.on S3;have hT:upd H2 T (.tup [x,.int e]) T=some (.tup [x,.int e]):=ag;generalize upd H2 T (.tup [x,.int e])=H3 at S3 A3 hT ⊢;refine bu (SqT.of hT) rfl ?_;have nn:((w i).num.natAbs:Int)=(w i).num:=by lia
  have lw:(wl w i).length=(row.take i).length:=by unfold wl;rw[Si,SV,SL];lia
  have ll:=tq lw;rw[SL] at ll
  have em:(i4 (wl w (i+1)) (row.take (i+1))).map lE=(i4 (wl w i) (row.take i)).map lE++[lE ((w i).num.natAbs,e)]++[lE ((w i).den,-e)]:=by
   rw[SK,he,show wl w (i+1)=wl w i++[((w i).num.natAbs,(w i).den)] by unfold wl;rw[U5,Sr];rfl,zC lw,Sr,Ur];rfl
  cbv;refine⟨A3.ty,?_⟩;cbv;obtain⟨p,rfl,hp⟩:=q.same A3.same;refine aG hp (v:=.int (w i).num) rfl ?_;cbv;refine⟨aR,λt nt=>?_⟩;have S4:=ai nt (.tup [.int (w i).num,.int e])
  have z4:Rz K (upd H3 t (.tup [.int (w i).num,.int e])) (.ref t) (lE ((w i).num.natAbs,e)):=by
   show Rz K _ _ (dI [((w i).num.natAbs:Int),e]);rw[nn];exact .tup ag (RpL.ints [_,_])
  have A4:=A3.on S4;generalize upd H3 t (.tup [.int (w i).num,.int e])=H4 at S4 z4 A4 ⊢;cbv;refine cx A4 z4 (am (by rw[Si,ll];lia)) λH5 A5 _ _ _=>?_
  cbv;refine⟨A5.ty,?_⟩;cbv;obtain⟨p',e',hp'⟩:=(qx i _ hx).1.same A5.same;cases e';refine aG hp' (v:=.int ((w i).den:Int)) rfl ?_;cbv;refine⟨aR,λt' nt'=>?_⟩;have S6:=ai nt' (.tup [.int ((w i).den:Int),.int (-e)]);have z6:Rz K (upd H5 t' (.tup [.int ((w i).den:Int),.int (-e)])) (.ref t') (lE ((w i).den,-e)):=.tup ag (RpL.ints [_,_]);have A6:=A5.on S6;generalize upd H5 t' (.tup [.int ((w i).den:Int),.int (-e)])=H6 at S6 z6 A6 ⊢;cbv;refine cx A6 z6 (am (by rw[SC,Si,ll];show _+1<=_;lia)) λH7 A7 _ _ _=>?_
  cbv;exact⟨_,_,rfl,by rw[em];exact A7⟩
 .rintro σ H2 ⟨u1,u2,rfl,A2⟩;cbv;rw[TX] at A2;exact k l H2 A2
open PySem L2 Fr G1 Sm Vs G2 Rk Sz Sf Rw Ti Lo Lc Tr
def Ln{a b:Nat}(ha:0<a)(hb:0<b):(a*b).log2<=a.log2+b.log2+1:=by
 have:a*b<2 ^ (a.log2+b.log2+2):=by
  rw[show a.log2+b.log2+2=(a.log2+1)+(b.log2+1) by lia,Xc];exact V9 Zbh Zbh
 have:=(Zbn (Wg (UZ ha hb))).mpr this
 lia
def xx{c M:Nat}:∀{L:List Pr},(∀x∈L,0<x.1/\x.1<2 ^ c/\x.2.natAbs<=M)->iL L<=UD L*(M*c)/\0<cb (L.map (·.1))/\(cb (L.map (·.1))).log2<=UD L*(c+1)
 |[],_=>⟨TV _,by decide,by show Nat.log2 1<=0*(c+1);rw[Nat.zero_mul];decide⟩
 |x :: L,h=>by
  obtain⟨a,b,e⟩:=xx (c:=c) (M:=M) (L:=L) λy hy=>h y (Sw _ hy)
  obtain⟨x0,xc,xm⟩:=h x Sv;have l:x.1.log2<=c:=VU ((Zbn ∅).mpr xc);refine⟨?_,UZ x0 b,?_⟩
  .show x.2.natAbs*x.1.log2+iL L<=(UD L+1)*(M*c);rw[WI]
   have:=Uz xm l
   lia
  .show(x.1*cb (L.map (·.1))).log2<=(UD L+1)*(c+1);rw[WI]
   have:=Ln x0 b
   lia
def zB{P:Nat×Nat->Prop}{M:Nat}{x:Pr}:∀{W:List (Nat×Nat)} {R:List Int},(∀w∈W,P w)->(∀c∈R,c.natAbs<=M)->x∈i4 W R->(∃w,P w/\(x.1=w.1\/x.1=w.2))/\x.2.natAbs<=M
 |w :: W,e :: R,hW,hR,h=>by
  rcases S_.mp h with q|q
  .rw[q];exact⟨⟨w,hW w Sv,.inl rfl⟩,hR e Sv⟩
  .rcases S_.mp q with q|q
   .rw[q];exact⟨⟨w,hW w Sv,.inr rfl⟩,by show(-e).natAbs<=M;rw[Yx];exact hR e Sv⟩
   .exact zB (λy hy=>hW y (Sw _ hy)) (λy hy=>hR y (Sw _ hy)) q
 |[],_,_,_,h=>by cases h
 |_ :: _,[],_,_,h=>by cases h
structure Ez (w:Nat) (ts:List Tn):Prop where
 co:qi w ts
 h8:(aT ts).length<=8
 l8:(b6 ts).length<=8
 wide:Wide w (aT ts)
 bnd:zj 2 (aT ts)
 nn:∀r∈aT ts,∀c∈r,0<=c
 pa:dy ts
abbrev wW (ts:List Tn):List (Nat×Nat):=wl (Wt ts) (aT ts).length
abbrev mks(ts:List Tn):List (List Int):=(wE (cD ts)).makers
abbrev qm(ts:List Tn):Prop:=∀j,As.Fine (aC ts) j
abbrev qE(K:Fg):Sp:=λvs H Q _=>∃(v:V) (ws:List Str) (ts:List Tn) (w:Nat),vs=[v]/\Rz K H v (dV ws ts)/\Ez w ts /\
 (∀(i x y:Nat) (p:Addr) (H':Hp),(aC ts)[i]?=some (x,y)->(∀j<i,As.Fine (aC ts) j)->¬ Rch (aC ts) y x->Same H H'->H p=none->H' p=some (.tup [.bl false,.int (i:Int)])->Q (.ref p) H') /\
 (∀(j:Nat) (m:List Int) (p r:Addr) (H':Hp),qm ts->(mks ts)[j]?=some m->(∀i<j,∀m',(mks ts)[i]?=some m'->One (wW ts) m')->¬ One (wW ts) m->Same H H'->H p=none->H r=none->H' p=some (.tup [.bl false,.ref r])->H' r=some (.lst (m.map V.int))->Q (.ref p) H') /\
 ∀(p f:Addr) (xs:List V) (H':Hp),qm ts->(∀m∈mks ts,One (wW ts) m)->Same H H'->H p=none->H f=none->H' p=some (.tup [.bl true,.ref f])->H' f=some (.lst xs)->UD xs=(aT ts).length->(∀i x,xs[i]?=some x->QV K H' x (Wt ts i))->Q (.ref p) H'
def L8(pa:dy ts)(t8:UD ts<=8)(h8:(aT ts).length<=8){h:Nat}(hh:h<(aT ts).length):Bq 3900 (Wt ts h):=by
 have p1:=sP pa;refine fE pa t8 (PD pa t8 h8 hh) (VD p1) (Tc p1 (by decide)) ?_;unfold MM;exact Uz ∅ (Tc (UZ (by decide) p1) (by decide))
def wX(o:Ez w ts){m:List Int}(hm:m∈mks ts):m.length=(aT ts).length/\(∀q,aO m (cD ts) q=0)/\∀c∈m,c.natAbs<2 ^ 800:=by
 have hw:=iu o.wide;have hb:=kC o.bnd;have G:=(Mk.Le hw (by decide) hb (cD ts).length (Sx _)).good m hm;refine⟨G.len.trans (cV ts),G.nought,λc hc=>Tf (G.bnd c hc) (Tc (by decide) ?_)⟩;have h8:=o.h8;refine Ta (show bits 2 _<=bits 2 8 from ?_) (by decide);unfold bits;exact Nat.sub_le_sub_right (Ue _ (Tc (by decide) (Ta (XB _ _) (by rw[cV];exact h8)))) 1
def Qk(o:Ez w ts)(af:qm ts){m:List Int}(lm:m.length=(aT ts).length)(bm:∀c∈m,c.natAbs<=2 ^ 800) :
  (∀x∈i4 (wW ts) m,0<x.1/\x.1<2 ^ 8000)/\iL (i4 (wW ts) m)<2 ^ 8000/\(i4 (wW ts) m).length+(cb ((i4 (wW ts) m).map (·.1))).log2<2 ^ 20:=by
 have h8:=o.h8;have lw:(wW ts).length=m.length:=by unfold wW wl;rw[Si,SV,lm]
 have ll:=tq lw
 have all:∀x∈i4 (wW ts) m,0<x.1/\x.1<2 ^ 3900/\x.2.natAbs<=2 ^ 800:=λx hx=>by
  obtain⟨⟨u,⟨a,b,c,d⟩,e⟩,f⟩:=zB (P:=λu=>0<u.1/\0<u.2/\u.1<2 ^ 3900/\u.2<2 ^ 3900) (M:=2 ^ 800) (λu hu=>by
   unfold wW wl at hu
   obtain⟨i,hi,rfl⟩:=SE.mp hu
   have li:=Tv.mp hi
   have wb:=L8 o.pa o.co.le o.h8 li
   have wp:=IU o.pa (λe he=>by obtain⟨j,hj⟩:=Tb he;exact af j e.1 e.2 hj) li
   exact⟨by show 0<(Wt ts i).num.natAbs;lia,W7 (Wt ts i).den_nz,wb.1,wb.2⟩) bm hx
  rcases e with e|e <;> rw[e]
  .exact⟨a,c,f⟩
  .exact⟨b,d,f⟩
 obtain⟨t1,t2,t3⟩:=xx all;have p1:(2:Nat) ^ 3900<2 ^ 8000:=pw_lt (by decide);have p2:16*(2 ^ 800*3900)<(2:Nat) ^ 8000:=Tf (by decide:16*(2 ^ 800*3900)<2 ^ 820) (Tc (by decide) (by decide));refine⟨λx hx=>⟨(all x hx).1,Ut (all x hx).2.1 p1⟩,Tk (Ta t1 (T8 _ ∅)) p2,?_⟩
 have:=T8 (3900+1) (by lia:(i4 (wW ts) m).length<=16)
 lia
def R6(o:Ez w ts)(af:qm ts){m:List Int}(hm:m∈mks ts) :
  (∀x∈i4 (wW ts) m,0<x.1/\x.1<2 ^ 8000)/\iL (i4 (wW ts) m)<2 ^ 8000/\(i4 (wW ts) m).length+(cb ((i4 (wW ts) m).map (·.1))).log2<2 ^ 20:=by
 obtain⟨lm,_,bm⟩:=wX o hm;exact Qk o af lm λc hc=>VU (bm c hc)
nonrec def Fh(K:Fg):TS:=(ao (bo (bY K (aw (ut K) [] E0 (ac (aa 0) ae))) (ak 3)
 (a4 (aK (ar zm (bO (bz K) (ac (aw (Pw.ux K) [] E0 (ac (aw (Pw.Jz K) [] E0 (ac (aa 2) (ac (aa 3) ae))) ae)) ae)) (tC (.int 0))))
 (aA (bC (ac (tC (.bl false)) (ac (aa 3) ae))))
 be))
 (aA (bC (ac (tC (.bl true)) (ac (aa 2) ae)))))
abbrev Aq(K:Fg):TS:=(ao (ay (aw (As.oR K) [] E0 (ac (aa 0) ae)) (ak 1))
 (ao (a4 (aK (ar Kl (aa 1) (tC .non)))
 (aA (bC (ac (tC (.bl false)) (ac (aa 1) ae))))
 be)
 (ao (ay (aw (uf K) [] E0 (ac (aa 0) ae)) (ak 2))
 (Fh K))))
def J9{K:Fg}:ρ 4 (qE K) (Aq K):=by
 fail "R";obtain⟨v,ws,ts,w,rfl,rv,o,k1,k2,k3⟩:=h;rw[L2.aI hN];walk_at "t";have t8:=o.co.le;have h8:=o.h8;unfold Aq;cbv;refine⟨v,ws,ts,rfl,rv,∅,λi x y he fi nr H1 S1=>?_,λaf H1 S1=>?_⟩
 .cbv;refine fU (λ_=>?_) (λz=>nomatch z);cbv;refine⟨aR,λp np=>?_⟩;exact k1 i x y p _ he fi nr (S1.trans (ai np _)) (S1.free np) ag
 .have af:qm ts:=af;cbv;refine fU (λz=>absurd rfl z) (λ_=>?_);cbv;refine⟨v,ws,ts,rfl,rv.same S1,t8,h8,o.pa,λf H2 xs nf S2 hf lf qf=>?_⟩;have S02:=S1.trans S2;cbv;refine⟨v,ws,ts,w,rfl,rv.same S02,o.co,h8,o.l8,o.wide,o.bnd,λpl H3 S3 r3=>?_⟩;have S03:=S02.trans S3;obtain⟨_,ys,e,_,hpl,ry⟩:=r3.kB;cases e;have ly:UD ys=(mks ts).length:=by rw[ry.length,Si];rfl
  cbv;refine⟨pl,rfl,⟨ys,SqL.of hpl⟩,?_⟩;refine bg (xs:=ys) (λj σ H4=>∃u:Option V,σ=[some v,some .non,⇑f,u]/\Same H3 H4/\∀i<j,∀m',(mks ts)[i]?=some m'->One (wW ts) m') ⟨none,rfl,Same.refl _,λi hi=>absurd hi (TZ _)⟩ (by rintro i σ H4 _ ⟨_,_,S4,_⟩;exact SqL.of (S4 _ _ hpl)) ?_ ?_
  .rintro j y σ H4 hy ⟨u,rfl,S4,dn⟩;obtain⟨dd,g1,g2⟩:=ry.get hy;rw[So] at g1;obtain⟨m,hm,rfl⟩:=SA.mp g1;have hm':(mks ts)[j]?=some m:=hm;have mem:=Sq hm';obtain⟨r,zs,rfl,nr,hr,rz⟩:=g2.kB;rw[RpL.ints_of rz] at hr;obtain⟨lm,_,bm⟩:=wX o mem;obtain⟨a1,a2,a3⟩:=R6 o af mem;have bk:∀e∈aC ts,Rch (aC ts) e.2 e.1:=λe he=>by obtain⟨j,hj⟩:=Tb he;exact af j e.1 e.2 hj
   cbv;refine⟨f,r,xs,m,Wt ts,rfl,S4 _ _ (S3 _ _ hf),S4 _ _ hr,∅,∅,λi x hx=>⟨((qf i x hx).same S3).same S4,IU o.pa bk (by have:=(Sn.mp hx).1;lia)⟩,λq H5 A5=>?_⟩;obtain⟨zs5,h5,r5⟩:=A5.at_;rw[show wl (Wt ts) m.length=wW ts by rw[lm];rfl] at r5;cbv;refine⟨q,zs5,_,rfl,h5,r5,a1,a2,a3,λt H6 T A6 ap ne sf lt=>?_⟩;obtain⟨zs6,h6,r6⟩:=A6.at_;have l6:UD zs6=UD T:=by rw[r6.length,Si]
   have on:=Cw (W:=wW ts) (R:=m) ap ne sf;cbv;refine bH (SqL.of h6) ?_;rw[l6];cbv;have S06:=S03.trans (S4.trans (A5.same.trans A6.same));refine aZ (λc=>?_) (λc=>?_)
   .have no : ¬ One (wW ts) m:=λz=>by rw[on.mp z] at c;simp at c
    cbv;refine⟨aR,λp np=>?_⟩;have S7:=ai np (.tup [.bl false,.ref r]);exact k2 j m p r _ af hm' dn no (S06.trans S7) (S06.free np) (S02.free nr) ag (S7 _ _ (A6.same _ _ (A5.same _ _ (S4 _ _ hr))))
   .have ye:One (wW ts) m:=on.mpr (TB ∅);cbv;refine⟨_,rfl,S4.trans (A5.same.trans A6.same),λi hi m' h'=>?_⟩;by_cases ij:i=j
    .rw[ij,hm'] at h';cases h';exact ye
    .exact dn i ∅ m' h'
  .rintro σ H4 ⟨u,rfl,S4,dn⟩;cbv;refine⟨aR,λp np=>?_⟩;have S04:=S03.trans S4;have S7:=ai np (.tup [.bl true,.ref f]);refine k3 p f xs _ af (λm hm=>?_) (S04.trans S7) (S04.free np) (S1.free nf) ag (S7 _ _ (S4 _ _ (S3 _ _ hf))) lf λi x hx=>(((qf i x hx).same S3).same S4).same S7
   obtain⟨i,hi⟩:=Tb hm
   have:=(Sn.mp hi).1
   exact dn i ∅ m hi
open Bo (sm aN)
open Cl Mk
end Pw
namespace Gn
open Pw
open PySem L2 Fr G1 Sm Vs G2 Rk Sz Sf Rw Ti Lo Lc Tr Pw
open PySem.W (Dat kqdOk)
open PySem L2 Fr G1 Sm Vs G2 Rk Sz Sf Rw Ti Lo Lc Tr Pw Dn Wd
open PySem L2 Fr G1 Sm Vs G2 Rk Sz Sf Rw Ti Lo Lc Tr
open Bo (sm aN ic dA)
abbrev gq(w:Nat)(c:Int)(k:Nat):List Int:=(SJ w).map λj=>if j+1=k then c else 0
abbrev hls(w:Nat)(c:Int)(n:Nat):List (List Int):=(SJ n).map (gq w c)
abbrev rng(n:Nat)(x:Bool):List (Nat×Nat):=(SJ n).map (λk=>(k,(k+1) % n))++if x then [(1,0)] else []
structure ZL (w:Nat) (c:Int) (n:Nat) (x:Bool) (ts:List Tn):Prop where
 c1:1<=c
 c3:c<=3
 n2:2<=n
 nw:n<=w+1
 w5:w<=5
 xn:x=true->2<n
 eq:ts.map vF=(rng n x).map (sZ (hls w c n))
 pc:∀t∈ts,iS t.q t.d
def Ie{w:Nat}{s:Nat}(hs:s<w):pt (gq w c k) s=if s+1=k then c else 0:=by
 unfold pt gq;rw[Sj,So,TC hs];rfl
def xo{n k:Nat}(h:k<n):(hls w c n).getD k []=gq w c k:=by
 unfold hls;rw[Sj,So,TC h];rfl
def vB:(hls w c n).length=n:=by unfold hls;rw[Si,SV]
def KE{w:Nat}{c:Int}(c1:1<=c){j k:Nat}(hj:j<=w)(hk:k<=w)(e:gq w c j=gq w c k):j=k:=by
 rcases Wu j k with l|l|l
 .have:=congrArg (λr=>pt r (k-1)) e
  simp only[Ie (show k-1<w by lia)] at this;rw[if_neg ∅,if_pos ∅] at this;lia
 .exact l
 .have:=congrArg (λr=>pt r (j-1)) e
  simp only[Ie (show j-1<w by lia)] at this;rw[if_pos ∅,if_neg ∅] at this;lia
def O5{w:Nat}{c:Int}(c1:1<=c){n:Nat}(nw:n<=w+1):(hls w c n).Nodup :=
 nodup_map_on WL λa ha b hb e=>KE c1 (by have:=Tv.mp ha;lia) (by have:=Tv.mp hb;lia) e
def MQ{n:Nat}{x:Bool}(n2:2<=n)(n6:n<=6)(xn:x=true->2<n):(rng n x).Nodup/\(rng n x).length<=8/\rng n x≠[]/\∀p∈rng n x,m7 n p:=by
 have h:n=2\/n=3\/n=4\/n=5\/n=6:=by lia
 unfold m7;cases x with
 |false=>rcases h with rfl|rfl|rfl|rfl|rfl <;> decide
 |true =>
  have:=xn rfl
  rcases h with rfl|rfl|rfl|rfl|rfl
  .lia
  all_goals decide
def ZL.turns(h:ZL w c n x ts):xV w (hls w c n)/\(hls w c n).length<=8/\wa (hls w c n) ts:=by
 have nw:=h.nw;have w5:=h.w5;obtain⟨a,b,d,e⟩:=MQ h.n2 ∅ h.xn;have nd:=O5 h.c1 nw;refine⟨⟨nd,λr hr=>?_⟩,by rw[vB];lia,Good.turns ⟨a,b,h.eq,by rw[vB];exact e,h.pc⟩ nd d⟩;unfold hls at hr;obtain⟨k,_,rfl⟩:=SE.mp hr;refine⟨by unfold gq;rw[Si,SV],λy hy=>?_⟩;unfold gq at hy;obtain⟨j,_,rfl⟩:=SE.mp hy
 have:=h.c1
 have:=h.c3
 split <;> lia
end Gn
namespace Gn
open PySem L2 Fr G1 Sm Vs G2 Rk Sz Sf Rw Ti Lo Lc Tr Pw
open PySem.W (Dat kqdOk)
abbrev AN(K:Fg):Sp:=λvs H Q _=>∃(a:Addr) (ns:List Int) (t:Int),vs=[.ref a,.int t]/\SqL K H a (ns.map V.int)/\0<=t/\∀(p:Addr) (H':Hp) (ws:List Str) (ts:List Tn) (c:Int) (n:Nat) (x:Bool),Same H H'->iA ws ts->ZL (UD ws) c n x ts->Rz K H' (.ref p) (dV ws ts)->Q (.ref p) H'
def evOk(vo:iA ws ts):Ez ws.length ts/\0<(aT ts).length:=by
 have ho:=LL vo;obtain⟨hs,po,h8,tk⟩:=vo.turns;have sub:∀x∈aT ts,x∈hs:=DA ts [] (λt ht=>⟨(tk.ok t ht).1,(tk.ok t ht).2.1⟩) λx h=>by cases h
 refine⟨⟨L0 vo,ho.h8,ho.l8,ho.wide,ho.bnd,λr hr c hc=>((po.2 r (sub r hr)).2 c hc).1,λt ht=>(tk.ok t ht).2.2.2⟩,?_⟩;cases ts with
 |nil=>exact absurd rfl tk.ne
 |cons t ts=>exact Xp (dX (hs:=[]) (Sv (a:=t) (l:=ts))).1
nonrec def EW(K:Fg):TS:=(ao (ay (bO (eT K) (ac (ck (cZ (ac (aa 3) ae)) (ar (rI CMul λi j=>.int (i*j)) (bO Kr (ac (ar ja (aa 0) (ar kf (aa 7) (tC (.int 1)))) ae)) (ar bc (tC (.int 1)) (ar a6 (ar cI (aa 3) (tC (.int 25))) (tC (.int 3)))))) ae)) (ak 7))
 (bF (dJ K "list" aJ (aa 5) (ac (aa 7) ae))))
nonrec def EV (K:Fg):TS:=(bF (dJ K "list" aJ (aa 8) (ac (bC (ac (ar (bP K) (aa 5) (aa 6)) (ac (ar (bP K) (aa 5) (ar a6 (ar bc (aa 6) (tC (.int 1))) (aa 4))) (ac (aw (ib K) [] E0 (ac (ar cI (aa 9) (tC (.int 7))) (ac (ar bc (tC (.int 1)) (ar a6 (aa 9) (tC (.int 2)))) ae))) ae)))) ae)))
nonrec def EU (K:Fg):TS:=(bF (dJ K "list" aJ (aa 8) (ac (bC (ac (ar (bP K) (aa 5) (tC (.int 1))) (ac (ar (bP K) (aa 5) (tC (.int 0))) (ac (aw (ib K) [] E0 (ac (aw (fS K) [] E0 (ac (aa 0) (ac (ar bc (aa 1) (tC (.int 7))) ae))) (ac (tC (.int 1)) ae))) ae)))) ae)))
nonrec def ET(K:Fg):TS:=(ao (a4 (oA (aK (ar zm (aa 4) (tC (.int 2)))) (aK (ar ja (ar a6 (ar cI (aa 2) (tC (.int 75))) (tC (.int 2))) (tC (.int 1)))))
 (EU K)
 be)
 (aA (bC (ac (aw (gF K) [] E0 (ac (ar cI (aa 2) (tC (.int 150))) (ac (aa 3) ae))) (ac (bO (eT K) (ac (aa 8) ae)) ae)))))
nonrec def ES(K:Fg):TS:=(ao (ay (bK ae) (ak 8))
 (ao (bo (cZ (ac (aa 4) ae)) (ak 6)
 (ao (ay (aw (fS K) [] E0 (ac (aa 0) (ac (ar bc (ar bc (aa 1) (tC (.int 1))) (aa 6)) ae))) (ak 9))
 (EV K)))
 (ET K)))
nonrec def EQ(K:Fg):TS:=(ao (ay (ar bc (tC (.int 1)) (ar a6 (aa 2) (tC (.int 5)))) (ak 3))
 (ao (ay (ar bc (tC (.int 2)) (ar a6 (ar cI (aa 2) (tC (.int 5))) (aa 3))) (ak 4))
 (ao (ay (bK ae) (ak 5))
 (ao (bo (cZ (ac (aa 4) ae)) (ak 6)
 (EW K))
 (ES K)))))
abbrev zJ(K:Fg):TS:=(ao (ay (aw fR [] E0 (ac (aw (fS K) [] E0 (ac (aa 0) (ac (aa 1) ae))) (ac (tC (.int 3)) ae))) (ak 2))
 (EQ K))
def KD:(gq w c k).length=w:=by unfold gq;rw[Si,SV]
def JU{K:Fg}:ρ 10 (AN K) (zJ K):=by
 fail "R";obtain⟨a,ns,t,rfl,hS,t0,k⟩:=h;rw[L2.aI hN];walk_at "t";unfold zJ;cbv;refine⟨a,ns,t,rfl,hS,t0,?_⟩;cbv;refine⟨_,_,rfl,by decide,by decide,λm mx=>?_⟩;have m0:0<=m:=mx.1;cbv;refine⟨by decide,λD nD=>?_⟩;have A1:AccZ K H D (upd H D (.lst [])) []:=AccZ.start (Same.refl _) nD;generalize upd H D (.lst [])=H1 at A1 ⊢;obtain⟨w,hw⟩:∃w:Nat,1+m % 5=(w:Int):=⟨(1+m % 5).toNat,∅⟩
 obtain⟨n,hn⟩:∃n:Nat,2+m / 5 % (1+m % 5)=(n:Int):=⟨(2+m / 5 % (1+m % 5)).toNat,by have:=U6 (m / 5) (by lia:1+m % 5≠0);lia⟩
 have w1:1<=w:=by lia
 have w5:w<=5:=by lia
 have n2:2<=n:=by have:=U6 (m / 5) (by lia:1+m % 5≠0);lia
 have nw:n<=w+1:=by have:=UO (m / 5) (by lia:0<1+m % 5);lia
 obtain⟨c,hc⟩:∃c:Int,1+m / 25 % 3=c:=⟨_,rfl⟩
 have c1:1<=c:=by lia
 have c3:c<=3:=by lia
 rw[hn,hw];cbv;rw[TW];refine bR (λi σ H2=>∃u6 u7:Option V,σ=[⇑a,↥t,↥m,↥(w:Int),↥(n:Int),⇑D,u6,u7,none,none]/\AccZ K H D H2 ((hls w c i).map dI)) ⟨none,none,rfl,A1⟩ ?_ ?_
 .rintro i σ H2 hi ⟨u6,u7,rfl,A2⟩;cbv;rw[TW];refine bU λDl nD=>⟨λj H4=>AccZ K H2 Dl H4 ((gq j c i).map TF),AccZ.start (Same.refl _) nD,?_,?_⟩
  .intro j H4 hj B
   have put:∀x:Int,x=(if j+1=i then c else 0)->jq Dl w j (λj H4=>AccZ K H2 Dl H4 ((gq j c i).map TF)) (.int x) H4:=by
    intro x ex;refine aH hj (B.bG (.int x) (am ?_) λH5 B5=>?_)
    .rw[Si,KD];lia
    .show AccZ K H2 Dl H5 ((gq (j+1) c i).map TF);unfold gq;rw[U5,Sr,Sr,W5,W5,<- ex];exact B5
   cbv;refine put _ ?_;by_cases z:j+1=i
   .rw[if_pos (by rw[decide_eq_true ∅]),if_pos z,XW,hc]
   .rw[if_neg (by rw[decide_eq_false ∅];decide),if_neg z,Uq]
  .intro H4 B;have eB:=AccZ.ints B;have hl:(hls w c (i+1)).map dI=(hls w c i).map dI++[dI (gq w c i)]:=by unfold hls;rw[U5,Sr,Sr];rfl
   cbv;refine iP (SqL.of eB) λq nq=>?_
   have S5:=B.same.trans (ai nq (.tup ((gq w c i).map V.int)));have r5:Rz K (upd H4 q (.tup ((gq w c i).map V.int))) (.ref q) (dI (gq w c i)):=.tup ag (RpL.ints _);generalize upd H4 q (.tup ((gq w c i).map V.int))=H5 at S5 r5 ⊢;have A5:=A2.on S5;cbv;refine⟨A5.ty,?_⟩;cbv;refine cx A5 r5 (am (by rw[Si,vB];lia)) λH6 A6 _ _ _=>?_
   cbv;exact⟨_,_,rfl,by rw[hl];exact A6⟩
 .rintro σ H2 ⟨u6,u7,rfl,A2⟩;obtain⟨zs,hz,rz⟩:=A2.at_;have S2:=A2.same;cbv;refine⟨by decide,λl nl=>?_⟩;have A3:AccZ K H2 l (upd H2 l (.lst [])) []:=AccZ.start (Same.refl _) nl;generalize upd H2 l (.lst [])=H3 at A3 ⊢
  have at_:∀{H5:Hp} {j:Nat},Same H2 H5->j<n->∃y,zs[j]?=some y/\Rz K H5 y (dI (gq w c j)):=λ{H5 j} S hj=>by
   obtain⟨y,e,r⟩:=rz.get' (i:=j) (d:=dI (gq w c j)) (by unfold hls;rw[So,So,TC hj];rfl);exact⟨y,e,r.same S⟩
  cbv;rw[TW];refine bR (λi σ H4=>∃(ts:List Tn) (u6 u9:Option V),σ=[⇑a,↥t,↥m,↥(w:Int),↥(n:Int),⇑D,u6,u7,⇑l,u9]/\AccZ K H2 l H4 (ts.map dT)/\ts.map vF=((SJ i).map λk=>(k,(k+1) % n)).map (sZ (hls w c n))/\∀t∈ts,iS t.q t.d) ⟨[],_,none,rfl,A3,rfl,λt h=>by cases h⟩ ?_ ?_
  .rintro i σ H4 hi ⟨ts,u6,u9,rfl,A4,em,pc⟩;have lt:UD ts=i:=by have:=congrArg UD em;rw[Si,Si,Si,SV] at this;exact this
   have S4:=A4.same;obtain⟨y1,e1,_⟩:=at_ S4 hi;have lm:(i+1) % n<n:=ZbR _ ∅;obtain⟨y2,e2,_⟩:=at_ S4 lm;have em2:(0+(i:Int)+1) % (n:Int)=(((i+1) % n:Nat):Int):=by rw[Int.natCast_emod];congr 1;lia
   cbv;refine⟨a,ns,_,rfl,(S2.trans S4).seq hS,∅,?_⟩;generalize cellOf ns (t+1+(0+(i:Int)))=c2;cbv;refine⟨A4.ty,?_⟩;cbv;refine bX (SqL.of (S4 _ _ hz)) (v:=y1) (by rw[UB];exact aM e1) ?_;cbv;rw[em2];refine bX (SqL.of (S4 _ _ hz)) (v:=y2) (aM e2) ?_;cbv;refine⟨_,_,rfl,λpa pq pd H5 S5 ok5 r5=>?_⟩;cbv;refine⟨gg,λz nz=>?_⟩;have S6:=ai nz (.tup [y1,y2,.ref pa]);have S26:=S4.trans (S5.trans S6);obtain⟨_,e1',g1⟩:=at_ S26 hi;obtain⟨_,e2',g2⟩:=at_ S26 lm;cases e1.symm.trans e1';cases e2.symm.trans e2';have r6:Rz K (upd H5 z (.tup [y1,y2,.ref pa])) (.ref z) (dT ⟨gq w c i,gq w c ((i+1) % n),pq,pd⟩):=.tup ag (.cons g1 (.cons g2 (.cons (r5.same S6) .nil)));cbv;refine cx (A4.on (S5.trans S6)) r6 (am (by rw[Si];lia)) λH7 A7 _ _ _=>?_
   cbv;refine⟨ts++[_],_,_,rfl,by rw[Sr];exact A7,?_,bV pc ok5⟩;rw[Sr,em,U5,Sr,Sr];show _++[(gq w c i,gq w c ((i+1) % n))]=_++[sZ (hls w c n) (i,(i+1) % n)]
   unfold sZ;rw[xo hi,xo lm]
  .rintro σ H4 ⟨ts,u6,u9,rfl,A4,em,pc⟩;have lt:UD ts=n:=by have:=congrArg UD em;rw[Si,Si,Si,SV] at this;exact this
   have S4:=A4.same
   have fin:∀{u6 u9:Option V} {H5:Hp} {ts:List Tn} {x:Bool},ZL w c n x ts->AccZ K H2 l H5 (ts.map dT)->aA (bC (ac (aw (gF K) [] E0 (ac (ar cI (aa 2) (tC (.int 150))) (ac (aa 3) ae))) (ac (bO (eT K) (ac (aa 8) ae)) ae))) (ends Q) [⇑a,↥t,↥m,↥(w:Int),↥(n:Int),⇑D,u6,u7,⇑l,u9] H5:=by
    intro u6 u9 H5 ts x Z A5;obtain⟨ys,hl,ry⟩:=A5.at_;have S5:=A5.same;cbv;refine⟨_,_,rfl,∅,∅,∅,λpw H6 ws S6 ow lw r6=>?_⟩;cbv;refine iP (SqL.of (S6 _ _ hl)) λp np=>?_
    have S7:=ai np (.tup ys);cbv;refine⟨aR,λr nr=>?_⟩;have S8:=ai nr (.tup [.ref pw,.ref p]);have r7:Rz K (upd H6 p (.tup ys)) (.ref p) (.tuple (ts.map dT)):=.tup ag ((ry.same S6).same S7);have lw':UD ws=w:=by lia
    obtain⟨t1,t2,t3⟩:=Z.turns;have vo:iA ws ts:=⟨ow,∅,∅,_,by rw[lw'];exact t1,t2,t3⟩
    exact k r _ ws ts c n x (S2.trans (S5.trans (S6.trans (S7.trans S8)))) vo (by rw[lw'];exact Z) (.tup ag (.cons ((r6.same S7).same S8) (.cons (r7.same S8) .nil)))
   have Z0:ZL w c n false ts:=⟨c1,c3,n2,nw,w5,(λz=>by cases z),(by rw[em];unfold rng;rw[if_neg (by decide),Vy]),pc⟩
   cbv;refine aZ (λc2=>?_) (λc2=>?_)
   .cbv;refine aZ (λc4=>?_) (λc4=>?_)
    .have n3:2<n:=by lia
     obtain⟨y1,e1,_⟩:=at_ S4 (show 1<n by lia);obtain⟨y2,e2,_⟩:=at_ S4 (show 0<n by lia);cbv;refine⟨A4.ty,?_⟩;cbv;refine bX (SqL.of (S4 _ _ hz)) (v:=y1) (aM (j:=1) e1) ?_;cbv;refine bX (SqL.of (S4 _ _ hz)) (v:=y2) (aM (j:=0) e2) ?_;cbv;refine⟨a,ns,_,rfl,(S2.trans S4).seq hS,∅,?_⟩;cbv;refine⟨_,_,rfl,λpa pq pd H5 S5 ok5 r5=>?_⟩;cbv;refine⟨gg,λz nz=>?_⟩;have S6:=ai nz (.tup [y1,y2,.ref pa]);have S26:=S4.trans (S5.trans S6);obtain⟨_,e1',g1⟩:=at_ S26 (show 1<n by lia);obtain⟨_,e2',g2⟩:=at_ S26 (show 0<n by lia);cases e1.symm.trans e1';cases e2.symm.trans e2';have r6:Rz K (upd H5 z (.tup [y1,y2,.ref pa])) (.ref z) (dT ⟨gq w c 1,gq w c 0,pq,pd⟩):=.tup ag (.cons g1 (.cons g2 (.cons (r5.same S6) .nil)));cbv;refine cx (A4.on (S5.trans S6)) r6 (am (by rw[Si];lia)) λH7 A7 _ _ _=>?_
     refine fin (ts:=ts++[⟨gq w c 1,gq w c 0,pq,pd⟩]) (x:=true) ⟨c1,c3,n2,nw,w5,λ_=>n3,?_,bV pc ok5⟩ (by rw[Sr];exact A7);rw[Sr,em];unfold rng;rw[if_pos rfl,Sr (f:=sZ (hls w c n))];show _++[(gq w c 1,gq w c 0)]=_++[sZ (hls w c n) (1,0)]
     unfold sZ;rw[xo ∅,xo ∅]
    .exact fin Z0 A4
   .exact fin Z0 A4
open PySem L2 Fr G1 Sm Vs G2 Rk Sz Sf Rw Ti Lo Lc Tr Pw Dn Wd
open Tr Ti Vs G1
end Gn
namespace L2
open PySem PySem.Spec PyProof.Rows
open PySem.W (Dat kqdP kqdPs kqdOk)
abbrev M3(K:Fg):R2:=λx y H Q=>∃d,Rep K H x d/\Rep K H y d/\Zr (kqdP d)=true/\W1 (kqdP d) (kqdP d)=true/\Q (.bl false) H
def NU{X:Cx}(hu:X.A.units+64<cLine):fe X (compareOp .NotEq) (M3 X.K):=by
 intro G s σ H x y v u Q I rx ry h;obtain⟨d,hd,he,sh,ev,q⟩:=h;obtain⟨as,ra⟩:=Rep.reads I hd rx;obtain⟨bs,rb⟩:=Rep.reads I he ry;exact ne_dataH ra rb sh sh hu ⟨_,H,I,(by rw[ev];rfl),q⟩
end L2
namespace Nl
open PySem L2 Fr G1 Sm Vs G2 Rk Sz Sf Rw Ti Lo Lc Tr Pw Br
open PySem.W (Dat kqdOk)
open PyProof.Rows
def DB:∀{ts us:List Tn} (hs:List (List Int)),ts.map Dn.pr=us.map Dn.pr->fQ hs ts=fQ hs us
 |[],[],_,_=>rfl
 |[],_ :: _,_,h=>by cases h
 |_ :: _,[],_,h=>by cases h
 |t :: ts,u :: us,hs,h=>by
  rw[TM,TM] at h;have h1:=(Vo h).1;have e1:t.fr=u.fr:=congrArg ZS h1;have e2:t.to=u.to:=congrArg Yu h1;show fQ (bS (bS hs t.fr) t.to) ts=fQ (bS (bS hs u.fr) u.to) us;rw[e1,e2];exact DB _ (Vo h).2
def Dz{ts us:List Tn}(h:ts.map Dn.pr=us.map Dn.pr):aT ts=aT us:=DB [] h
def DU{ts us:List Tn}(h:ts.map Dn.pr=us.map Dn.pr):aC ts=aC us:=by
 have e:∀(H:List (List Int)) (ts:List Tn),(ts.map λt=>(ix H t.fr,ix H t.to))=(ts.map Dn.pr).map λp=>(ix H p.1,ix H p.2):=λH ts=>by rw[TY];rfl
 unfold aC;rw[e,e,h,Dz h]
def IQ{ts us:List Tn}(h:ts.map Dn.pr=us.map Dn.pr):ts.map cS=us.map cS:=by
 have e:∀ts:List Tn,ts.map cS=(ts.map Dn.pr).map λp=>Up (λa b=>b-a) p.1 p.2:=λts=>by rw[TY];rfl
 rw[e,e,h]
def Iu{ts us:List Tn}(h:ts.map Dn.pr=us.map Dn.pr):b6 ts=b6 us:=by unfold b6;rw[Dz h,DU h]
def CZ{ts us:List Tn}(h:ts.map Dn.pr=us.map Dn.pr):eG ts=eG us:=by unfold eG;rw[Dz h,Iu h,IQ h]
def Mq{us:List Tn}(vo:iA ws ts)(h:us.map Dn.pr=ts.map Dn.pr)(pa:dy us):iA ws us:=by
 obtain⟨hs,po,h8,tk⟩:=vo.turns;have l:=congrArg UD h;rw[Si,Si] at l;refine⟨vo.words,vo.w1,vo.w5,hs,po,h8,λz=>tk.ne (TB (by rw[<- l,z];rfl)),by rw[l];exact tk.le,?_,λu hu=>?_⟩
 .have e:∀ts:List Tn,ts.map vF=ts.map Dn.pr:=λ_=>rfl
  rw[e,h];exact tk.nd
 .have m:Dn.pr u∈ts.map Dn.pr:=by rw[<- h];exact WQ hu
  obtain⟨t,ht,e⟩:=SE.mp m;have e1:t.fr=u.fr:=congrArg ZS e;have e2:t.to=u.to:=congrArg Yu e;obtain⟨a,b,c,_⟩:=tk.ok t ht;rw[e1,e2] at *;exact⟨a,b,c,pa u hu⟩
def CH(vo:iA ws ts):0<=eG ts/\(eG ts=0->mks ts=[]):=by
 have e:=(C0 (L0 vo) (LL vo)).1;refine⟨∅,λz=>?_⟩;unfold mks;exact TB ∅
abbrev vN (ws:List Str) (ts:List Tn):Dat:=.list [dM (b6 ts),dL (ni (wE (ts.map cS)).free),.int (eG ts),.list ((Dn.lst ((Dn.gh (UD ws)).filter (Dn.isD (ts.map Dn.pr)))).map Dn.dS),.list ((Dn.lst ((Dn.gh (UD ws)).filter (Dn.isT (ts.map Dn.pr)))).map Dn.dS),.list [.bool (uy ws ts).1,.bool (vv ws ts).1,.bool (uN ws ts).1]]
def Pz{ts us:List Tn}(h:ts.map Dn.pr=us.map Dn.pr):vN ws ts=vN ws us:=by
 have l:=congrArg UD h;rw[Si,Si] at l;unfold vN uy vv uN;rw[Iu h,IQ h,CZ h,h,l]
def N4(ha:kqdOk 6 a=true)(hb:kqdOk 6 b=true)(hc:kqdOk 6 c=true)(hd:kqdOk 6 d=true)(he:kqdOk 6 e=true):Zr (Wk (.list [a,b,c,d,e,.list [.bool x,.bool y,.bool z]]))=true/\W1 (Wk (.list [a,b,c,d,e,.list [.bool x,.bool y,.bool z]])) (Wk (.list [a,b,c,d,e,.list [.bool x,.bool y,.bool z]]))=true:=by
 have L:=λ{d:Dat} (h:kqdOk 6 d=true)=>Wm 6 d h
 have Q:=λ{d:Dat} (h:kqdOk 6 d=true)=>(PySem.W.kqd_eqv 6 d d 6 h h).mpr rfl
 obtain⟨a1,a2⟩:=L ha;obtain⟨b1,b2⟩:=L hb;obtain⟨c1,c2⟩:=L hc;obtain⟨d1,d2⟩:=L hd;obtain⟨e1,e2⟩:=L he;refine⟨?_,?_⟩
 .unfold Zr;simp only[Wk,Zb1,PyData.canLay0,ZaN,PyData.depth,X2,a1,b1,c1,d1,e1,Zb2,Bool.true_and,decide_eq_true_eq];lia
 .simp only[Wk,Zb1,W1,PyData.eqvAll,Q ha,Q hb,Q hc,Q hd,Q he,Zb2,beq_self_eq_true]
def CA{α:Type}{f:α->Dat}(h:∀x,kqdOk 5 (f x)=true)(l:List α):kqdOk 6 (.list (l.map f))=true:=by
 show(l.map f).all (kqdOk 5)=true;rw[Za];intro x hx;obtain⟨t,_,rfl⟩:=SE.mp hx;exact h t
def N7(ws:List Str)(ts:List Tn):Zr (Wk (vN ws ts))=true/\W1 (Wk (vN ws ts)) (Wk (vN ws ts))=true :=
 N4 (CA (λx=>N6 x 4) _) (N6 _ 5) rfl (CA (λx=>ky _ 4) _) (CA (λx=>ky _ 4) _)
abbrev wy(K:Fg):Sp:=λvs H Q _=>∃(v:V) (ws:List Str) (ts:List Tn),vs=[v]/\Rz K H v (dV ws ts)/\iA ws ts/\∀(p:Addr) (xs:List V) (H':Hp),Same H H'->H' p=some (.lst xs)->xs[2]?=↥(eG ts)->Rp K (λ_=>True) H' (.ref p) (vN ws ts)->Q (.ref p) H'
nonrec def E5(K:Fg):TS:=(aA (bK (ac (aw (mI K) [] E0 (ac (aa 0) ae)) (ac (aw (oK K) [] E0 (ac (aa 0) ae)) (ac (aw (AV K) [] E0 (ac (aa 0) ae)) (ac (aw (Dn.oO K) [] E0 (ac (aa 0) ae)) (ac (aw (Dn.uh K) [] E0 (ac (aa 0) ae)) (ac (aa 1) ae))))))))
abbrev zP(K:Fg):TS:=(ao (ay (bK (ac (ar (aD K) (aw (gb K) [] E0 (ac (aa 0) ae)) (tC (.int 0))) (ac (ar (aD K) (aw (jX K) [] E0 (ac (aa 0) ae)) (tC (.int 0))) (ac (ar (aD K) (aw (gf K) [] E0 (ac (aa 0) ae)) (tC (.int 0))) ae)))) (ak 1))
 (E5 K))
def JX{K:Fg}:ρ 2 (wy K) (zP K):=by
 fail "R";obtain⟨v,ws,ts,rfl,rv,vo,k⟩:=h;rw[L2.aI hN];walk_at "t";have co:=L0 vo;have ho:=LL vo;have w5:=vo.w5;have t8:=co.le;have ne:ts≠[]:=by obtain⟨_,_,_,tk⟩:=vo.turns;exact tk.ne
 have ln:∀t∈ts,t.fr.length=(UD ws)/\t.to.length=UD ws:=λt ht=>by
  obtain⟨hs,po,_,tk⟩:=vo.turns;exact⟨(po.2 _ (tk.ok t ht).1).1,(po.2 _ (tk.ok t ht).2.1).1⟩
 unfold zP;cbv;refine⟨v,ws,ts,rfl,rv,co,vo.w1,ne,λp1 H1 S1 r1 _=>?_⟩;obtain⟨_,l1,e1,h1,_⟩:=nM r1;cases e1;cbv;refine aG (SqT.of h1) (v:=.bl (uy ws ts).1) rfl ?_;cbv;refine⟨v,ws,ts,rfl,rv.same S1,co,vo.w1,ne,λp2 H2 S2 r2 _=>?_⟩;obtain⟨_,l2,e2,h2,_⟩:=nM r2;cases e2;cbv;refine aG (SqT.of h2) (v:=.bl (vv ws ts).1) rfl ?_;cbv;have S02:=S1.trans S2;refine⟨v,ws,ts,rfl,rv.same S02,co,vo.w1,ne,λp3 H3 S3 r3 _=>?_⟩;obtain⟨_,l3,e3,h3,_⟩:=nM r3;cases e3;cbv;refine aG (SqT.of h3) (v:=.bl (uN ws ts).1) rfl ?_;cbv;refine⟨gg,λd nd=>?_⟩;have S03:=S02.trans S3;generalize ht:HO.lst [.bl (uy ws ts).1,.bl (vv ws ts).1,.bl (uN ws ts).1]=oo;have S04:=S03.trans (ai nd oo);have hd:upd H3 d oo d=some (.lst [.bl (uy ws ts).1,.bl (vv ws ts).1,.bl (uN ws ts).1]):=ag.trans (congrArg some ht.symm);generalize upd H3 d oo=H4 at S04 hd ⊢;cbv;refine⟨v,ws,ts,rfl,rv.same S04,t8,ho.h8,λp5 H5 S5 r5=>?_⟩;have S05:=S04.trans S5;cbv;refine⟨v,ws,ts,ws.length,rfl,rv.same S05,co,λp6 H6 A6=>?_⟩;have S06:=S05.trans A6.same;cbv;refine⟨v,ws,ts,ws.length,rfl,rv.same S06,co,ho.h8,λH7 S7=>?_⟩;have S07:=S06.trans S7;cbv;refine⟨v,ws,ts,rfl,rv.same S07,w5,∅,ln,λp8 H8 A8=>?_⟩;have S08:=S07.trans A8.same;cbv;refine⟨v,ws,ts,rfl,rv.same S08,w5,∅,ln,λp9 H9 A9=>?_⟩;cbv;refine⟨JH,λz nz=>?_⟩;generalize hz:HO.lst [.ref p5,.ref p6,.int (eG ts),.ref p8,.ref p9,.ref d]=o2;have S9:=A9.same.trans (ai nz o2);have S8:=A8.same.trans S9;have S7':=S7.trans S8;have S6':=A6.same.trans S7';have u:=λ{S:Addr->Prop} {v:V} {d:Dat} (h:Rp K S (upd H9 z o2) v d)=>Rp.mono (S':=λ_=>True) (λ_ _=>trivial) h
 have hz2:upd H9 z o2 z=some (.lst [.ref p5,.ref p6,.int (eG ts),.ref p8,.ref p9,.ref d]):=ag.trans (congrArg some hz.symm);refine k z _ _ (S08.trans S9) hz2 rfl ?_;refine .lst trivial hz2 (.cons (u (r5.same S6')) (.cons (u (A6.ref.same S7')) (.cons (.int _) (.cons (u (A8.ref.same S9)) (.cons (u (A9.ref.same (ai nz o2))) (.cons (.lst trivial ((S5.trans S6') _ _ hd) (.cons (.bl _) (.cons (.bl _) (.cons (.bl _) .nil)))) .nil))))))
end Nl
namespace K97
open PySem L2 Fr G1 Sm Vs G2 Rk Sz Sf Rw Ti Lo Lc Tr Pw Nl
open Br hiding PI
open PySem.W (Dat kqdOk)
open K97H
structure Cn (K:Fg) (mg:Str->Option Su) (nq oq:Addr):Prop where
 NOUGHT:mg "NOUGHT"=⇑nq
 ONE:mg "ONE"=⇑oq
 zero:∀H:Hp,SqT K H nq [.int 0,.int 1]
 one:∀H:Hp,SqT K H oq [.int 1,.int 1]
nonrec def MA(K:Fg):TS:=(ao (ay (aw (fS K) [] E0 (ac (aa 0) (ac (ar bc (tC (.int 19)) (aa 3)) ae))) (ak 7))
 (bF (dJ K "list" aJ (aa 2) (ac (bC (ac (aa 4) (ac (aa 5) (ac (aw (ib K) [] E0 (ac (ar cI (aa 7) (tC (.int 2))) (ac (ar bc (tC (.int 1)) (ar a6 (aa 7) (tC (.int 2)))) ae))) ae)))) ae))))
nonrec def Mz(K:Fg):TS:=(ao (a4 (HM (aK (ar zm (ar (bP K) (aa 9) (tC (.int 2))) (tC (.int 0)))) (aK (ar zm (bO (bz K) (ac (aa 11) ae)) (tC (.int 0)))))
 (aA (tC (.bl true)))
 be)
 (aA (AE (ar Kq (ar (aD K) (aw (Pw.qE K) [] E0 (ac (aa 1) ae)) (tC (.int 0))) (tC (.bl true))) (ar Kq (ar (aD K) (aw (Pw.qE K) [] E0 (ac (aa 8) ae)) (tC (.int 0))) (tC (.bl true))))))
nonrec def My(K:Fg):TS:=(ao (ay (aw (gJ K) [] E0 (ac (aa 1) ae)) (ak 10))
 (ao (ay (d5 (bY K (aa 10)) 2 (cf K 2 (aS (ak 0) (aS (ak 1) cj))) (aK (ar (i_ K true) (aa 0) (aw (uk K) [] E0 (ac (aa 12) (ac (aa 1) ae))))) (aa 0)) (ak 11))
 (Mz K)))
nonrec def Mx(K:Fg):TS:=(ao (ay (aw (Nl.wy K) [] E0 (ac (aa 1) ae)) (ak 9))
 (ao (a4 (HM (aK (ar (M3 K) (aa 9) (aw (Nl.wy K) [] E0 (ac (aa 8) ae)))) (aK (ar yJ (ar (bP K) (aa 9) (tC (.int 2))) (tC (.int 0)))))
 (aA (tC (.bl false)))
 be)
 (My K)))
nonrec def Mw(K:Fg):TS:=(ao (bo (cZ (ac (bO (bz K) (ac (ar (aD K) (aa 1) (tC (.int 1))) ae)) ae)) (ak 3)
 (ao (ay (ar (aD K) (ar (aD K) (aa 1) (tC (.int 1))) (aa 3)) (cf K 3 (aS (ak 4) (aS (ak 5) (aS (ak 6) cj)))))
 (MA K)))
 (ao (ay (bC (ac (ar (aD K) (aa 1) (tC (.int 0))) (ac (bO (eT K) (ac (aa 2) ae)) ae))) (ak 8))
 (Mx K)))
abbrev Jp(K:Fg):TS:=(ao (ay (bK ae) (ak 2))
 (Mw K))
abbrev Fe(K:Fg):TS:=(ao (ay (aw (AO K) [] E0 (ac (aa 0) (ac (tC (.int 0)) ae))) (ak 1))
 (ao (a4 (aK (ar ja (ar a6 (aw (fS K) [] E0 (ac (aa 0) (ac (tC (.int 15)) ae))) (tC (.int 2))) (tC (.int 1))))
 (ay (aw (Gn.AN K) [] E0 (ac (aa 0) (ac (tC (.int 0)) ae))) (ak 1))
 be)
 (Jp K)))
def Ky{us ts:List Tn}{t:Tn}(h:us.map Dn.pr=(ts.take i).map Dn.pr)(ht:ts[i]?=some t)(e:Dn.pr u=Dn.pr t):(us++[u]).map Dn.pr=(ts.take (i+1)).map Dn.pr:=by
 rw[SK,ht,Sr,Sr,h];show _++[Dn.pr u]=_++[Dn.pr t]
 rw[e]
def MT{K:Fg}{Q:VK}{ns:List Int}(vo:iA ws ts)(hS:SqL K H a (ns.map V.int))(rv:Rz K H (.ref p) (dV ws ts))(k:∀H',Q (.bl true) H') :
  Jp K (ends Q) [⇑a,⇑p,none,none,none,none,none,none,none,none,none,none] H:=by
 obtain⟨v1,v2,v3,e0,hv,r1,r2⟩:=gA rv;cases e0;obtain⟨vb,ys,rfl,hvb,ry⟩:=r2.bM;have ly:UD ys=UD ts:=by rw[ry.length,Si]
 obtain⟨o,n0⟩:=Gn.evOk vo;have t8:=o.co.le;have le:(aC ts).length=UD ts:=by unfold aC;rw[Si]
 unfold Jp;cbv;refine⟨JI,λl nl=>?_⟩;have A0:=AccZ.start (K:=K) (Same.refl H) nl;generalize upd H l (.lst [])=H0 at A0 ⊢;cbv;refine aG (SqT.of (A0.same _ _ hv)) (v:=.ref vb) rfl ?_;cbv;refine fT (SqT.of (A0.same _ _ hvb)) ?_;rw[ly];refine⟨(UD ts),rfl,∅,∅,?_⟩;refine bR (n:=ts.length) (λi σ H3=>∃(us:List Tn) (u3 u4 u5 u6 u7:Option V),σ=[⇑a,⇑p,⇑l,u3,u4,u5,u6,u7,none,none,none,none]/\us.map Dn.pr=(ts.take i).map Dn.pr/\dy us/\AccZ K H l H3 (us.map dT)) ⟨[],none,none,none,none,none,rfl,rfl,(λt ht=>by cases ht),A0⟩ ?_ ?_
 .rintro i σ H3 hi ⟨us,u3,u4,u5,u6,u7,rfl,em,pu,A⟩;have S3:=A.same
  have lu:UD us<=i:=by
   have:=congrArg UD em
   rw[Si,Si,SL] at this;lia
  have ht:ts[i]?=some ts[i]:=Sk hi;generalize ts[i]=t at ht;obtain⟨yt,et,rt⟩:=ry.get' (i:=i) (d:=dT t) (by rw[So,ht];rfl);obtain⟨at_,w1,w2,w3,rfl,hat,q1,q2,q3⟩:=pY (rt.same S3);rw[UB];cbv;refine aG (SqT.of (S3 _ _ hv)) (v:=.ref vb) rfl ?_;cbv;refine aG (SqT.of (S3 _ _ hvb)) (v:=.ref at_) (aM et) ?_;refine bu (SqT.of hat) rfl ?_;cbv;refine⟨a,ns,19+(i:Int),rfl,S3.seq hS,∅,?_⟩;generalize cellOf ns (19+(i:Int))=c;cbv;refine⟨A.ty,?_⟩;cbv;refine⟨_,_,rfl,λpa pq pd H4 S4 ok4 r4=>?_⟩;cbv;refine⟨gg,λpt npt=>?_⟩;have S5:=ai npt (.tup [w1,w2,.ref pa]);have S45:=S4.trans S5;have r5:Rz K (upd H4 pt (.tup [w1,w2,.ref pa])) (.ref pt) (dT ⟨t.fr,t.to,pq,pd⟩):=.tup ag (.cons (q1.same S45) (.cons (q2.same S45) (.cons (r4.same S5) .nil)));cbv;refine cx (A.on S45) r5 (am (by rw[Si];lia)) λH6 A6 _ _ _=>?_
  cbv;refine⟨us++[⟨t.fr,t.to,pq,pd⟩],_,_,_,_,_,rfl,Ky em ht rfl,bV pu ok4,by rw[Sr];exact A6⟩
 .rintro σ H3 ⟨us,u3,u4,u5,u6,u7,rfl,em,pu,A⟩;rw[SD (Sx _)] at em;have vu:=Mq vo em pu;have S3:=A.same;obtain⟨zs,hl,rzs⟩:=A.at_;cbv;refine aG (SqT.of (S3 _ _ hv)) (v:=v2) rfl ?_;cbv;refine iP (SqL.of hl) λq nq=>?_
  have S5:=ai nq (.tup zs);have r5:Rz K (upd H3 q (.tup zs)) (.ref q) (.tuple (us.map dT)):=.tup ag (rzs.same S5);generalize upd H3 q (.tup zs)=H5 at S5 r5 ⊢;cbv;refine⟨aR,λr nr=>?_⟩;have S6:=ai nr (.tup [v2,.ref q]);have S06:=S3.trans (S5.trans S6);have r6:Rz K (upd H5 r (.tup [v2,.ref q])) (.ref r) (dV ws us):=.tup ag (.cons (r1.same S06) (.cons (r5.same S6) .nil));generalize upd H5 r (.tup [v2,.ref q])=H6 at S6 S06 r6 ⊢;cbv;refine⟨.ref p,ws,ts,rfl,rv.same S06,vo,λt1 xs H7 S7 h7 l7 a7=>?_⟩;cbv;refine⟨.ref r,ws,us,rfl,r6.same S7,vu,λt2 xs2 H8 S8 h8 l8 a8=>?_⟩;rw[Pz em] at a8;obtain⟨sh,ev⟩:=N7 ws ts;cbv;refine⟨_,(a7.same S8).rep,a8.rep,sh,ev,?_⟩;obtain⟨p0,pz⟩:=CH vo;have S08:=S06.trans (S7.trans S8);cbv;refine bX (SqL.of (S8 _ _ h7)) (v:=.int (eG ts)) (aM l7) ?_;cbv;refine aZ (λz=>absurd z ∅) (λ_=>?_);cbv;refine⟨.ref p,ws,ts,rfl,rv.same S08,∅,λpe H9 A9=>?_⟩;obtain⟨es,hpe,rx⟩:=A9.at_;have les:UD es=UD ts:=by rw[rx.length,Si,le]
  have S09:=S08.trans A9.same;cbv;refine⟨pe,rfl,⟨_,SqL.of hpe⟩,?_⟩;refine fK (xs:=es) λF nF=>⟨λj H10=>∃gs:List Nat,AccZ K H9 F H10 (gs.map dN)/\gs.length<=j/\(gs=[]->∀i,i<j->∀e,(aC ts)[i]?=some e->Rch (aC ts) e.2 e.1),⟨[],AccZ.start (Same.refl _) nF,Sx _,λ_ i hi=>absurd hi (TZ _)⟩,(by rintro j H10 _ ⟨_,A,_⟩;exact SqL.of (A.same _ _ hpe)),?_,?_⟩
  .rintro j x H10 hx ⟨gs,B,lz,al⟩ us' hu
   obtain⟨x1,x2,rfl⟩:∃u0 u1,us'=[u0,u1]:=by
    match us',hu with
    |[u0,u1],_=>exact⟨u0,u1,rfl⟩
   have lj:=(Sn.mp hx).1;obtain⟨d,g1,g2⟩:=rx.get hx;rw[So] at g1;obtain⟨e,he,rfl⟩:=SA.mp g1;obtain⟨y1,y2⟩:=e;obtain⟨pb,rfl,hpb⟩:=vM (g2.same B.same);refine bu (SqT.of hpb) rfl ?_;cbv;refine⟨⟨[↥(y1:Int),↥(y2:Int)],rfl,rfl⟩,?_⟩;cbv;refine⟨pe,es,aC ts,y2,rfl,B.same _ _ hpe,rx.same B.same,∅,λr' H11 ns' A11 nd mem=>?_⟩;have ri:Rp K (λ_=>True) H11 (.int (y1:Int)) (dN y1):=.int _;refine gR ri.rep A11.rep (K7 ns') rfl (λno=>?_) (λyes=>?_)
   .cbv;refine aH lj ?_;refine(B.on A11.same).bG (d:=dN y1) (.int _) (am (by rw[Si];lia)) λH12 A12=>?_
    refine⟨gs++[y1],by rw[Sr];exact A12,by rw[SC];exact WH lz,λz=>by simp at z⟩
   .cbv;refine dO lj ?_;refine⟨gs,B.on A11.same,∅,λz i hi e ei=>?_⟩;rcases Vf i j with w|w
    .exact al z i w e ei
    .rw[show i=j by lia,he] at ei;cases ei;exact(mem y1).mp (rV.mp yes)
  .rintro H10 ⟨gs,B,lz,al⟩;have hz:H10 F=some (.lst ((gs.map λn:Nat=>(n:Int)).map V.int)):=AccZ.ints (by rw[TY];exact B);cbv;refine bX (SqL.of (B.same _ _ (A9.same _ _ (S8 _ _ h7)))) (v:=.int (eG ts)) (aM l7) ?_;cbv;refine aZ (λ_=>k _) (λz1=>?_);cbv;refine bH (SqL.of hz) ?_;rw[Si,Si];cbv;refine aZ (λ_=>k _) (λz2=>?_);have ez:gs=[]:=T0.mp ∅;have af:qm ts:=λj x y hj=>al ez j (by have:=(Sn.mp hj).1;lia) _ hj
   have af2:qm us:=by unfold qm;rw[DU em];exact af
   have m0:∀{vs:List Tn},iA ws vs->eG vs=eG ts->mks vs=[]:=λv e=>(CH v).2 ∅
   have one:∀{v:V} {vs:List Tn} {H:Hp} {Q':VK} {E':XK},iA ws vs->qm vs->eG vs=eG ts->Rz K H v (dV ws vs)->(∀(p f:Addr) (H':Hp),Same H H'->H' p=some (.tup [.bl true,.ref f])->Q' (.ref p) H')->Pw.qE K [v] H Q' E':=λvo' af' e rv' kk=>by
    have e:=m0 vo' e;refine⟨_,ws,_,ws.length,rfl,rv',(Gn.evOk vo').1,λi x y q H2 h1 _ h3 _ _ _=>absurd (af' i x y h1) h3,λj m q r H2 _ h2 _ h4 _ _ _ _ _=>(by rw[e] at h2;cases h2),λq f ys H2 _ _ S2 _ _ hq _ _ _=>kk q f H2 S2 hq⟩
   have S0a:=S09.trans B.same;cbv;refine one vo af rfl (rv.same S0a) λq1 f1 H11 S11 h11=>?_
   cbv;refine aG (SqT.of h11) (v:=.bl true) rfl ?_;cbv;refine⟨rfl,?_⟩;cbv;refine one vu af2 (CZ em) ((r6.same S7).same (S8.trans (A9.same.trans (B.same.trans S11)))) λq2 f2 H12 S12 h12=>?_
   cbv;refine aG (SqT.of h12) (v:=.bl true) rfl ?_;cbv;exact⟨rfl,k _⟩
def MW{K:Fg} {vs:List V}    (h:spLaw K vs H Q E):Fe K (ends Q) (L2.start ["_law_script","_law_vessel_here","_law_rows","_law_k","_law_take","_law_give","_law_pace_here","_law_cell","_law_other","_law_told_here","_law_ends_here","_law_astray"] vs) H:=by
 obtain⟨a,ns,rfl,hS,l63,k⟩:=h;show Fe K (ends Q) [⇑a,none,none,none,none,none,none,none,none,none,none,none] H;unfold Fe;cbv;refine⟨a,ns,0,rfl,hS,by decide,λp H1 ws ts S1 vo rv=>?_⟩;cbv;refine⟨a,ns,15,rfl,S1.seq hS,by decide,?_⟩;cbv;refine aZ (λc=>?_) (λc=>?_)
 .cbv;refine⟨a,ns,0,rfl,S1.seq hS,by decide,λp2 H2 ws2 ts2 _ _ _ S2 vo2 _ rv2=>?_⟩;cbv;exact MT vo2 ((S1.trans S2).seq hS) rv2 k
 .cbv;exact MT vo (S1.seq hS) rv k
def Fy:au ["value"] ["value"] (aj (top 6)):=by walk_at "s"
def gi:au ["one","two","rest"] ["one","two"] (aj (top 7)):=by walk_at "s"
def ig:au ["one","two"] ["one","two"] (aj (top 8)):=by walk_at "s"
def uL:au ["top","bottom","divisor"] ["top","bottom"] (aj (top 9)):=by walk_at "s"
def JL:au ["one","two"] ["one","two"] (aj (top 10)):=by walk_at "s"
def FA:au ["one","two"] ["one","two"] (aj (top 11)):=by walk_at "s"
def Bl:au ["rows","place"] ["rows","place"] (aj (top 13)):=by walk_at "s"
def yu:au ["rows"] ["rows"] (aj (top 14)):=by walk_at "s"
def lP:au ["row","place","number"] ["row"] (aj (top 15)):=by walk_at "s"
def uA:au ["size","own"] ["size","own"] (aj (top 16)):=by walk_at "s"
def qI:au ["size"] ["size"] (aj (top 17)):=by walk_at "s"
def uB:au ["row"] ["row"] (aj (top 18)):=by walk_at "s"
def qO:au ["rows"] ["rows"] (aj (top 19)):=by walk_at "s"
def ii:au ["row","divisor","number"] ["row"] (aj (top 20)):=by walk_at "s"
def Bj:au ["row","place","divisor"] ["row"] (aj (top 21)):=by walk_at "s"
def yw:au ["row","stairs","stair","place"] ["row","stairs"] (aj (top 22)):=by walk_at "s"
def Bi:au ["rows","stairs","free","makers","units","place","row","rest"] ["rows"] (aj (top 23)):=by walk_at "s"
def lO:au ["rows"] ["rows"] (aj (top 24)):=by walk_at "s"
def i7:au ["rows"] ["rows"] (aj (top 25)):=by walk_at "s"
def uJ:au ["turnings","found","turning"] ["turnings"] (aj (top 28)):=by walk_at "s"
def FD:au ["vessel"] ["vessel"] (aj (top 29)):=by walk_at "s"
def oU:au ["vessel","number","turnings"] ["vessel","number"] (aj (top 30)):=by walk_at "s"
def Bm:au ["vessel","number","turning"] ["vessel","number"] (aj (top 31)):=by walk_at "s"
def yx:au ["vessel"] ["vessel"] (aj (top 32)):=by walk_at "s"
def JO:au ["vessel"] ["vessel"] (aj (top 34)):=by walk_at "s"
def j_:au ["vessel","numbers","number","heap"] ["vessel"] (aj (top 36)):=by walk_at "s"
def qM:au ["things","thing"] ["things","thing"] (aj (top 37)):=by walk_at "s"
def JM:au ["vessel","firsts","one","two","lesser","greater"] ["vessel"] (aj (top 38)):=by walk_at "s"
def oZ:au ["vessel","number"] ["vessel","number"] (aj (top 39)):=by walk_at "s"
def JK:au ["vessel","one","two","ends","roads","come_to","place","here","number","end"] ["vessel","one","two"] (aj (top 40)):=by walk_at "s"
def kb:au ["vessel","number","end"] ["vessel"] (aj (top 41)):=by walk_at "s"
def JN:au ["vessel"] ["vessel"] (aj (top 43)):=by walk_at "s"
def qP:au ["number","told_lots"] ["number","told_lots"] (aj (top 44)):=by walk_at "s"
def qV:au ["vessel","told_lots"] ["vessel"] (aj (top 45)):=by walk_at "s"
def lQ:au ["rows","ends","units"] ["rows","ends"] (aj (top 47)):=by walk_at "s"
def oV:au ["board","holders","short"] ["board","holders"] (aj (top 48)):=by walk_at "s"
def eR:au ["line","place","number"] ["line"] (aj (top 49)):=by walk_at "s"
def j9:au ["line","head","place","rest","divisor"] ["line","head","place"] (aj (top 50)):=by walk_at "s"
def qN:au ["board","at","place","head"] ["board","at","place"] (aj (top 51)):=by walk_at "s"
def oW:au ["board","holders","size","bottom","line","holder","numbers"] ["board","holders","size"] (aj (top 52)):=by walk_at "s"
def yn:au ["rows","wants","size","board","holders","at","place"] ["rows","wants"] (aj (top 53)):=by walk_at "s"
def uM:au ["rows","wants","told","forward","back"] ["rows","wants"] (aj (top 54)):=by walk_at "s"
def yo:au ["size","told","longest","longer","stuffs"] ["size"] (aj (top 56)):=by walk_at "s"
def uK:au ["heap","stuffs"] ["heap","stuffs"] (aj (top 57)):=by walk_at "s"
def uI:au ["vessel","stuffs"] ["vessel","stuffs"] (aj (top 58)):=by walk_at "s"
def yr:au ["vessel","stuffs"] ["vessel","stuffs"] (aj (top 59)):=by walk_at "s"
def lI:au ["smaller","greater"] ["smaller","greater"] (aj (top 60)):=by walk_at "s"
def uC:au ["sets","least","stuffs"] ["sets"] (aj (top 61)):=by walk_at "s"
def Bk:au ["vessel"] ["vessel"] (aj (top 62)):=by walk_at "s"
def Fz:au ["vessel"] ["vessel"] (aj (top 63)):=by walk_at "s"
def qJ:au ["number","divisor","often"] ["number","divisor"] (aj (top 65)):=by walk_at "s"
def FB:au ["one","two","divisor","first","second"] ["one","two"] (aj (top 66)):=by walk_at "s"
def eQ:au ["powers","number","place","power"] ["powers","number"] (aj (top 67)):=by walk_at "s"
def FE:au ["powers","told","left","power","place"] ["powers"] (aj (top 68)):=by walk_at "s"
def i6:au ["ends","heap"] ["ends","heap"] (aj (top 71)):=by walk_at "s"
def FC:au ["ends","some","told","heap","longer","pick"] ["ends","some"] (aj (top 72)):=by walk_at "s"
def yq:au ["ends","pick","heap","steps","number","start","here","step"] ["ends","pick","heap"] (aj (top 73)):=by walk_at "s"
def j7:au ["turnings","pick","product","number"] ["turnings","pick"] (aj (top 74)):=by walk_at "s"
def lH:au ["turnings","ends","lot","heap","weight","pick"] ["turnings","ends","lot","heap"] (aj (top 75)):=by walk_at "s"
def j6:au ["vessel","ends","weights","lot","heap"] ["vessel"] (aj (top 76)):=by walk_at "s"
def i5:au ["weights","row","powers","weight","often"] ["weights","row"] (aj (top 78)):=by walk_at "s"
def JP:au ["vessel","astray","weights","row"] ["vessel"] (aj (top 79)):=by walk_at "s"
def qK:au ["vessel"] ["vessel"] (aj (top 81)):=by walk_at "s"
def yp:au ["vessel"] ["vessel"] (aj (top 82)):=by walk_at "s"
def qL:au ["vessel"] ["vessel"] (aj (top 83)):=by walk_at "s"
def lN:au ["_law_script","_law_k"] ["_law_script","_law_k"] (aj (top 85)):=by walk_at "s"
def qT:au ["_law_cell","_law_place","_law_number"] ["_law_cell","_law_place"] (aj (top 86)):=by walk_at "s"
def lK:au ["_law_one","_law_two"] ["_law_one","_law_two"] (aj (top 87)):=by walk_at "s"
def oY:au ["_law_top","_law_bottom","_law_by"] ["_law_top","_law_bottom"] (aj (top 88)):=by walk_at "s"
def qQ:au ["_law_number","_law_many","_law_letters","_law_found","_law_k","_law_first"] ["_law_number","_law_many"] (aj (top 89)):=by walk_at "s"
def uG:au ["_law_cell","_law_k","_law_many","_law_top","_law_plain","_law_number","_law_found","_law_j"] ["_law_cell","_law_k","_law_many","_law_top","_law_plain"] (aj (top 90)):=by walk_at "s"
def uE:au ["_law_script","_law_at","_law_many","_law_size","_law_top","_law_plain","_law_found","_law_k","_law_heap_here"] ["_law_script","_law_at","_law_many","_law_size","_law_top","_law_plain"] (aj (top 91)):=by walk_at "s"
def qS:au ["_law_script","_law_at","_law_size","_law_kind","_law_plain","_law_found","_law_k","_law_after","_law_cell","_law_one","_law_step","_law_chosen","_law_two"] ["_law_script","_law_at","_law_size","_law_kind","_law_plain"] (aj (top 92)):=by walk_at "s"
def uF:au ["_law_cell","_law_kind"] ["_law_cell","_law_kind"] (aj (top 93)):=by walk_at "s"
def oX:au ["_law_script","_law_at","_law_number","_law_many","_law_top","_law_plain","_law_pool_here","_law_pairs_here","_law_rows","_law_k","_law_cell","_law_one","_law_two"] ["_law_script","_law_at"] (aj (top 94)):=by walk_at "s"
def qU:au ["_law_vessel_here","_law_found","_law_take","_law_give","_law_pace_here","_law_heap_here"] ["_law_vessel_here"] (aj (top 95)):=by walk_at "s"
def uH:au ["_law_vessel_here","_law_told_here"] ["_law_vessel_here"] (aj (top 96)):=by walk_at "s"
def i9:au ["_law_script","_law_at","_law_number","_law_many","_law_size","_law_piles","_law_k","_law_heap_here","_law_rows","_law_cell"] ["_law_script","_law_at"] (aj (top 100)):=by walk_at "s"
def qR:au ["_law_ends_here","_law_one","_law_seen","_law_k","_law_here","_law_there"] ["_law_ends_here","_law_one"] (aj (top 102)):=by walk_at "s"
def uD:au ["_law_vessel_here","_law_sides"] ["_law_vessel_here"] (aj (top 103)):=by walk_at "s"
def HR:au ["_law_script","_law_vessel_here","_law_rows","_law_k","_law_take","_law_give","_law_pace_here","_law_cell","_law_other","_law_told_here","_law_ends_here","_law_astray"] ["_law_script"] (aj (top 104)):=by walk_at "s"
section
variable(P:TK)(w:Ub)(K:Fg)(mg:Str->Option Su)(base:Heap)(k:Nat)
nonrec def qj:=FnC P w K mg base ba k "whole" ["value"] jU
nonrec def aX:=FnC P w K mg base ba k "greatest_divisor" ["one","two"] oP
nonrec def eA:=FnC P w K mg base ba k "least_multiple" ["one","two"] JA
nonrec def iI:=FnC P w K mg base ba k "fraction" ["top","bottom"] (oM K)
nonrec def IY:=FnC P w K mg base ba k "plus" ["one","two"] (um K)
nonrec def EC:=FnC P w K mg base ba k "times" ["one","two"] (oE K)
nonrec def xX:=FnC P w K mg base ba k "column" ["rows","place"] (oQ K)
nonrec def sW:=FnC P w K mg base ba k "crossed" ["rows"] (j4 K)
nonrec def cQ:=FnC P w K mg base ba k "first_place" ["row"] (j3 K)
nonrec def m8:=FnC P w K mg base ba k "unit_row" ["size","own"] (ue K)
nonrec def cG:=FnC P w K mg base ba k "unit_rows" ["size"] (ga K)
nonrec def iE:=FnC P w K mg base ba k "opposite" ["row"] (Fn K)
nonrec def gC:=FnC P w K mg base ba k "opposites" ["rows"] (wA K)
nonrec def cM:=FnC P w K mg base ba k "common_divisor" ["row"] (Fo K)
nonrec def jG:=FnC P w K mg base ba k "lowest" ["row"] (qC K)
nonrec def sX:=FnC P w K mg base ba k "cleared" ["row","stairs"] (JB K)
nonrec def qk:=FnC P w K mg base ba k "sifted" ["rows"] (wz K)
nonrec def g_:=FnC P w K mg base ba k "free_places" ["rows"] (uv K)
nonrec def fu:=FnC P w K mg base ba k "nought_makers" ["rows"] (oI K)
nonrec def nu:=FnC P w K mg base ba k "heaps_of" ["turnings"] (jZ K)
nonrec def iG:=FnC P w K mg base ba k "heaps" ["vessel"] (c_ K)
nonrec def iU:=FnC P w K mg base ba k "turning_at" ["vessel","number"] (Rw.oD K)
nonrec def xY:=FnC P w K mg base ba k "change" ["vessel","number"] (JC K)
nonrec def fA:=FnC P w K mg base ba k "changes" ["vessel"] (mJ K)
nonrec def EF:=FnC P w K mg base ba k "free" ["vessel"] (oK K)
nonrec def b4:=FnC P w K mg base ba k "heap_numbers" ["vessel"] (gJ K)
nonrec def kZ:=FnC P w K mg base ba k "places_of" ["things","thing"] (oF K)
nonrec def sS:=FnC P w K mg base ba k "lots" ["vessel"] (mI K)
nonrec def iZ:=FnC P w K mg base ba k "check_heap" ["vessel","number"] (wB K)
nonrec def IX:=FnC P w K mg base ba k "road" ["vessel","one","two"] (AR K)
nonrec def fY:=FnC P w K mg base ba k "first_astray" ["vessel"] (As.oR K)
nonrec def IZ:=FnC P w K mg base ba k "lack" ["vessel"] (AV K)
nonrec def k8:=FnC P w K mg base ba k "lot_marks" ["number","told_lots"] (ur K)
nonrec def lA:=FnC P w K mg base ba k "lack_rows" ["vessel"] (ut K)
nonrec def hE:=FnC P w K mg base ba k "first_board" ["rows","ends"] (oN K)
nonrec def iV:=FnC P w K mg base ba k "short_line" ["board","holders"] (jV K)
nonrec def cO:=FnC P w K mg base ba k "place_below_nought" ["line"] (uw K)
nonrec def fX:=FnC P w K mg base ba k "line_without" ["line","head","place"] (jT K)
nonrec def k7:=FnC P w K mg base ba k "passed_on" ["board","at","place"] (oG K)
nonrec def iW:=FnC P w K mg base ba k "numbers_on" ["board","holders","size"] (jW K)
nonrec def kW:=FnC P w K mg base ba k "settled" ["rows","wants"] (gH K)
nonrec def iJ:=FnC P w K mg base ba k "balanced" ["rows","wants"] (fD K)
nonrec def kX:=FnC P w K mg base ba k "sets_of" ["size"] (Dn.jv K)
nonrec def iH:=FnC P w K mg base ba k "has_some" ["heap","stuffs"] (Dn.dz K)
nonrec def nj:=FnC P w K mg base ba k "is_drain" ["vessel","stuffs"] (Dn.jY K)
nonrec def sV:=FnC P w K mg base ba k "is_trap" ["vessel","stuffs"] (Dn.oJ K)
nonrec def g6:=FnC P w K mg base ba k "lies_within" ["smaller","greater"] (Dn.oC K)
nonrec def iF:=FnC P w K mg base ba k "least_of" ["sets"] (Dn.gI K)
nonrec def xW:=FnC P w K mg base ba k "drains" ["vessel"] (Dn.oO K)
nonrec def EB:=FnC P w K mg base ba k "traps" ["vessel"] (Dn.uh K)
nonrec def kT:=FnC P w K mg base ba k "taken_out" ["number","divisor"] (Pw.Fm K)
nonrec def ED:=FnC P w K mg base ba k "split" ["one","two"] (Pw.uj K)
nonrec def cN:=FnC P w K mg base ba k "place_with_divisor" ["powers","number"] (Pw.uo K)
nonrec def EG:=FnC P w K mg base ba k "apart" ["powers"] (Pw.ux K)
nonrec def fo:=FnC P w K mg base ba k "turnings_from" ["ends","heap"] (AW K)
nonrec def EE:=FnC P w K mg base ba k "picks" ["ends","some"] (uq K)
nonrec def sU:=FnC P w K mg base ba k "is_tree" ["ends","pick","heap"] (AQ K)
nonrec def fW:=FnC P w K mg base ba k "pace_product" ["turnings","pick"] (Tr.AS K)
nonrec def g5:=FnC P w K mg base ba k "tree_weight" ["turnings","ends","lot","heap"] (ug K)
nonrec def fV:=FnC P w K mg base ba k "tree_weights" ["vessel"] (uf K)
nonrec def fh:=FnC P w K mg base ba k "weight_powers" ["weights","row"] (Pw.Jz K)
nonrec def I_:=FnC P w K mg base ba k "even" ["vessel"] (Pw.qE K)
nonrec def kU:=FnC P w K mg base ba k "sheltered" ["vessel"] (gb K)
nonrec def sT:=FnC P w K mg base ba k "keeping" ["vessel"] (jX K)
nonrec def kY:=FnC P w K mg base ba k "returning" ["vessel"] (gf K)
nonrec def bW:=FnC P w K mg base ba k "_law_cell_at" ["_law_script","_law_k"] (fS K)
nonrec def cY:=FnC P w K mg base ba k "_law_mixed" ["_law_cell","_law_place"] fR
nonrec def g7:=FnC P w K mg base ba k "_law_divisor" ["_law_one","_law_two"] oP
nonrec def iY:=FnC P w K mg base ba k "_law_lowest" ["_law_top","_law_bottom"] (qD K)
nonrec def gD:=FnC P w K mg base ba k "_law_words" ["_law_number","_law_many"] (gF K)
nonrec def na:=FnC P w K mg base ba k "_law_heap" ["_law_cell","_law_k","_law_many","_law_top","_law_plain"] (uu K)
nonrec def m_:=FnC P w K mg base ba k "_law_pool" ["_law_script","_law_at","_law_many","_law_size","_law_top","_law_plain"] (ul K)
nonrec def k_:=FnC P w K mg base ba k "_law_pairs" ["_law_script","_law_at","_law_size","_law_kind","_law_plain"] (oH K)
nonrec def fM:=FnC P w K mg base ba k "_law_pace" ["_law_cell","_law_kind"] (ib K)
nonrec def iX:=FnC P w K mg base ba k "_law_vessel" ["_law_script","_law_at"] (AO K)
nonrec def lv:=FnC P w K mg base ba k "_law_heaps" ["_law_vessel_here"] (c_ K)
nonrec def nh:=FnC P w K mg base ba k "_law_ends" ["_law_vessel_here"] (gJ K)
nonrec def fz:=FnC P w K mg base ba k "_law_zero_lack" ["_law_script","_law_at"] (Gn.AN K)
nonrec def k9:=FnC P w K mg base ba k "_law_reach" ["_law_ends_here","_law_one"] (uk K)
nonrec def m9:=FnC P w K mg base ba k "_law_told" ["_law_vessel_here"] (Nl.wy K)
end
section
variable{P:TK}{w:Ub}{K:Fg}{mg:Str->Option Su}{base:Heap}
seal PE PS PSs PA PT
local macro_rules | `(tactic| walk_at "l")=>`(tactic| (intro h;repeat (first|(obtain⟨e,_⟩:=h;cases e;exact rfl)|obtain⟨_,h⟩:=h)))
seal fe ff PV P9 Qb PI PG Mm PW PO PC binaryOp compareOp unaryOp
set_option hygiene false in
local macro_rules | `(tactic| fail "t")=>`(tactic| first|((with_reducible show PE _ _ _);fail "e")|((with_reducible show PA _ _ _);fail "a")|((with_reducible show PS _ _ _);fail "s")|((with_reducible show PSs _ _ _);fail "S")|((with_reducible show PT _ _ _);fail "b")|((with_reducible show PW _ _ _);fail "w")|((with_reducible show PG _ _ _);fail "g")|((with_reducible show Mm _ _ _);fail "G")|((with_reducible show PI _ _ _ _);fail "i")|((with_reducible show PO _ _ _);fail "o")|((with_reducible show PC _ _ _ _ _);fail "C")|((with_reducible show PQ _ _ _ _ _);fail "P")|skip)
set_option hygiene false in
local macro_rules | `(tactic| fail "e")=>`(tactic| first|exact pv _|exact NK|exact Co rfl B.int IT rfl|exact Co rfl B.bool L4 rfl|exact NE|exact Gq|exact Qz|exact Cj rfl G.ONE rfl|exact Cj rfl G.NOUGHT rfl|exact Gr|exact NB|((first|refine Qx (by fail "p") ?_ ?_|refine Qy (by fail "x") ?_ ?_ (λ_ _=>rfl)|refine Ck (by fail "q") ?_ ?_ (Il _)|refine Ck (by fail "q") ?_ ?_ (by with_unfolding_all rfl)|((with_reducible show PE _ _ (aw _ _ _ _));refine Gw (by assumption) hr rfl ?_)|refine NA ?_|refine NM ?_ ?_|refine dU (by fail "c") rfl B.isinstance qd ?_|refine ND ?_|refine dU (by fail "c") rfl B.abs Pu ?_|refine Qv (by fail "r") ?_|refine Sb (.of (by kernel_rfl!)) (of_decide_eq_true (by kernel_rfl!)) rfl ?_ (λ_ _ _ _ _=>?_)|refine dU (by fail "c") rfl B.len Pq ?_|refine Gp ?_ ?_ ?_|refine ko (by fail "y") rfl B.list vU ?_|refine R_ (.of (by kernel_rfl!)) rfl ?_ (λ_ _ _ _ _=>?_) (λ_ _ _ _ _=>?_)|refine NF ?_|refine Gx Vw PySem.F.slot_list_append PySem.F.type_list_append rT ?_ ?_|refine Go (by fail "r") ?_ ?_ ?_|refine ko (by fail "y") rfl B.tuple Hy ?_|refine KL hu1 ?_ ?_ (λ_ _=>rfl)|refine Sa (.of (by kernel_rfl!)) rfl ?_ (λ_ _ _ _ _=>?_) (λ_ _ _ _ _=>?_) (λ_ _ _ _ _=>?_)|refine rm rfl rfl B.list rfl B.range ?_|refine dU (by fail "c") rfl B.min Pm ?_|refine dU (by fail "c") rfl B.max Po ?_|refine yL rfl rfl B.sorted rfl B.set ?_|refine KJ ?_ rfl rfl (by simp) (by decide)|refine Gs hu1 ?_ ?_ ⟨rfl,rfl,rfl,rfl⟩|refine Gx Vw PySem.F.slot_list_index PySem.F.type_list_index (GJ hu) ?_ ?_|refine o7 rfl rfl B.list rfl B.range ?_|refine Gx Vw PySem.F.slot_list_extend PySem.F.type_list_extend CI ?_ ?_|refine dU (by fail "c") rfl B.any Ps ?_|refine dU (by fail "c") rfl B.all Pt ?_|refine Qw ?_ ?_|refine NL Vw ZF ZG N_ ?_|refine Gx Vw ZF ZG GI ?_ ?_|refine ko (by fail "y") rfl B.int IT ?_|refine NC ?_)<;>fail "t"))
set_option hygiene false in
local macro_rules | `(tactic| fail "a")=>`(tactic| first|exact NQ|((first|refine KO ?_ ?_)<;>fail "t"))
set_option hygiene false in
local macro_rules | `(tactic| fail "s")=>`(tactic| first|((first|refine Nj nd rfl (by walk_at "o") ?_|refine Nk ?_|refine Qu ?_ ?_ ?_|refine Nq hpo rfl ?_ ?_ ?_|refine Nm rfl nd rfl rfl (by decide) rfl rfl ?_ rfl|refine Gh hpo ?_ ?_|refine Kw ?_|refine Kx hu1 ?_ ?_ ?_ rfl|refine R4 nd rfl rfl (.of (by kernel_rfl!)) rfl ?_ (λ_ _ _ _ _=>?_) (λ_ _ _ _ _=>?_) (λ_ _ _ _ _=>?_)|refine R3 nd rfl rfl (.of (by kernel_rfl!)) rfl ?_ (λ_ _ _ _ _=>?_) (λ_ _ _ _ _=>?_)|refine R5 nd rfl rfl (.of (by kernel_rfl!)) rfl ?_ (λ_ _ _ _ _=>?_)|((with_reducible first|show PS _ (.Assign [.Tuple _ _ _] _ _) _|show PS _ (.Assign [.Subscript _ _ _] _ _) _);refine Nr ?_ ?_))<;>fail "t"))
set_option hygiene false in
local macro_rules | `(tactic| fail "S")=>`(tactic| first|exact Kv|exact BV|((first|refine Ku ?_|refine Gg ?_ ?_)<;>fail "t"))
set_option hygiene false in
local macro_rules | `(tactic| fail "b")=>`(tactic| first|((first|refine BU (by fail "q") ?_ ?_ (Il _)|refine BU (by fail "q") ?_ ?_ (by with_unfolding_all rfl)|((with_reducible show PT _ (.BoolOp _ _ _) _);refine PW.pt ?_)|refine Nc ?_|refine Ge (by fail "q") (by fail "q") ?_ ?_ ?_|refine Nf ?_ (by with_unfolding_all rfl)|refine Nb ?_)<;>fail "t"))
set_option hygiene false in
local macro_rules | `(tactic| fail "w")=>`(tactic| first|((first|refine pw_or ?_ ?_|refine pw_or1 ?_|refine pw_and ?_ ?_|refine pw_and1 ?_)<;>fail "t"))
set_option hygiene false in
local macro_rules | `(tactic| fail "g")=>`(tactic| first|exact Ci (by first|exact nd|exact of_decide_eq_true (by kernel_rfl!)) rfl (by walk_at "o")|((first|refine Nx rfl ?_|refine Ny ?_ ?_ Bc)<;>fail "t"))
set_option hygiene false in
local macro_rules | `(tactic| fail "G")=>`(tactic| first|exact KI|((first|refine Gm ?_ ?_)<;>fail "t"))
set_option hygiene false in
local macro_rules | `(tactic| fail "i")=>`(tactic| first|((first|refine Ch rfl B.range ?_|refine KH rfl B.enumerate ?_|refine Nt rfl B.zip ?_|refine Gk rfl B.zip ?_|refine Cf rfl B.range ?_|refine KG ?_|refine Nu ?_|refine Nw ?_)<;>fail "t"))
set_option hygiene false in
local macro_rules | `(tactic| fail "o")=>`(tactic| first|exact KC|((first|refine KB ?_)<;>fail "t"))
set_option hygiene false in
local macro_rules | `(tactic| fail "C")=>`(tactic| first|((first|refine Cp hu1 ?_ ?_)<;>fail "t"))
set_option hygiene false in
local macro_rules | `(tactic| fail "P")=>`(tactic| first|exact KA|((first|refine Gj ?_ ?_ ?_)<;>fail "t"))
set_option hygiene false in
local macro_rules | `(tactic| fail "c")=>`(tactic| first|exact Ht|exact Hw|exact sG|exact(Ei rfl)|exact(Ej rfl)|exact(Eh rfl)|exact(Hu rfl)|exact(Hv rfl)|exact Ek)
set_option hygiene false in
local macro_rules | `(tactic| fail "p")=>`(tactic| first|exact KU|exact Gz|exact KS|exact op_fdivX|exact N2|exact NR|exact N1|exact NS|exact KY|exact NW|exact NV|exact yM|exact KW|exact KQ|exact NT)
set_option hygiene false in
local macro_rules | `(tactic| fail "q")=>`(tactic| first|exact QD|exact QH|exact QE|exact NY|exact QF|exact(NZ hu)|exact KR|exact QG|exact Cv|exact(Cu hu)|exact(NU hu)|exact NX)
set_option hygiene false in
local macro_rules | `(tactic| fail "r")=>`(tactic| first|exact Mr|exact JG|exact MN)
set_option hygiene false in
local macro_rules | `(tactic| fail "x")=>`(tactic| first|exact OW|exact LH|exact OX)
set_option hygiene false in
local macro_rules | `(tactic| fail "y")=>`(tactic| first|exact sF|exact(zf rfl)|exact qb|exact(vP rfl)|exact El)
set_option hygiene false in
local macro_rules | `(tactic| exists $s:term,$t:term,$r:term)=>`(tactic| (refine F.okN $s (λ_ _ _ _=>by walk_at "l") λf cdv A outer s H vs Q E nd hr hu hu1 hpo own h=>⟨$t,?_,$r⟩;fail "t"))
def GA(F:aE K mg "whole" (top 6) ["value"]) (B:bw mg)  : qj P w K mg base 1:=by
 exists Fy,HK K,(by obtain⟨i,rfl,k⟩:=h;exact FJ k)
def gr(F:aE K mg "greatest_divisor" (top 7) ["one","two"]) (B:bw mg)  : aX P w K mg base 1:=by
 exists gi,MC,(by obtain⟨a,b,rfl,k⟩:=h;exact MX a b H _ k)
def iq(F:aE K mg "least_multiple" (top 8) ["one","two"]) (B:bw mg) (dk:aX P w K mg base 1):eA P w K mg base 2:=by
 exists ig,Jr K,(Ql rfl h)
def vf(F:aE K mg "fraction" (top 9) ["top","bottom"]) (B:bw mg) (dk:aX P w K mg base 1) (c_whole:qj P w K mg base 1):iI P w K mg base 2:=by
 exists uL,t7 K,(F6 rfl h)
def K2(F:aE K mg "plus" (top 10) ["one","two"]) (B:bw mg) (c_fraction:iI P w K mg base 2):IY P w K mg base 3:=by
 exists JL,tO K,(FU rfl h)
def GC(F:aE K mg "times" (top 11) ["one","two"]) (B:bw mg) (c_fraction:iI P w K mg base 2):EC P w K mg base 3:=by
 exists FA,nQ K,(Bx rfl h)
def CC(F:aE K mg "column" (top 13) ["rows","place"]) (B:bw mg)  : xX P w K mg base 1:=by
 exists Bl,oi K,(BH rfl h)
def yS(F:aE K mg "crossed" (top 14) ["rows"]) (B:bw mg) (c_column:xX P w K mg base 1):sW P w K mg base 2:=by
 exists yu,jQ K,(yH rfl h)
def l5(F:aE K mg "first_place" (top 15) ["row"]) (B:bw mg)  : cQ P w K mg base 1:=by
 exists lP,t9 K,(F8 rfl h)
def uU(F:aE K mg "unit_row" (top 16) ["size","own"]) (B:bw mg)  : m8 P w K mg base 1:=by
 exists uA,tD K,(FL rfl h)
def rA(F:aE K mg "unit_rows" (top 17) ["size"]) (B:bw mg) (c_unit_row:m8 P w K mg base 1):cG P w K mg base 2:=by
 exists qI,tw K,(FK rfl h)
def uV(F:aE K mg "opposite" (top 18) ["row"]) (B:bw mg)  : iE P w K mg base 1:=by
 exists uB,Jq K,(MU rfl h)
def rG(F:aE K mg "opposites" (top 19) ["rows"]) (B:bw mg) (c_opposite:iE P w K mg base 1):gC P w K mg base 2:=by
 exists qO,Ab K,(J1 rfl h)
def ir(F:aE K mg "common_divisor" (top 20) ["row"]) (B:bw mg) (dk:aX P w K mg base 1):cM P w K mg base 2:=by
 exists ii,Js K,(MY rfl h)
def Cz(F:aE K mg "lowest" (top 21) ["row"]) (B:bw mg) (vp:cQ P w K mg base 2) (vt:cM P w K mg base 2):jG P w K mg base 3:=by
 exists Bj,Ae K,(J3 rfl h)
def yT(F:aE K mg "cleared" (top 22) ["row","stairs"]) (B:bw mg) (vp:cQ P w K mg base 3) (c_lowest:jG P w K mg base 3):sX P w K mg base 4:=by
 exists yw,Au K,(Ka rfl h)
def Cy(F:aE K mg "sifted" (top 23) ["rows"]) (B:bw mg) (se:cG P w K mg base 4) (c_cleared:sX P w K mg base 4) (vp:cQ P w K mg base 4) (c_lowest:jG P w K mg base 4):qk P w K mg base 5:=by
 exists Bi,zS K,(JY rfl h)
def lZ(F:aE K mg "free_places" (top 24) ["rows"]) (B:bw mg) (c_sifted:qk P w K mg base 5):g_ P w K mg base 6:=by
 exists lO,t6 K,(F5 rfl h)
def jf(F:aE K mg "nought_makers" (top 25) ["rows"]) (B:bw mg) (c_sifted:qk P w K mg base 5):fu P w K mg base 6:=by
 exists i7,nX K,(BC rfl h)
def vd(F:aE K mg "heaps_of" (top 28) ["turnings"]) (B:bw mg)  : nu P w K mg base 1:=by
 exists uJ,jO K,(yF rfl h)
def GF(F:aE K mg "heaps" (top 29) ["vessel"]) (B:bw mg) (c_heaps_of:nu P w K mg base 1):iG P w K mg base 2:=by
 exists FD,tY K,(F2 rfl h)
def o_(F:aE K mg "turning_at" (top 30) ["vessel","number"]) (B:bw mg) (c_whole:qj P w K mg base 1):iU P w K mg base 2:=by
 exists oU,Rw.nP K,(Rw.Bw rfl h)
def CD(F:aE K mg "change" (top 31) ["vessel","number"]) (B:bw mg) (c_turning_at:iU P w K mg base 2):xY P w K mg base 3:=by
 exists Bm,Jt K,(MZ rfl h)
def yU(F:aE K mg "changes" (top 32) ["vessel"]) (B:bw mg) (c_change:xY P w K mg base 3):fA P w K mg base 4:=by
 exists yx,Aw K,(Kc rfl h)
def K5(F:aE K mg "free" (top 34) ["vessel"]) (B:bw mg) (c_free_places:g_ P w K mg base 6) (xa:fA P w K mg base 6):EF P w K mg base 7:=by
 exists JO,t5 K,(F4 rfl h)
def kw(F:aE K mg "heap_numbers" (top 36) ["vessel"]) (B:bw mg) (xy:iG P w K mg base 2):b4 P w K mg base 3:=by
 exists j_,Ak K,(J7 rfl h)
def rE(F:aE K mg "places_of" (top 37) ["things","thing"]) (B:bw mg)  : kZ P w K mg base 1:=by
 exists qM,nU K,(Bz rfl h)
def K3(F:aE K mg "lots" (top 38) ["vessel"]) (B:bw mg) (ip:b4 P w K mg base 3) (c_places_of:kZ P w K mg base 3) (xy:iG P w K mg base 3):sS P w K mg base 4:=by
 exists JM,Ag K,(J5 rfl h)
def pD(F:aE K mg "check_heap" (top 39) ["vessel","number"]) (B:bw mg) (c_whole:qj P w K mg base 2) (xy:iG P w K mg base 2):iZ P w K mg base 3:=by
 exists oZ,Av K,(Kb rfl h)
def K1(F:aE K mg "road" (top 40) ["vessel","one","two"]) (B:bw mg) (c_check_heap:iZ P w K mg base 3) (ip:b4 P w K mg base 3):IX P w K mg base 4:=by
 exists JK,zT K,(JZ rfl h)
def kx(F:aE K mg "first_astray" (top 41) ["vessel"]) (B:bw mg) (ip:b4 P w K mg base 4) (c_road:IX P w K mg base 4):fY P w K mg base 5:=by
 exists kb,As.oj K,(As.BI rfl h)
def K4(F:aE K mg "lack" (top 43) ["vessel"]) (B:bw mg) (c_free:EF P w K mg base 7) (xy:iG P w K mg base 7) (c_lots:sS P w K mg base 7):IZ P w K mg base 8:=by
 exists JN,Aj K,(J6 rfl h)
def rH(F:aE K mg "lot_marks" (top 44) ["number","told_lots"]) (B:bw mg)  : k8 P w K mg base 1:=by
 exists qP,tU K,(FY rfl h)
def rO(F:aE K mg "lack_rows" (top 45) ["vessel"]) (B:bw mg) (c_lots:sS P w K mg base 6) (c_nought_makers:fu P w K mg base 6) (c_lot_marks:k8 P w K mg base 6) (xy:iG P w K mg base 6):lA P w K mg base 7:=by
 exists qV,tX K,(F1 rfl h)
def l_(F:aE K mg "first_board" (top 47) ["rows","ends"]) (B:bw mg) (se:cG P w K mg base 2):hE P w K mg base 3:=by
 exists lQ,n9 K,(BF rfl h)
def pf(F:aE K mg "short_line" (top 48) ["board","holders"]) (B:bw mg)  : iV P w K mg base 1:=by
 exists oV,tI K,(FR rfl h)
def e9(F:aE K mg "place_below_nought" (top 49) ["line"]) (B:bw mg)  : cO P w K mg base 1:=by
 exists eR,t_ K,(F9 rfl h)
def ku(F:aE K mg "line_without" (top 50) ["line","head","place"]) (B:bw mg) (vt:cM P w K mg base 2):fX P w K mg base 3:=by
 exists j9,jI K,(yy rfl h)
def rF(F:aE K mg "passed_on" (top 51) ["board","at","place"]) (B:bw mg) (c_opposite:iE P w K mg base 3) (c_line_without:fX P w K mg base 3):k7 P w K mg base 4:=by
 exists qN,nV K,(BA rfl h)
def pi(F:aE K mg "numbers_on" (top 52) ["board","holders","size"]) (B:bw mg) (c_lowest:jG P w K mg base 3) (c_least_multiple:eA P w K mg base 3):iW P w K mg base 4:=by
 exists oW,jK K,(yA rfl h)
def yN(F:aE K mg "settled" (top 53) ["rows","wants"]) (B:bw mg) (c_first_board:hE P w K mg base 4) (c_short_line:iV P w K mg base 4) (zo:cO P w K mg base 4) (c_passed_on:k7 P w K mg base 4) (c_numbers_on:iW P w K mg base 4) (Fx:gC P w K mg base 4):kW P w K mg base 5:=by
 exists yn,jJ K,(yz rfl h)
def vg(F:aE K mg "balanced" (top 54) ["rows","wants"]) (B:bw mg) (c_settled:kW P w K mg base 5) (Fx:gC P w K mg base 5):iJ P w K mg base 6:=by
 exists uM,h_ K,(uO rfl h)
def yO(F:aE K mg "sets_of" (top 56) ["size"]) (B:bw mg)  : kX P w K mg base 1:=by
 exists yo,Dn.nR K,(Dn.By rfl h)
def ve(F:aE K mg "has_some" (top 57) ["heap","stuffs"]) (B:bw mg)  : iH P w K mg base 1:=by
 exists uK,Dn.jP K,(Dn.yG rfl h)
def vc(F:aE K mg "is_drain" (top 58) ["vessel","stuffs"]) (B:bw mg) (c_has_some:iH P w K mg base 1):nj P w K mg base 2:=by
 exists uI,Dn.jN K,(Dn.yE rfl h)
def yR(F:aE K mg "is_trap" (top 59) ["vessel","stuffs"]) (B:bw mg) (c_has_some:iH P w K mg base 1):sV P w K mg base 2:=by
 exists yr,Dn.nZ K,(Dn.BE rfl h)
def lW(F:aE K mg "lies_within" (top 60) ["smaller","greater"]) (B:bw mg)  : g6 P w K mg base 1:=by
 exists lI,Dn.nO K,(Dn.Bv rfl h)
def uW(F:aE K mg "least_of" (top 61) ["sets"]) (B:bw mg) (c_lies_within:g6 P w K mg base 1):iF P w K mg base 2:=by
 exists uC,Dn.jL K,(Dn.yC rfl h)
def CB(F:aE K mg "drains" (top 62) ["vessel"]) (B:bw mg) (c_least_of:iF P w K mg base 2) (c_sets_of:kX P w K mg base 2) (c_is_drain:nj P w K mg base 2):xW P w K mg base 3:=by
 exists Bk,Dn.n_ K,(Dn.BG rfl h)
def GB(F:aE K mg "traps" (top 63) ["vessel"]) (B:bw mg) (c_least_of:iF P w K mg base 2) (c_sets_of:kX P w K mg base 2) (c_is_trap:sV P w K mg base 2):EB P w K mg base 3:=by
 exists Fz,Dn.tG K,(Dn.FO rfl h)
def rB(F:aE K mg "taken_out" (top 65) ["number","divisor"]) (B:bw mg)  : kT P w K mg base 1:=by
 exists qJ,Pw.Jo K,(Pw.MS rfl h)
def GD(F:aE K mg "split" (top 66) ["one","two"]) (B:bw mg) (dk:aX P w K mg base 1) (c_taken_out:kT P w K mg base 1):ED P w K mg base 2:=by
 exists FB,Pw.tH K,(Pw.FQ rfl h)
def eZ(F:aE K mg "place_with_divisor" (top 67) ["powers","number"]) (B:bw mg) (dk:aX P w K mg base 1):cN P w K mg base 2:=by
 exists eQ,Pw.tP K,(Pw.FV rfl h)
def GG(F:aE K mg "apart" (top 68) ["powers"]) (B:bw mg) (Ad:cN P w K mg base 2) (c_split:ED P w K mg base 2):EG P w K mg base 3:=by
 exists FE,Pw.ua K,(Pw.F_ rfl h)
def je(F:aE K mg "turnings_from" (top 71) ["ends","heap"]) (B:bw mg)  : fo P w K mg base 1:=by
 exists i6,An K,(J8 rfl h)
def GE(F:aE K mg "picks" (top 72) ["ends","some"]) (B:bw mg) (c_turnings_from:fo P w K mg base 1):EE P w K mg base 2:=by
 exists FC,tQ K,(FW rfl h)
def yQ(F:aE K mg "is_tree" (top 73) ["ends","pick","heap"]) (B:bw mg)  : sU P w K mg base 1:=by
 exists yq,zO K,(JW rfl h)
def kr(G:Cn K mg nq oq) (F:aE K mg "pace_product" (top 74) ["turnings","pick"]) (B:bw mg) (c_times:EC P w K mg base 3):fW P w K mg base 4:=by
 exists j7,Aa K oq,(J0 G.one rfl h)
def lV(G:Cn K mg nq oq) (F:aE K mg "tree_weight" (top 75) ["turnings","ends","lot","heap"]) (B:bw mg) (c_picks:EE P w K mg base 4) (c_is_tree:sU P w K mg base 4) (c_plus:IY P w K mg base 4) (c_pace_product:fW P w K mg base 4):g5 P w K mg base 5:=by
 exists lH,tF K nq,(FN G.zero rfl h)
def kq(F:aE K mg "tree_weights" (top 76) ["vessel"]) (B:bw mg) (ip:b4 P w K mg base 5) (c_lots:sS P w K mg base 5) (c_tree_weight:g5 P w K mg base 5):fV P w K mg base 6:=by
 exists j6,tE K,(FM rfl h)
 refine NJ (M:=["vessel","ends","weights","lot","#heap"]) (.of (by kernel_rfl!)) nd rfl ?_ (λ_ _ _ _ _=>?_) <;> fail "t"
def jd(F:aE K mg "weight_powers" (top 78) ["weights","row"]) (B:bw mg)  : fh P w K mg base 1:=by
 exists i5,Pw.Jn K,(Pw.MR rfl h)
def K6(F:aE K mg "even" (top 79) ["vessel"]) (B:bw mg) (c_first_astray:fY P w K mg base 7) (c_tree_weights:fV P w K mg base 7) (c_lack_rows:lA P w K mg base 7) (c_apart:EG P w K mg base 7) (c_weight_powers:fh P w K mg base 7):I_ P w K mg base 8:=by
 exists JP,Pw.Aq K,(Pw.J9 rfl h)
def rC(F:aE K mg "sheltered" (top 81) ["vessel"]) (B:bw mg) (c_settled:kW P w K mg base 5) (xa:fA P w K mg base 5) (se:cG P w K mg base 5):kU P w K mg base 6:=by
 exists qK,fZ K,(q_ rfl h)
def yP(F:aE K mg "keeping" (top 82) ["vessel"]) (B:bw mg) (c_balanced:iJ P w K mg base 6) (xa:fA P w K mg base 6) (se:cG P w K mg base 6):sT P w K mg base 7:=by
 exists yp,jM K,(yD rfl h)
def rD(F:aE K mg "returning" (top 83) ["vessel"]) (B:bw mg) (c_balanced:iJ P w K mg base 6) (c_crossed:sW P w K mg base 6) (se:cG P w K mg base 6) (xa:fA P w K mg base 6):kY P w K mg base 7:=by
 exists qL,f7 K,(re rfl h)
def lY(F:aE K mg "_law_cell_at" (top 85) ["_law_script","_law_k"]) (B:bw mg)  : bW P w K mg base 1:=by
 exists lN,MD K,(by obtain⟨a,ns,k,rfl,hS,h0,q⟩:=h;exact Ke hS h0 q)
def rM(F:aE K mg "_law_mixed" (top 86) ["_law_cell","_law_place"]) (B:bw mg)  : cY P w K mg base 1:=by
 exists qT,Ac K,(J2 rfl h)
def lX(F:aE K mg "_law_divisor" (top 87) ["_law_one","_law_two"]) (B:bw mg)  : g7 P w K mg base 1:=by
 exists lK,Ar K,(J_ rfl h)
def pC(F:aE K mg "_law_lowest" (top 88) ["_law_top","_law_bottom"]) (B:bw mg) (c_law_divisor:g7 P w K mg base 1):iY P w K mg base 2:=by
 exists oY,Af K,(J4 rfl h)
def rJ(F:aE K mg "_law_words" (top 89) ["_law_number","_law_many"]) (B:bw mg)  : gD P w K mg base 1:=by
 exists qQ,nN K,(Bu rfl h)
def u_(F:aE K mg "_law_heap" (top 90) ["_law_cell","_law_k","_law_many","_law_top","_law_plain"]) (B:bw mg) (sn:cY P w K mg base 1):na P w K mg base 2:=by
 exists uG,tZ K,(F3 rfl h)
def uY(F:aE K mg "_law_pool" (top 91) ["_law_script","_law_at","_law_many","_law_size","_law_top","_law_plain"]) (B:bw mg) (c_law_heap:na P w K mg base 2) (gV:bW P w K mg base 2):m_ P w K mg base 3:=by
 exists uE,tN K,(FT rfl h)
def rL(F:aE K mg "_law_pairs" (top 92) ["_law_script","_law_at","_law_size","_law_kind","_law_plain"]) (B:bw mg) (gV:bW P w K mg base 1) (sn:cY P w K mg base 1):k_ P w K mg base 2:=by
 exists qS,nW K,(BB rfl h)
def uZ(F:aE K mg "_law_pace" (top 93) ["_law_cell","_law_kind"]) (B:bw mg) (c_law_lowest:iY P w K mg base 2):fM P w K mg base 3:=by
 exists uF,tR K,(FX rfl h)
def pA(F:aE K mg "_law_vessel" (top 94) ["_law_script","_law_at"]) (B:bw mg) (sn:cY P w K mg base 3) (c_law_pool:m_ P w K mg base 3) (c_law_pairs:k_ P w K mg base 3) (gV:bW P w K mg base 3) (Dv:gD P w K mg base 3) (xv:fM P w K mg base 3):iX P w K mg base 4:=by
 exists oX,zK K,(JV rfl h)
def rN(F:aE K mg "_law_heaps" (top 95) ["_law_vessel_here"]) (B:bw mg)  : lv P w K mg base 1:=by
 exists qU,nY K,(BD rfl h)
def va(F:aE K mg "_law_ends" (top 96) ["_law_vessel_here"]) (B:bw mg) (c_law_heaps:lv P w K mg base 1):nh P w K mg base 2:=by
 exists uH,tV K,(FZ rfl h)
def jg(F:aE K mg "_law_zero_lack" (top 100) ["_law_script","_law_at"]) (B:bw mg) (sn:cY P w K mg base 3) (gV:bW P w K mg base 3) (Dv:gD P w K mg base 3) (xv:fM P w K mg base 3):fz P w K mg base 4:=by
 exists i9,Gn.zJ K,(Gn.JU rfl h)
def rK(F:aE K mg "_law_reach" (top 102) ["_law_ends_here","_law_one"]) (B:bw mg)  : k9 P w K mg base 1:=by
 exists qR,tM K,(FS rfl h)
def uX(F:aE K mg "_law_told" (top 103) ["_law_vessel_here"]) (B:bw mg) (c_lots:sS P w K mg base 8) (c_free:EF P w K mg base 8) (c_lack:IZ P w K mg base 8) (c_drains:xW P w K mg base 8) (c_traps:EB P w K mg base 8) (c_sheltered:kU P w K mg base 8) (c_keeping:sT P w K mg base 8) (c_returning:kY P w K mg base 8):m9 P w K mg base 9:=by
 exists uD,Nl.zP K,(Nl.JX rfl h)
def N5(F:Fun K "law" "law" (top 104) f fd) (B:bw mg) (c_law_vessel:iX P w K mg base 9) (c_law_told:m9 P w K mg base 9) (c_law_ends:nh P w K mg base 9) (c_law_zero_lack:fz P w K mg base 9) (gV:bW P w K mg base 9) (xv:fM P w K mg base 9) (c_law_reach:k9 P w K mg base 9) (c_even:I_ P w K mg base 9):FnOk P w K mg base ba 10 f fd ["_law_script"] (spLaw K):=by
 refine F.ok HR (λvs H Q E h=>?_) (λcdv A outer s H vs Q E hr h=>?_)
 .obtain⟨a,ns,rfl,_⟩:=h;rfl
 have nd:=HR.nd;have hu:=hr.units;have hu1:=Rt hr;have hpo:=λ{M A env}=>@Zbu M A env
 refine⟨Fe K,?_,(MW h)⟩;fail "t"
end
def fL{G:Su->Su->Su->Option Addr->Su->Su->VI}{ps:List Str}(e:UD ps=1)(h:∀(a b c:Su) (d:Option Addr) (x y u0:Su),bindArgs (G a b c d x y) ⟨[u0],[]⟩=pure (ps.zip [u0]))(a b c:Su)(d:Option Addr)(x y:Su)(us:List Su)(hl:UD us=UD ps):bindArgs (G a b c d x y) ⟨us,[]⟩=pure (ps.zip us):=by
 have e0:UD us=1:=hl.trans e;obtain⟨u0,us,rfl⟩:=SM e0;cases TB (Uo e0);exact h a b c d x y u0
def eJ{G:Su->Su->Su->Option Addr->Su->Su->VI}{ps:List Str}(e:UD ps=2)(h:∀(a b c:Su) (d:Option Addr) (x y u0 u1:Su),bindArgs (G a b c d x y) ⟨[u0,u1],[]⟩=pure (ps.zip [u0,u1]))(a b c:Su)(d:Option Addr)(x y:Su)(us:List Su)(hl:UD us=UD ps):bindArgs (G a b c d x y) ⟨us,[]⟩=pure (ps.zip us):=by
 have e0:UD us=2:=hl.trans e;obtain⟨u0,us,rfl⟩:=SM e0;have e1:UD us=1:=Uo e0;obtain⟨u1,us,rfl⟩:=SM e1;cases TB (Uo e1);exact h a b c d x y u0 u1
def Pk{G:Su->Su->Su->Option Addr->Su->Su->VI}{ps:List Str}(e:UD ps=3)(h:∀(a b c:Su) (d:Option Addr) (x y u0 u1 u2:Su),bindArgs (G a b c d x y) ⟨[u0,u1,u2],[]⟩=pure (ps.zip [u0,u1,u2]))(a b c:Su)(d:Option Addr)(x y:Su)(us:List Su)(hl:UD us=UD ps):bindArgs (G a b c d x y) ⟨us,[]⟩=pure (ps.zip us):=by
 have e0:UD us=3:=hl.trans e;obtain⟨u0,us,rfl⟩:=SM e0;have e1:UD us=2:=Uo e0;obtain⟨u1,us,rfl⟩:=SM e1;have e2:UD us=1:=Uo e1;obtain⟨u2,us,rfl⟩:=SM e2;cases TB (Uo e2);exact h a b c d x y u0 u1 u2
def Se{G:Su->Su->Su->Option Addr->Su->Su->VI}{ps:List Str}(e:UD ps=4)(h:∀(a b c:Su) (d:Option Addr) (x y u0 u1 u2 u3:Su),bindArgs (G a b c d x y) ⟨[u0,u1,u2,u3],[]⟩=pure (ps.zip [u0,u1,u2,u3]))(a b c:Su)(d:Option Addr)(x y:Su)(us:List Su)(hl:UD us=UD ps):bindArgs (G a b c d x y) ⟨us,[]⟩=pure (ps.zip us):=by
 have e0:UD us=4:=hl.trans e;obtain⟨u0,us,rfl⟩:=SM e0;have e1:UD us=3:=Uo e0;obtain⟨u1,us,rfl⟩:=SM e1;have e2:UD us=2:=Uo e1;obtain⟨u2,us,rfl⟩:=SM e2;have e3:UD us=1:=Uo e2;obtain⟨u3,us,rfl⟩:=SM e3;cases TB (Uo e3);exact h a b c d x y u0 u1 u2 u3
def RW{G:Su->Su->Su->Option Addr->Su->Su->VI}{ps:List Str}(e:UD ps=5)(h:∀(a b c:Su) (d:Option Addr) (x y u0 u1 u2 u3 u4:Su),bindArgs (G a b c d x y) ⟨[u0,u1,u2,u3,u4],[]⟩=pure (ps.zip [u0,u1,u2,u3,u4]))(a b c:Su)(d:Option Addr)(x y:Su)(us:List Su)(hl:UD us=UD ps):bindArgs (G a b c d x y) ⟨us,[]⟩=pure (ps.zip us):=by
 have e0:UD us=5:=hl.trans e;obtain⟨u0,us,rfl⟩:=SM e0;have e1:UD us=4:=Uo e0;obtain⟨u1,us,rfl⟩:=SM e1;have e2:UD us=3:=Uo e1;obtain⟨u2,us,rfl⟩:=SM e2;have e3:UD us=2:=Uo e2;obtain⟨u3,us,rfl⟩:=SM e3;have e4:UD us=1:=Uo e3;obtain⟨u4,us,rfl⟩:=SM e4;cases TB (Uo e4);exact h a b c d x y u0 u1 u2 u3 u4
def Sd{G:Su->Su->Su->Option Addr->Su->Su->VI}{ps:List Str}(e:UD ps=6)(h:∀(a b c:Su) (d:Option Addr) (x y u0 u1 u2 u3 u4 u5:Su),bindArgs (G a b c d x y) ⟨[u0,u1,u2,u3,u4,u5],[]⟩=pure (ps.zip [u0,u1,u2,u3,u4,u5]))(a b c:Su)(d:Option Addr)(x y:Su)(us:List Su)(hl:UD us=UD ps):bindArgs (G a b c d x y) ⟨us,[]⟩=pure (ps.zip us):=by
 have e0:UD us=6:=hl.trans e;obtain⟨u0,us,rfl⟩:=SM e0;have e1:UD us=5:=Uo e0;obtain⟨u1,us,rfl⟩:=SM e1;have e2:UD us=4:=Uo e1;obtain⟨u2,us,rfl⟩:=SM e2;have e3:UD us=3:=Uo e2;obtain⟨u3,us,rfl⟩:=SM e3;have e4:UD us=2:=Uo e3;obtain⟨u4,us,rfl⟩:=SM e4;have e5:UD us=1:=Uo e4;obtain⟨u5,us,rfl⟩:=SM e5;cases TB (Uo e5);exact h a b c d x y u0 u1 u2 u3 u4 u5
def FnAt{K:Fg}{st:Stmt}{ps:List Str}(X:K.In h)(G:h.Ns mainGlobals mg)(p:Mf K n st)(hb:∀(kV doc pm:Su) (an:Option Addr) (cdv ct:Su) (us:List Su),UD us=UD ps->bindArgs (Vc n n (du st) (cF st) (aj st) .none kV doc pm an cdv ct) ⟨us,[]⟩=pure (ps.zip us)):aE K mg n st ps:=by
 obtain⟨_,_,_,_,_,_,_,_,_,_,a,l,c,k⟩:=p;exact Ha X G a l c k hb
nonrec def Pg:=PySem.Challenge.rw_vesselhall_k97_whole_no_lack_whatever_th.prog
def fin:PySem.Challenge.rw_vesselhall_k97_whole_no_lack_whatever_th.Holds:=by
 refine K97H.headed ?_;intro w K h mg fa X G hfa P0 P20 P40 P60 P80 Z tn0 tn1 to0 to1 nq oq nqd oqd nqn oqn nqs oqs hcnN hcnL hcnO hcnM;obtain⟨p0,p1,p2,p3,p4,p5,p6,p7,p8,p9,p10,p11,p12,p13,p14,p15,p16,p17,p18,p19,_⟩:=P0;obtain⟨p20,p21,p22,p23,p24,p25,p26,p27,p28,p29,p30,p31,p32,p33,p34,p35,p36,p37,p38,p39,_⟩:=P20;obtain⟨p40,p41,p42,p43,p44,p45,p46,p47,p48,p49,p50,p51,p52,p53,p54,p55,p56,p57,p58,p59,_⟩:=P40;obtain⟨p60,p61,p62,p63,p64,p65,p66,p67,p68,p69,p70,p71,p72,p73,p74,p75,p76,p77,p78,p79,_⟩:=P60;obtain⟨p80,_⟩:=P80;obtain⟨z0,z1,z2,z3,z4,z5,z6,z7,z8,z9,z10,z11,z12,z13,z14,z15,z16,z17,z18,z19,z20,z21,_⟩:=Z;obtain⟨_,_,an,_,_,kV,dc,pm,cd,ct,aL,lL,cL,kL⟩:=p80;cases hfa.symm.trans (YR X G aL);have zn:=λ{n:Str}=>PySem.W.mg_none_of (n:=n) X G
 have B:bw mg:=⟨zn z0,zn z1,zn z2,zn z3,zn z4,zn z5,zn z6,zn z7,zn z8,zn z9,zn z10,zn z11,zn z12,zn z13,zn z14,zn z15,zn z16,zn z17,zn z18,zn z19,zn z20,zn z21⟩
 refine⟨Vc "law" "law" (du (top 104)) (cF (top 104)) (aj (top 104)) .none kV dc pm an cd ct,λs v=>.of_eq rfl,λbase _ _=>?_⟩;have gG:=G;have G:Cn K mg nq oq:=⟨YR X G hcnN,YR X G hcnO,λH=>.inr ⟨_,_,_,hcnL,rfl,rfl,aR,.cons ⟨_,rfl⟩ (.cons ⟨_,rfl⟩ .nil)⟩,λH=>.inr ⟨_,_,_,hcnM,rfl,rfl,aR,.cons ⟨_,rfl⟩ (.cons ⟨_,rfl⟩ .nil)⟩⟩
 have c_whole:=GA (P:=Pg) (w:=w) (base:=base) (FnAt X gG p0 (fL rfl λ_ _ _ _ _ _ _=>rfl)) B;have dk:=gr (P:=Pg) (w:=w) (base:=base) (FnAt X gG p1 (eJ rfl λ_ _ _ _ _ _ _ _=>rfl)) B;have c_column:=CC (P:=Pg) (w:=w) (base:=base) (FnAt X gG p6 (eJ rfl λ_ _ _ _ _ _ _ _=>rfl)) B;have vp:=l5 (P:=Pg) (w:=w) (base:=base) (FnAt X gG p8 (fL rfl λ_ _ _ _ _ _ _=>rfl)) B;have c_unit_row:=uU (P:=Pg) (w:=w) (base:=base) (FnAt X gG p9 (eJ rfl λ_ _ _ _ _ _ _ _=>rfl)) B;have c_opposite:=uV (P:=Pg) (w:=w) (base:=base) (FnAt X gG p11 (fL rfl λ_ _ _ _ _ _ _=>rfl)) B;have c_heaps_of:=vd (P:=Pg) (w:=w) (base:=base) (FnAt X gG p19 (fL rfl λ_ _ _ _ _ _ _=>rfl)) B;have c_places_of:=rE (P:=Pg) (w:=w) (base:=base) (FnAt X gG p26 (eJ rfl λ_ _ _ _ _ _ _ _=>rfl)) B;have c_lot_marks:=rH (P:=Pg) (w:=w) (base:=base) (FnAt X gG p32 (eJ rfl λ_ _ _ _ _ _ _ _=>rfl)) B;have c_short_line:=pf (P:=Pg) (w:=w) (base:=base) (FnAt X gG p35 (eJ rfl λ_ _ _ _ _ _ _ _=>rfl)) B;have zo:=e9 (P:=Pg) (w:=w) (base:=base) (FnAt X gG p36 (fL rfl λ_ _ _ _ _ _ _=>rfl)) B;have c_sets_of:=yO (P:=Pg) (w:=w) (base:=base) (FnAt X gG p42 (fL rfl λ_ _ _ _ _ _ _=>rfl)) B;have c_has_some:=ve (P:=Pg) (w:=w) (base:=base) (FnAt X gG p43 (eJ rfl λ_ _ _ _ _ _ _ _=>rfl)) B;have c_lies_within:=lW (P:=Pg) (w:=w) (base:=base) (FnAt X gG p46 (eJ rfl λ_ _ _ _ _ _ _ _=>rfl)) B;have c_taken_out:=rB (P:=Pg) (w:=w) (base:=base) (FnAt X gG p50 (eJ rfl λ_ _ _ _ _ _ _ _=>rfl)) B;have c_turnings_from:=je (P:=Pg) (w:=w) (base:=base) (FnAt X gG p54 (eJ rfl λ_ _ _ _ _ _ _ _=>rfl)) B;have c_is_tree:=yQ (P:=Pg) (w:=w) (base:=base) (FnAt X gG p56 (Pk rfl λ_ _ _ _ _ _ _ _ _=>rfl)) B;have c_weight_powers:=jd (P:=Pg) (w:=w) (base:=base) (FnAt X gG p60 (eJ rfl λ_ _ _ _ _ _ _ _=>rfl)) B;have gV:=lY (P:=Pg) (w:=w) (base:=base) (FnAt X gG p65 (eJ rfl λ_ _ _ _ _ _ _ _=>rfl)) B;have sn:=rM (P:=Pg) (w:=w) (base:=base) (FnAt X gG p66 (eJ rfl λ_ _ _ _ _ _ _ _=>rfl)) B;have c_law_divisor:=lX (P:=Pg) (w:=w) (base:=base) (FnAt X gG p67 (eJ rfl λ_ _ _ _ _ _ _ _=>rfl)) B;have Dv:=rJ (P:=Pg) (w:=w) (base:=base) (FnAt X gG p69 (eJ rfl λ_ _ _ _ _ _ _ _=>rfl)) B;have c_law_heaps:=rN (P:=Pg) (w:=w) (base:=base) (FnAt X gG p75 (fL rfl λ_ _ _ _ _ _ _=>rfl)) B;have c_law_reach:=rK (P:=Pg) (w:=w) (base:=base) (FnAt X gG p78 (eJ rfl λ_ _ _ _ _ _ _ _=>rfl)) B;have c_least_multiple:=iq (FnAt X gG p2 (eJ rfl λ_ _ _ _ _ _ _ _=>rfl)) B dk;have c_fraction:=vf (FnAt X gG p3 (eJ rfl λ_ _ _ _ _ _ _ _=>rfl)) B dk c_whole;have c_crossed:=yS (FnAt X gG p7 (fL rfl λ_ _ _ _ _ _ _=>rfl)) B c_column;have se:=rA (FnAt X gG p10 (fL rfl λ_ _ _ _ _ _ _=>rfl)) B c_unit_row;have Fx:=rG (FnAt X gG p12 (fL rfl λ_ _ _ _ _ _ _=>rfl)) B c_opposite;have vt:=ir (FnAt X gG p13 (fL rfl λ_ _ _ _ _ _ _=>rfl)) B dk;have xy:=GF (FnAt X gG p20 (fL rfl λ_ _ _ _ _ _ _=>rfl)) B c_heaps_of;have c_turning_at:=o_ (FnAt X gG p21 (eJ rfl λ_ _ _ _ _ _ _ _=>rfl)) B c_whole;have c_is_drain:=vc (FnAt X gG p44 (eJ rfl λ_ _ _ _ _ _ _ _=>rfl)) B c_has_some;have c_is_trap:=yR (FnAt X gG p45 (eJ rfl λ_ _ _ _ _ _ _ _=>rfl)) B c_has_some;have c_least_of:=uW (FnAt X gG p47 (fL rfl λ_ _ _ _ _ _ _=>rfl)) B c_lies_within;have c_split:=GD (FnAt X gG p51 (eJ rfl λ_ _ _ _ _ _ _ _=>rfl)) B dk c_taken_out;have Ad:=eZ (FnAt X gG p52 (eJ rfl λ_ _ _ _ _ _ _ _=>rfl)) B dk;have c_picks:=GE (FnAt X gG p55 (eJ rfl λ_ _ _ _ _ _ _ _=>rfl)) B c_turnings_from;have c_law_lowest:=pC (FnAt X gG p68 (eJ rfl λ_ _ _ _ _ _ _ _=>rfl)) B c_law_divisor;have c_law_heap:=u_ (FnAt X gG p70 (RW rfl λ_ _ _ _ _ _ _ _ _ _ _=>rfl)) B sn;have c_law_pairs:=rL (FnAt X gG p72 (RW rfl λ_ _ _ _ _ _ _ _ _ _ _=>rfl)) B gV sn;have c_law_ends:=va (FnAt X gG p76 (fL rfl λ_ _ _ _ _ _ _=>rfl)) B c_law_heaps;have c_plus:=K2 (FnAt X gG p4 (eJ rfl λ_ _ _ _ _ _ _ _=>rfl)) B c_fraction;have c_times:=GC (FnAt X gG p5 (eJ rfl λ_ _ _ _ _ _ _ _=>rfl)) B c_fraction;have c_lowest:=Cz (FnAt X gG p14 (fL rfl λ_ _ _ _ _ _ _=>rfl)) B (vp.mono (by decide:1<=2)) vt;have c_change:=CD (FnAt X gG p22 (eJ rfl λ_ _ _ _ _ _ _ _=>rfl)) B c_turning_at;have ip:=kw (FnAt X gG p25 (fL rfl λ_ _ _ _ _ _ _=>rfl)) B xy;have c_check_heap:=pD (FnAt X gG p28 (eJ rfl λ_ _ _ _ _ _ _ _=>rfl)) B (c_whole.mono (by decide:1<=2)) xy;have c_first_board:=l_ (FnAt X gG p34 (eJ rfl λ_ _ _ _ _ _ _ _=>rfl)) B se;have c_line_without:=ku (FnAt X gG p37 (Pk rfl λ_ _ _ _ _ _ _ _ _=>rfl)) B vt;have c_drains:=CB (FnAt X gG p48 (fL rfl λ_ _ _ _ _ _ _=>rfl)) B c_least_of (c_sets_of.mono (by decide:1<=2)) c_is_drain;have c_traps:=GB (FnAt X gG p49 (fL rfl λ_ _ _ _ _ _ _=>rfl)) B c_least_of (c_sets_of.mono (by decide:1<=2)) c_is_trap;have c_apart:=GG (FnAt X gG p53 (fL rfl λ_ _ _ _ _ _ _=>rfl)) B Ad c_split;have c_law_pool:=uY (FnAt X gG p71 (Sd rfl λ_ _ _ _ _ _ _ _ _ _ _ _=>rfl)) B c_law_heap (gV.mono (by decide:1<=2));have xv:=uZ (FnAt X gG p73 (eJ rfl λ_ _ _ _ _ _ _ _=>rfl)) B c_law_lowest;have c_cleared:=yT (FnAt X gG p15 (eJ rfl λ_ _ _ _ _ _ _ _=>rfl)) B (vp.mono (by decide:1<=3)) c_lowest;have xa:=yU (FnAt X gG p23 (fL rfl λ_ _ _ _ _ _ _=>rfl)) B c_change;have c_lots:=K3 (FnAt X gG p27 (fL rfl λ_ _ _ _ _ _ _=>rfl)) B ip (c_places_of.mono (by decide:1<=3)) (xy.mono (by decide:2<=3));have c_road:=K1 (FnAt X gG p29 (Pk rfl λ_ _ _ _ _ _ _ _ _=>rfl)) B c_check_heap ip;have c_passed_on:=rF (FnAt X gG p38 (Pk rfl λ_ _ _ _ _ _ _ _ _=>rfl)) B (c_opposite.mono (by decide:1<=3)) c_line_without;have c_numbers_on:=pi (FnAt X gG p39 (Pk rfl λ_ _ _ _ _ _ _ _ _=>rfl)) B c_lowest (c_least_multiple.mono (by decide:2<=3));have c_pace_product:=kr G (FnAt X gG p57 (eJ rfl λ_ _ _ _ _ _ _ _=>rfl)) B c_times;have c_law_vessel:=pA (FnAt X gG p74 (eJ rfl λ_ _ _ _ _ _ _ _=>rfl)) B (sn.mono (by decide:1<=3)) c_law_pool (c_law_pairs.mono (by decide:2<=3)) (gV.mono (by decide:1<=3)) (Dv.mono (by decide:1<=3)) xv;have c_law_zero_lack:=jg (FnAt X gG p77 (eJ rfl λ_ _ _ _ _ _ _ _=>rfl)) B (sn.mono (by decide:1<=3)) (gV.mono (by decide:1<=3)) (Dv.mono (by decide:1<=3)) xv;have c_sifted:=Cy (FnAt X gG p16 (fL rfl λ_ _ _ _ _ _ _=>rfl)) B (se.mono (by decide:2<=4)) c_cleared (vp.mono (by decide:1<=4)) (c_lowest.mono (by decide:3<=4));have c_first_astray:=kx (FnAt X gG p30 (fL rfl λ_ _ _ _ _ _ _=>rfl)) B (ip.mono (by decide:3<=4)) c_road;have c_settled:=yN (FnAt X gG p40 (eJ rfl λ_ _ _ _ _ _ _ _=>rfl)) B (c_first_board.mono (by decide:3<=4)) (c_short_line.mono (by decide:1<=4)) (zo.mono (by decide:1<=4)) c_passed_on c_numbers_on (Fx.mono (by decide:2<=4));have c_tree_weight:=lV G (FnAt X gG p58 (Se rfl λ_ _ _ _ _ _ _ _ _ _=>rfl)) B (c_picks.mono (by decide:2<=4)) (c_is_tree.mono (by decide:1<=4)) (c_plus.mono (by decide:3<=4)) c_pace_product;have c_free_places:=lZ (FnAt X gG p17 (fL rfl λ_ _ _ _ _ _ _=>rfl)) B c_sifted;have c_nought_makers:=jf (FnAt X gG p18 (fL rfl λ_ _ _ _ _ _ _=>rfl)) B c_sifted;have c_balanced:=vg (FnAt X gG p41 (eJ rfl λ_ _ _ _ _ _ _ _=>rfl)) B c_settled (Fx.mono (by decide:2<=5));have c_tree_weights:=kq (FnAt X gG p59 (fL rfl λ_ _ _ _ _ _ _=>rfl)) B (ip.mono (by decide:3<=5)) (c_lots.mono (by decide:4<=5)) c_tree_weight;have c_sheltered:=rC (FnAt X gG p62 (fL rfl λ_ _ _ _ _ _ _=>rfl)) B c_settled (xa.mono (by decide:4<=5)) (se.mono (by decide:2<=5));have c_free:=K5 (FnAt X gG p24 (fL rfl λ_ _ _ _ _ _ _=>rfl)) B c_free_places (xa.mono (by decide:4<=6));have c_lack_rows:=rO (FnAt X gG p33 (fL rfl λ_ _ _ _ _ _ _=>rfl)) B (c_lots.mono (by decide:4<=6)) c_nought_makers (c_lot_marks.mono (by decide:1<=6)) (xy.mono (by decide:2<=6));have c_keeping:=yP (FnAt X gG p63 (fL rfl λ_ _ _ _ _ _ _=>rfl)) B c_balanced (xa.mono (by decide:4<=6)) (se.mono (by decide:2<=6));have c_returning:=rD (FnAt X gG p64 (fL rfl λ_ _ _ _ _ _ _=>rfl)) B c_balanced (c_crossed.mono (by decide:2<=6)) (se.mono (by decide:2<=6)) (xa.mono (by decide:4<=6));have c_lack:=K4 (FnAt X gG p31 (fL rfl λ_ _ _ _ _ _ _=>rfl)) B c_free (xy.mono (by decide:2<=7)) (c_lots.mono (by decide:4<=7));have c_even:=K6 (FnAt X gG p61 (fL rfl λ_ _ _ _ _ _ _=>rfl)) B (c_first_astray.mono (by decide:5<=7)) (c_tree_weights.mono (by decide:6<=7)) c_lack_rows (c_apart.mono (by decide:3<=7)) (c_weight_powers.mono (by decide:1<=7));have c_law_told:=uX (FnAt X gG p79 (fL rfl λ_ _ _ _ _ _ _=>rfl)) B (c_lots.mono (by decide:4<=8)) (c_free.mono (by decide:7<=8)) c_lack (c_drains.mono (by decide:3<=8)) (c_traps.mono (by decide:3<=8)) (c_sheltered.mono (by decide:6<=8)) (c_keeping.mono (by decide:7<=8)) (c_returning.mono (by decide:7<=8));exact N5 (P:=Pg) (w:=w) (base:=base) (ID (st:=top 104) lL cL kL) B (c_law_vessel.mono (by decide:4<=9)) c_law_told (c_law_ends.mono (by decide:2<=9)) (c_law_zero_lack.mono (by decide:4<=9)) (gV.mono (by decide:1<=9)) (xv.mono (by decide:3<=9)) (c_law_reach.mono (by decide:1<=9)) (c_even.mono (by decide:8<=9))
end K97
theorem PySem.Challenge.cw_vesselhall_k97_whole_no_lack_whatever_th_holds : PySem.Challenge.rw_vesselhall_k97_whole_no_lack_whatever_th.Holds := by
 exact K97.fin
#print axioms PySem.Challenge.cw_vesselhall_k97_whole_no_lack_whatever_th_holds

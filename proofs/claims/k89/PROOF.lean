import PyProof.Rows.All
import Wide.All
import Wide.FinOn
import Lean
import KE.KDictList
import KE.KEqDat
import KE.KIntText
import KE.KIsAll
import KE.KRevSl
import KE.KSortAsk
import KE.KDictSum
import PySem.Challenge.RW_vesselhall_k89_as_much_comes_as_goes
set_option compiler.extract_closed false
set_option genSizeOf false
set_option Elab.async false
set_option linter.all false
set_option maxRecDepth 100000
set_option maxHeartbeats 0
local macro_rules | `(abbrev $i $s:optDeclSig $v:declVal)=>`(noncomputable def $i $s $v:declVal)
local macro_rules | `(nonrec abbrev $i $s:optDeclSig $v:declVal)=>`(noncomputable abbrev $i $s $v:declVal)
local macro_rules | `(def $i $b*:$t $v:declVal)=>`(theorem $i $b*:$t $v:declVal)
local macro_rules | `(⇑$x)=>`(some (.ref $x))
local macro_rules | `(↥$x)=>`(some (.int $x))
local macro_rules | `(tactic| get_elem_tactic_extensible)=>`(tactic| omega)
local macro_rules | `(tactic| walk_at "o") => `(tactic| first|exact Or.inl rfl|exact Or.inr rfl)
local macro_rules | `(tactic| walk_at "s") => `(tactic| exact ⟨rfl,rfl,rfl,by decide +kernel,rfl,by decide +kernel,by decide +kernel⟩)
open PySem.Challenge renaming pw_vesselhall_k89_as_much_comes_as_goes->PW89
open List renaming length_map->O0,getElem?_eq_getElem->O1,getD_eq_getElem?_getD->O2,getElem?_eq_some_iff->O3,getElem?_map->O4,mem_of_getElem?->O7,mem_cons_self->O8,mem_cons_of_mem->O9,map_append->O_,take_of_length_le->Pc,range->Pi,mem_map->Pl,length_append->Pm,mem_singleton->Po,exists_cons_of_length_eq_add_one->Pq,take_add_one->Ps,length_take->Px,mem_cons->Py,mem_append->Pz,mem_append_right->PB,mem_range->PJ,mem_append_left->PK,size_toArray->PM,length_range->PN,mem_filter->PQ,replicate->PV,getElem?_eq_none->PY,length_cons->P7,getElem?_of_mem->P_,nodup_cons->Qf,map_cons->Qn,eq_nil_of_length_eq_zero->Qq,getElem?_range->Qs,getElem?_append_left->Qu,getElem_mem->Qx,map_map->Qz,take_length->QC,mem_iff_getElem->QE,append_assoc->QF,getElem?_append_right->QG,filter_cons_of_neg->QI,mem_map_of_mem->QK,mem_of_mem_take->QP,length_filter_le->QT,filter_cons_of_pos->QX,map_congr_left->Q3,length_eq_zero_iff->Q9,zip->Q_,length_drop->Rc,length->Rg,foldl_append->Rh,length_singleton->Rj,range_succ->Rr,nodup_nil->RB,drop_of_length_le->RC,find?_cons->RG,getElem?_zip_eq_some->RJ,append_nil->RW,length_eq_one_iff->RY,lookup_cons->Sb,not_mem_nil->Sc,length_replicate->Si,findIdx?_eq_some_iff_getElem->Sj,findIdx?_eq_none_iff->Sk,nil_append->So,ext_getElem?->Sy,replicate_succ->SM,getElem_inj->SO,exists_cons_of_length_pos->SV,filter_append->Tc,getElem?_toArray->Tj,take_append_drop->Tk,getElem?_zipWith->Tl,nodup_append->Tq,mem_of_mem_drop->Tz,zipWith->TH,nodup_range->TM,filterMap_cons->TV,length_pos_iff->TX,length_set->T9,length_nil->T_,pairwise_cons->Ud,map_singleton->Ue,take->Ug,getElem?_cons_succ->Uh,take_sublist->Um,flatten_cons->Up,eraseIdxIfInBounds_toArray->Uv,singleton_append->Uy,contains_iff_mem->Uz,all_eq_true->UI,range'->UU,forall_mem_cons->UV,take_append_of_le_length->U0,foldl_cons->U2,dropLast_concat_getLast->Vb,map_nil->Vf,find?_eq_none->VF,drop_eq_getElem_cons->VI,getElem?_take_of_lt->VX,cons_append->V4,filter_cons->Wa,getElem?_set_self->Wl,length_pos_of_mem->Wx,drop_eq_nil_of_le->Wy,filter_eq_nil_iff->Wz,of_mem_zip->WC,getElem?_set_ne->WO,length_eraseIdx->WZ,drop->W6,length_zipWith->Xa,flatMap_append->Xd,any_cons->Xi,mem_filterMap->Xu,getElem?_take->Xy,getElem?_drop->Xz,map_inj_right->XA,reverse_cons->XS,mem_range'_1->XT,filter_congr->XZ,mem_flatMap->Ym,length_zip->YB,foldl->YL,all_cons->Y2,Perm->Y4,map->Y5
open PySem renaming wpAny_bind->O5,Value->O6,Shared->Pe,wpAny_pure->Pt,Program->P6,World->Qp,Around->Qt,importedModules->QH,wpAny_newObj_type->Q7,wpAny_call_entry->Re,wpAny_mono->Rf,SetTable->Rm,wpAny_callSpecial?_slot->Ru,wpAny_truthy_bool->Ry,wpAny_Call_Name_kw->RK,wpAny_typeNameOfWhole_keyiter->RQ,Builtin->RU,wpAny_holding->R_,FuncData->Se,treeTable->Sq,wpAny_passesOwn->Sr,World->Su,sizeLine_eq->Sv,mem_of_lookup->SL,wpAny_getItem_str_slice->SR,wpAny_setField->SU,wpAny_askSetting->TJ,OsState->TZ,tupleKind_room_in1->Ub,wpAny_setField_rec->Uc,isSubtype_type->Us,wpAny_setState_of->Ut,wpAny_isInstance->UG,wpAny_attempt->UO,wpAny_field->UT,wpAny_execs_nil->U1,codeAny_builtin->U7,wpAny_setEntries_of->Vc,codeAny_mono->Ve,DictEntry->Vo,wpAny_pyIter_tuple->Vt,call_meets->Vw,wpAny_fieldsOf->Vx,wpAny_seqItems->Vz,wpAny_pyIter_list->VM,wpAny_pyIter_slot->VN,wpAny_dictEntries->VO,wpAny_of_eq->VP,NameKind->V7,wpAny_rule->Wm,wpAny_dictEpoch->WD,wpAny_isTrue_Compare1->WH,wpAny_isOneOf_keyiter->WK,builtinLookup_eq_fast->WL,isSubtype_stop->WT,wpAny_newTuple->WU,OsState->W3,wpAny_standAt->Xh,wpAny_handled->Xj,strLen_append->Xm,call->Xs,Shared->XE,Walks->XG,BindsTo->XM,seqIndex_neg->XN,Result->Yc,putSet_of->Yk,seqIndex_of->Yq,wpAny_throw->Ys,Keyword->YE,GenState->YH
open Nat renaming le_refl->Pa,pow_le_pow_right->Ph,le_trans->Pj,lt_of_le_of_lt->Pk,lt_of_lt_of_le->PL,mul_le_mul_left->PU,mul_le_mul->PX,gcd->P4,pos_of_ne_zero->P5,mul_assoc->P9,mul_pos->Qa,ne_of_lt->Qb,pow_lt_pow_right->Qd,mul_le_mul_right->Qe,zero_le->Ql,lt_trans->Qo,mul_comm->Qv,pow_pos->Qy,le_mul_of_pos_left->QN,pow_add->QU,pow_succ->QW,pos_of_mul_pos_left->QY,le_mul_of_pos_right->QZ,mul_left_comm->Q8,Coprime->Ra,not_lt_zero->Rq,le_of_lt->Rx,le_of_dvd->RM,lt_irrefl->R5,strongRecOn->Ss,succ_mul->Sx,one_pos->SE,pow_le_pow_left->SN,zero_add->SX,ne_of_gt->SZ,mul_one->TC,zero_mul->TK,pow_zero->TL,one_mul->Uj,coprime_one_right->UA,succ_le_succ->UD,min_eq_right->UE,lt_succ_self->UH,mul_lt_mul''->UJ,gcd_dvd_left->UK,log2_self_le->UL,min_eq_left->U6,le_self_pow->Va,add_comm->Vg,succ_pos->Vi,lt_or_ge->Vl,lt_succ_of_lt->VS,dvd_mul_right->VT,pow_mul->VU,lt_succ_iff_lt_or_eq->V0,min_le_right->V_,mul_div_cancel_left->Wi,le_of_eq->Ws,le_succ->WR,log2_lt->WS,le_log2->W1,add_le_add_left->W9,dvd_trans->Xn,lt_of_le_of_ne->Xv,eq_zero_or_pos->XB,sub_self->XW,lt_trichotomy->X0,le_succ_of_le->X2,dvd_refl->X3,gcd_dvd_right->X4,lt_log2_self->Yn,two_pow_pos->YA,mod_lt->YS,add_lt_add->YU,add_le_add->YV,sub_le->YX
open Option renaming map_eq_some_iff->Pb,isSome_iff_exists->T6,map_some->U3,toList_some->VE,getD_some->Wh,isSome_map->XQ,getD_none->Yd
open PySem.Heap renaming get?_push_of_some->Pf,lt_size->PF,get?_push_size->PR,get?_update_self->Q5,size_push->RP,SameBut->RX,get?_update_other->Wr,get?_push_cases->WV,get?_update_ne->Xb,ExtBut->Yr
open Int renaming natAbs_natCast->Pu,natAbs_mul->P2,toNat_natCast->Qc,natCast_mul->Qj,mul_eq_zero->QL,toNat->QM,emod_lt_of_pos->QR,emod_nonneg->Q0,mul_assoc->Q1,zero_mul->RL,mul_comm->R3,mul_zero->R4,mul_add->SA,add_zero->SB,zero_add->SD,natAbs_add_le->Ts,neg_mul->Tx,one_mul->TB,eq_of_mul_eq_mul_left->TU,mul_fdiv_cancel_left->T7,add_mul->UX,mul_fdiv_cancel'->UZ,gcd_eq_natAbs_gcd_natAbs->U_,fdiv_eq_ediv_of_nonneg->Vu,fmod_eq_emod_of_nonneg->Vv,natCast_nonneg->VC,gcd_dvd_right->VQ,neg_dvd->VR,mul_pos->VW,pos_of_mul_pos_right->V1,gcd_dvd_left->Wc,gcd_mul_left->We,fmod_nonneg_of_pos->Ww,mul_ne_zero->WE,fdiv->WW,mul_sub->WX,sub_mul->W2,gcd->W7,toNat_of_nonneg->Xc,fmod_lt_of_pos->Xx,fmod->XU,fmod_def->XV,emod_eq_of_lt->X1,mul_left_comm->X5,mul_one->Yp,mul_neg->Yt,mul_nonneg->YT,natAbs->YW
open Option.some renaming inj->PD
open Rat renaming divInt->PH,mul_assoc->Qg,num_divInt_den->Qk,divInt_eq_divInt_iff->Q2,mul_one->Q4,divInt_mul_divInt->Q6,mul_pos->Rv,divInt_eq_div->RE,one_mul->RH,add_zero->RN,le_of_lt->RO,num_nonneg->RS,inv_pos->RT,mul_inv_cancel->Sh,pow_succ->Td,intCast_mul->Te,pow_zero->TN,zero_add->Vk,zero_mul->Vm,mul_comm->Vn,div_mul_cancel->VG,inv_divInt->VH,lt_irrefl->V2,mul_zero->WA,intCast_inj->WF,inv_mul_rev->WG,le_refl->W0,sub_eq_add_neg->XC,num_eq_zero->YC
open Bool renaming false_ne_true->PZ,eq_iff_iff->RV,false_eq_true->S_,and_eq_true_iff->Tu,and_eq_true->Wg,eq_false_iff->XR,false_and->YI,false_or->YZ
open Array renaming length_toList->P1,getElem?_toList->P3,getElem?_eq_none->RZ,toArray_toList->US,getElem?_eq_some_iff->VA,append_empty->Xo,ext_getElem?->Xw,mk->YF
open Nat.succ renaming inj->Qh
open PySem.Value renaming ref->Qi,none->Rs,isInt->RF,int->Tf,type->Vp,bool->Wk,str->W4,isStrOf->Xg,scannable->Yz
open PySem.W.Dat renaming int->Qm,str->Wv,bool->Yj
open PySem.Builtin.Str renaming strSliceIndices->Qw
open PyProof.Rows renaming callWith_type1->QD,IntsAre->To,callWith_builtin1->UC,assignInOrder_cons->Vr,AllBare->VL,intBits_le->V9,subscriptTail_builtinR->Wo,floordiv_int->XH
open PySem.Heap.SameBut renaming update->QJ
open PySem.W renaming kia_one->Rb,boot_heap->Ri,view->Rn,fnOf->RA,keepIn->SQ,codeIn->Tv,recOk->TY,xlAt->Uk,kitOne->Ul,kHook->UM,kqd_lay->U4,nsIn->Vh,methodObj->VJ,mg_of->VY,openSeen->V5,cellsFrom_some->Wn,instObj->WB,lookIn->WP,recFacts_of->W8,LeftO->Xe,WalkO->Xf,boot_drawn->Xp,holds_open->Xq,Frag->XD,kitx_list->XI,kitx_dict->XJ,boot_toks->X6,openGood->X7,plainGet->Yb,kqd_layL->Yg,kdl_call->Yi,OpenLaw->Yv,kqd_any->Yx,SharedT->YD,XL->YG,findIn->YJ,kitCls->YM,KdlSrc->YN,xl_of->YY
open PySem.F renaming slot_dict_keyiterator_next->Ro,plainAttrs_list->SW,called_set->Ta,slot_dict_get->Ux,args_dict_keyiterator_next_1->UF,entry_dict_keyiterator_next->UR,slot_tuple_iterator_next->Vy,args_dict_get_2->V8,entry_dict_get->Wu,slot_list_pop->WM,type_list_pop->WN,entry_list_pop->Ye,slot_dict_iter->Yh
open PySem.Obj renaming data_mapFields->Rt,mapFields->Sa,isFreed_of_fields->Th,mapSeq->Ua,cls_mapFields->Ur,putSet->VD
open PySem.SetTable renaming grown->RD,below->Sg,insertAt->SC,fill->UP,turns->WY,bits->Xk,fits->Xl,layClean->XX,tooFull->Yl,probe->YO
open PySem.Calls renaming spliced_cons->Sd,spliced_nil->Sw,callWith_builtin->Uo,Name_function_global->Vq,evalArgs_plain->WQ
open Classical renaming byContradiction->Sn
open True renaming intro->SG
open PySem.Builtin.List renaming listTooLong->SJ,listLengthHint->Vj
open List.cons renaming inj->SK
open False renaming elim->SY
open Prod.mk renaming inj->Tt,injEq->Y1
open Sum renaming inl->TF,inr->Wj
open PySem.Builtin.SmallTypes renaming nextOf->TQ,ownedTupleHandOut->TW,iterAll->VB
open PySem.Paired renaming length->T0
open Int.ofNat renaming inj->T8
open Sum.inl renaming inj->Uf
open PyProof.Rows.F renaming plain_set_update_loop->Ui,entry_set_update_loop->Wf
open PySem.Str renaming ofString->Uq,empty->V6,length->YK
open Prod renaming snd->Uu,ext->UQ,fst->UY
open Nat.Coprime renaming dvd_of_dvd_mul_left->Uw,mul_right->UB
open PySem.Around renaming under_plainId->UW
open ForInStep renaming yield->U5
open PySem.Builtin.Frozenset renaming updateFrom->U8
open PySem.Builtin renaming divisionGoesByPylong->U9
open Ne renaming symm->Vd
open PySem.NameKind renaming cell->VZ,free->Y0
open List.Nodup renaming idxOf_getElem->V3
open PySem.Builtin.Int renaming intTooBig->WI,intBits->W_
open PySem.Builtin.Dict renaming showsAll->WJ
open PySem.Data renaming cell->W5,fields->Yo,seq->Y6
open PySem.W.Hook renaming keeps->Xr,says->XF,obs->X8,val->X9,of->Yu
open List.Pairwise renaming nil->XO
open String renaming splitOnAux->XY,splitOn->YQ
open PySem.W.XL renaming keeps->X_
open PySem.PassesOwn renaming never->Yw
open PySem.PyData renaming depthAll->Yy
open List.Perm renaming refl->YR
open PySem.Txt renaming slice->Y3
nonrec abbrev Fg := XD
local macro_rules | `(tactic| walk_at "t")=>`(tactic| simp only[Y5,Rg,PV,V4,So,SX,Nat.reduceAdd,Nat.reduceSub])
def ex2{α:Type}{us:List α}(h:us.length=2):∃a b,us=[a,b]:=by
 match us,h with
 |[a,b],_=>exact⟨a,b,rfl⟩
namespace HdT
open PySem PySem.W
abbrev D4:BT->Nat->List Obj->BT
 |T,_,[]=>T
 |T,n,o :: os=>D4 (T.ins n o) (n+1) os
abbrev kB:BT->Nat->List Obj->Bool
 |_,_,[]=>true
 |T,n,o :: os=>match ((T.ins n o).get n).isSome with
  |true=>kB (T.ins n o) (n+1) os
  |false=>false
def t7:∀(os:List Obj) (T:BT) (n:Nat) (life:Life),kB T n os=true->absHeap (D4 T n os) (n+os.length) life=⟨(absHeap T n life).objs++os.toArray,life⟩
 |[],T,n,life,_=>by
  show absHeap T n life=_;rw[show([]:List Obj).toArray = #[] from rfl,Xo];rfl
 |o :: os,T,n,life,h=>by
  unfold kB at h;split at h
  .rename_i e;have ih:=t7 os (T.ins n o) (n+1) life h;rw[absHeap_ins e] at ih;show absHeap (D4 (T.ins n o) (n+1) os) (n+(os.length+1)) life=_;rw[show n+(os.length+1)=n+1+os.length by lia,ih];show Heap.mk ((absHeap T n life).objs.push o++os.toArray) life=Heap.mk ((absHeap T n life).objs++(o :: os).toArray) life;congr 1;simp
  .cases h
abbrev Cr(tb:String->Option RU)(p:P6)(w:Qp)(n₀:Nat)(ann:Option O6):Nat->YD->Thread->Option YD
 |0,_,_=>none
 |n+1,s,t=>match through t with
  |true=>some s
  |false=>match stepOk n₀ ann t with
   |false=>none
   |true=>match stepT (denote tb) p w s t with
    |some (s',t')=>Cr tb p w n₀ ann n s' t'
    |none=>none
def x8{tb:String->Option RU}{p:P6}{w:Qp}{n₀:Nat}{ann:Option O6}:∀{n:Nat} {s r:YD} {t:Thread},Cr tb p w n₀ ann n s t=some r->topRun tb p w n₀ ann n s.abs t=some r.abs
 |0,_,_,_,h=>by cases h
 |n+1,s,r,t,h=>by
  unfold Cr at h;unfold topRun;cases he:through t with
  |true=>rw[he] at h;cases h;rfl
  |false =>
   rw[he] at h;cases hk:stepOk n₀ ann t with
   |false=>rw[hk] at h;cases h
   |true =>
    rw[hk] at h;cases hs:stepT (denote tb) p w s t with
    |none=>rw[hs] at h;cases h
    |some x=>obtain⟨s₂,t₂⟩:=x;rw[hs] at h;rw[stepT_spec hs];exact x8 h
abbrev xz (P:Params) (os:W3):YD:=⟨D4 .nil 0 (Ri P).objs.toList,(Ri P).objs.toList.length,(Ri P).life,YF [],Xp,X6,os⟩
def uP{os:W3}(h:kB .nil 0 (Ri P).objs.toList=true):(xz P os).abs=⟨Ri P,YF [],Xp,X6,os⟩:=by
 have e:=t7 (Ri P).objs.toList .nil 0 (Ri P).life h;rw[SX] at e;unfold YD.abs xz;simp only;rw[e];congr 1
abbrev ends (tb:String->Option RU) (mods:List Str) (p:P6) (w:Qp) (N:Nat) (os:W3):Option Pe :=
 match (Ri w.params).isNs mainGlobals with
 |true=>(Cr tb p w (Ri w.params).objs.size ((Ri w.params).nsMap mainGlobals "__annotations__") N (xz w.params os) (topStub p)).bind λr =>
   match staticsOk mods (Ri w.params) r.abs.heap && namesBound p r.abs.heap && gensDone r.abs && laidKept (Ri w.params) r.abs.heap with
   |true=>some r.abs
   |false=>none
 |false=>none
def IN{p:P6}{w:Qp}{os:W3}{r:Pe}(g:kB .nil 0 (Ri w.params).objs.toList=true)(h:ends treeTable (importedModules p.main.body) p w N os=some r):topFrom treeTable p w N ⟨Ri w.params,YF [],Xp,X6,os⟩=some r:=by
 unfold ends at h;unfold topFrom;cases hi:(Ri w.params).isNs mainGlobals with
 |false=>rw[hi] at h;cases h
 |true =>
  rw[hi] at h;simp only at h ⊢;obtain⟨x,hx,hr⟩:=Option.bind_eq_some_iff.mp h
  have:=x8 hx
  rw[uP g] at this;show(topRun treeTable p w (Ri w.params).objs.size ((Ri w.params).nsMap mainGlobals "__annotations__") N ⟨Ri w.params,YF [],Xp,X6,os⟩ (topStub p)).bind _=_;rw[this];exact hr
def left{α:Type}{Yf:Pe->α}{Ya:Qp->α}
  (e:opening p=plainProg p.main.scope.names) (hN:Nat.ble 600 N=true) (f:∀s,fenceModules? p s=some s) (g:∀w:Qp,kB .nil 0 (Ri w.params).objs.toList=true)
  (h:∀w os,(ends treeTable (importedModules p.main.body) p w N os).map (λs=>(openSeen q loose (importedModules p.main.body) Xt true s,Yf s))=some (openGood q loose,Ya w)):LeftO p q loose Xt Yf Ya N:=λw=>by
 obtain⟨s,hs,hv⟩:=Pb.mp (boot_open e hN f w);unfold openEnds;rw[hs];obtain⟨heap,gens,drawn,toks,os⟩:=s;obtain⟨h1,h2⟩:=Tt hv;obtain⟨h2,h3⟩:=Tt h2;obtain⟨h3,h4⟩:=Tt h3;subst h1 h2 h3 h4;obtain⟨r,hr,hv⟩:=Pb.mp (h w os);show(topFrom treeTable p w N _).map _=_;rw[IN (g w) hr];exact congrArg some hv
def cut4{α β γ δ ε ζ η θ ι:Type}{o:Option Pe}{F:Pe->α×β×γ×δ×ε×ζ×η×θ×ι}{a:α}{b:β}{c:γ}{d:δ}{e:ε}{f:ζ}{g:η}{h:θ}{i:ι}(h1:o.map (λs=>((F s).1,(F s).2.1))=some (a,b))(h2:o.map (λs=>(F s).2.2.1)=some c)(h3:o.map (λs=>((F s).2.2.2.1,(F s).2.2.2.2.1))=some (d,e))
  (h4:o.map (λs=>((F s).2.2.2.2.2.1,(F s).2.2.2.2.2.2.1,(F s).2.2.2.2.2.2.2.1,(F s).2.2.2.2.2.2.2.2))=some (f,g,h,i)):o.map F=some (a,b,c,d,e,f,g,h,i):=by
 cases o with
 |none=>cases h1
 |some s =>
  have k1:=Tt (PD h1);have k3:=Tt (PD h3);have k4:=Tt (PD h4);have k5:=Tt k4.2;have k6:=Tt k5.2;exact congrArg some (UQ k1.1 (UQ k1.2 (UQ (PD h2) (UQ k3.1 (UQ k3.2 (UQ k4.1 (UQ k5.1 (UQ k6.1 k6.2))))))))
end HdT
namespace K89H
open PySem
nonrec abbrev ν:List Nat:=[1,2,3,4,5,6,8,9,10,11,12,14,15,16,17,18,19,20,21,23,24,25,26,28,29,30,31,32,33,35,36,38,39,40,41,42,43,45,46,47,48,49,50,51,53,54,55,56,57,59,60,61,62,63,64,66,67,68,69,70,71,72,73,74,75,76,77,78,79,80,81,82,83,84,85,86,87,88]
abbrev qv:PySem.Program:=Rn PW89 ν
def said(h:PySem.Challenge.rw_vesselhall_k89_as_much_comes_as_goes.row.Holds):PySem.Challenge.rw_vesselhall_k89_as_much_comes_as_goes.Holds:=by
 w_on;o_law;exact h
def booted{α:Type}{Yf:XE->α}{Ya:Su->α}(h:∀w os,(HdT.ends Sq (QH PW89.main.body) PW89 w 7186 os).map (λs=>(V5 q loose (QH PW89.main.body) Xt true s,Yf s))=some (X7 q loose,Ya w)):Xe PW89 q loose Xt Yf Ya 7186 :=
 HdT.left (by kernel_rfl) (by decide) (λs=>by kernel_rfl) (λw=>by kernel_rfl) h
local macro_rules | `(tactic| o_head $H)=>`(tactic| refine Xq (q:=K89H.qv) (loose:=[]) (Xt:=λs=>Uk K89H.qv [] s && TY [] s) (XP:=YG K89H.qv []) (Yf:=X8 $H) (Ya:=X9 $H) (YP:=XF $H) (N:=7186) ?_ (Yu $H) (Xr $H) (λs e=>YY s (Tu.mp e).1) X_ (by rfl) (by rfl) (by rfl) (λs e=>W8 (Tu.mp e).2) (by rfl) (by first|assumption|decide +kernel) (by decide +kernel) ⟨rfl,rfl,rfl,rfl,rfl,by decide +kernel⟩ ?_ ?_)
open PySem.W PyProof.Rows in
def pre(hL:∀(α:Type) (Yf:XE->α) (Ya:Su->α),Xe PW89 qv [] (λs=>Uk qv [] s && TY [] s) Yf Ya 7186)(hP:PySem.Challenge.rw_vesselhall_k89_as_much_comes_as_goes.row.toRowW.promised)(hC:∀(YP:Su->PySem.Heap->Prop) (d:DefRec),Xf qv [] (YG qv []) YP PySem.Challenge.rw_vesselhall_k89_as_much_comes_as_goes.row.toRowW d [] (λf vs=>Xs f vs)):PySem.Challenge.rw_vesselhall_k89_as_much_comes_as_goes.row.Holds:=by
 w_on;k_head
 .exact hL _ _ _
 .exact hP
 .exact hC _ _
abbrev asl:List Nat:=[2,3,15,22,23,24,25,28,35,36,37,40,47,48,49,52,59,60,61,64,71,73,74,76,77,78,79,80,83,90,91,92,95,97,98,100,101,102,104,105,107,108,109,111,112,114,115,116,118,119,121,122,123,125,126,128,129,130,132,133,135,136,137,140,141,142,145,146,147,149,150,152,153,154,157,158,159,162,163,164,166,167,169,170,171,173,174,176,177,178,179,181,182,184,185,186,188,189,191,192,193,195,196,198,199,200,203,204,205,208,209,210,213,214,215,217,218,220,221,222,224,225,227,228,229,231,232,234,235,236,239,240,241,244,245,246,248,249,251,252,253,255,256,258,259,260,262,263,265,266,267,269,270,272,273,274,276,277,279,280,281,283,284,286,287,288,289,292,293,294,297,298,299,301,302,304,305,306,308,309,311,312,313,316,317,318,321,322,323,325,326,328,329,330,332,333,335,336,337,340,341,342,345,346,347,349,350,352,353,354,356,357,359,360,361,363,364,366,367,368,370,371,373,374,375,377,378,380,381,382,384,385,387,388,389,391,392,394,395,396,398,399,401,402,403,405,406,408,409,410,412,413,415,416,417,419,420,422,423,424,426,427,429,430,431,433,434,436,437,438,441,442,443,445,446,448,449,450,452,453,455,456,457,459,460,462,463,476,478,479,481,482,483,485,486,488,489,490,493,494,495,498,499,500,502,503,505,506,507,509,510,512,513,514,517,518,524,527,528,529,532,533,534,536,537,539,540]
def asl_ok(P:PySem.Params):asl=(pre.heap_1 P).map (·.1):=by kernel_rfl
nonrec abbrev tF(w:Su)(s:XE):=V5 (Rn PW89 ν) [] (QH PW89.main.body) (λs=>Uk (Rn PW89 ν) [] s && TY [] s) true s
open PySem.W PyProof.Rows in
def see1(w:Su)(os:TZ):(HdT.ends Sq (QH PW89.main.body) PW89 w 7186 os).map (λs=>((tF w s).1,(tF w s).2.1))=some (expectedOf (Rn PW89 ν),bltViewBooted):=by
 unfold tF;rw[PySem.W.Fast.te4187177175401517315,PySem.W.Fast.te5923862056798008813,PySem.W.Fast.te14364793385576792824,PySem.W.Fast.te13827193847583354084];kernel_rfl
open PySem.W PyProof.Rows in
def see2(w:Su)(os:TZ):(HdT.ends Sq (QH PW89.main.body) PW89 w 7186 os).map (λs=>(tF w s).2.2.1)=some true:=by
 unfold tF;rw[PySem.W.Fast.te4187177175401517315,PySem.W.Fast.te5923862056798008813,PySem.W.Fast.te14364793385576792824,PySem.W.Fast.te13827193847583354084];kernel_rfl
open PySem.W PyProof.Rows in
def see3(w:Su)(os:TZ):(HdT.ends Sq (QH PW89.main.body) PW89 w 7186 os).map (λs=>((tF w s).2.2.2.1,(tF w s).2.2.2.2.1))=some (true,pinGoodD (drecsOf (Rn PW89 ν))):=by
 unfold tF;rw[PySem.W.Fast.te4187177175401517315,PySem.W.Fast.te5923862056798008813,PySem.W.Fast.te14364793385576792824,PySem.W.Fast.te13827193847583354084];kernel_rfl
open PySem.W PyProof.Rows in
def see4(w:Su)(os:TZ):(HdT.ends Sq (QH PW89.main.body) PW89 w 7186 os).map (λs=>((tF w s).2.2.2.2.2.1,(tF w s).2.2.2.2.2.2.1,(tF w s).2.2.2.2.2.2.2.1,(tF w s).2.2.2.2.2.2.2.2))=some (plainGoodE (Rn PW89 ν) (looseW (Rn PW89 ν) []),plainGoodD (Rn PW89 ν) [],wideGood (Rn PW89 ν),clsGoodW (Rn PW89 ν) []):=by
 unfold tF;rw[PySem.W.Fast.te4187177175401517315,PySem.W.Fast.te5923862056798008813,PySem.W.Fast.te14364793385576792824,PySem.W.Fast.te13827193847583354084];kernel_rfl
def seen(w:Su)(os:TZ):(HdT.ends Sq (QH PW89.main.body) PW89 w 7186 os).map (λs=>V5 (Rn PW89 ν) [] (QH PW89.main.body) (λs=>Uk (Rn PW89 ν) [] s && TY [] s) true s)=some (X7 (Rn PW89 ν) []):=HdT.cut4 (F:=λs=>tF w s) (see1 w os) (see2 w os) (see3 w os) (see4 w os)
def hook(w:Su)(os:TZ):(HdT.ends Sq (QH PW89.main.body) PW89 w 7186 os).map (λs=>asl.map s.heap.get?)=some ((pre.heap_1 w.params).map λp=>some p.2):=by
 unfold asl;rw[PySem.W.Fast.te5923862056798008813,PySem.W.Fast.te14364793385576792824,PySem.W.Fast.te13827193847583354084];kernel_rfl
def hooks:Xe PW89 qv [] (λs=>Uk qv [] s && TY [] s) (λs=>asl.map s.heap.get?) (λw=>(pre.heap_1 w.params).map λp=>some p.2) 7186 :=
 booted (λw=>λos=>by
  obtain⟨s,e,a⟩:=Pb.mp (seen w os)
  have b:=hook w os
  rw[e] at b ⊢
  exact congrArg some (UQ a (PD b)))
end K89H
namespace L2
open PySem PySem.Spec PyProof.Rows
nonrec abbrev a7:=Sum Int Str
abbrev mJ:a7->O6->Bool
 |.inl k,v=>RF k v
 |.inr x,v=>Xg x v
abbrev NB(w:Qp):a7->Int
 |.inl k=>hashInt k
 |.inr x=>hashStr w x
def bG:∀{k:a7} {v:O6},mJ k v=true->(∃i t,k=TF i/\v=Tf i t)\/(∃x t,k=Wj x/\v=W4 x t)
 |.inl i,v,h=>by
  obtain⟨t,e⟩:=O6.isInt_shape (k:=i) (v:=v) h;exact .inl ⟨i,t,rfl,e⟩
 |.inr x,v,h=>by
  obtain⟨t,e⟩:=O6.isStrOf_shape (x:=x) (v:=v) h;exact .inr ⟨x,t,rfl,e⟩
def zw(i:Int)(t:Tok):mJ (.inl i) (.int i t)=true:=by simp[mJ,RF]
def zv(x:Str)(t:Tok):mJ (.inr x) (.str x t)=true:=by simp[mJ,Xg]
def Lj(a b:Int):decide ((TF a:a7)=TF b)=(a == b):=by
 by_cases e:a=b
 .subst e;simp
 .have h : ¬ (TF a:a7)=TF b:=λq=>e (Uf q)
  rw[decide_eq_false h];exact(beq_eq_false_iff_ne.mpr e).symm
def Lg(a b:Str):decide ((Wj a:a7)=Wj b)=decide (a=b):=by
 by_cases e:a=b
 .subst e;simp
 .have h : ¬ (Wj a:a7)=Wj b:=λq=>e (Wj.inj q)
  rw[decide_eq_false h,decide_eq_false e]
def Li(a:Int)(b:Str):decide ((TF a:a7)=Wj b)=false:=decide_eq_false (λq=>nomatch q)
def Lh(a:Str)(b:Int):decide ((Wj a:a7)=TF b)=false:=decide_eq_false (λq=>nomatch q)
abbrev bF(prog:P6)(w:Qp):PySem.KeyKind prog w a7 where
 is:=mJ
 hash:=NB w
 inj:=λv a b ha hb=>by
  rcases bG ha with⟨i,t,rfl,rfl⟩|⟨x,t,rfl,rfl⟩
  .rcases bG hb with⟨j,u,rfl,e⟩|⟨y,u,rfl,e⟩
   .injection e with e1 _;rw[e1]
   .exact nomatch e
  .rcases bG hb with⟨j,u,rfl,e⟩|⟨y,u,rfl,e⟩
   .exact nomatch e
   .injection e with e1 _;rw[e1]
 byValue:=λk v h=>by
  rcases bG h with⟨i,t,rfl,rfl⟩|⟨x,t,rfl,rfl⟩ <;> rfl
 pyHash:=λhv h=>by
  rcases bG hv with⟨i,t,rfl,rfl⟩|⟨x,t,rfl,rfl⟩
  .exact wpAny_pyHash_int h
  .exact wpAny_pyHash_str h
 eqBool:=λhu hv h=>by
  rcases bG hu with⟨i,t,rfl,rfl⟩|⟨x,t,rfl,rfl⟩
  .rcases bG hv with⟨j,u,rfl,rfl⟩|⟨y,u,rfl,rfl⟩
   .rw[Lj] at h;exact wpAny_eqBool_int h
   .rw[Li] at h;exact SeqAt.EqAt.int_str i t y u _ _ _ _ h
  .rcases bG hv with⟨j,u,rfl,rfl⟩|⟨y,u,rfl,rfl⟩
   .rw[Lh] at h;exact SeqAt.EqAt.str_int x t j u _ _ _ _ h
   .rw[Lg] at h;exact wpAny_eqBool_str h
 «strs»:=λk x t v h=>by
  rcases bG h with⟨i,u,rfl,e⟩|⟨y,u,rfl,e⟩
  .exact nomatch e
  .injection e with e1 _
   subst e1;cases v <;> rfl
def rL(prog:P6)(w:Qp)(i:Int)(t:Tok):(bF prog w).is (.inl i) (.int i t)=true:=zw i t
def rK(prog:P6)(w:Qp)(x:Str)(t:Tok):(bF prog w).is (.inr x) (.str x t)=true:=zv x t
inductive V where
 |non|bl (b:Bool)|int (i:Int)|str (x:Str)|byt (b:Array UInt8)|flt (b:UInt64)|ref (a:Addr)|ty (n:String)
 deriving DecidableEq
abbrev RelV:V->O6->Prop
 |.non,u=>u=Rs
 |.bl b,u=>u=Wk b
 |.int i,u=>∃t,u=Tf i t
 |.str x,u=>∃t,u=W4 x t
 |.byt b,u=>∃t,u=O6.bytes b t
 |.flt b,u=>∃t,u=O6.float b t
 |.ref a,u=>u=Qi a
 |.ty n,u=>u=Vp n
nonrec abbrev Vals:List V->List O6->Prop:=Paired RelV
def Vals.length(r:Vals xs us):xs.length=us.length:=T0 r
def Vals.get:∀{xs:List V} {us:List O6} {i:Nat} {x:V},Vals xs us->xs[i]?=some x->∃u,us[i]?=some u/\RelV x u
 |_,_,_,_,.nil,e=>by simp at e
 |_,_,0,_,.cons r _,e=>by simp at e;subst e;exact⟨_,rfl,r⟩
 |_,_,i+1,x,.cons _ t,e=>by
  obtain⟨u,h1,h2⟩:=Vals.get (i:=i) (x:=x) t (by simpa using e);exact⟨u,by simpa using h1,h2⟩
def Vals.set{x:V}{u:O6}(r:RelV x u):∀{xs:List V} {us:List O6} (i:Nat),Vals xs us->Vals (xs.set i x) (us.set i u)
 |_,_,_,.nil=>.nil
 |_,_,0,.cons _ t=>.cons r t
 |_,_,i+1,.cons q t=>.cons q (Vals.set r i t)
def Vals.append:∀{xs ys:List V} {us ws:List O6},Vals xs us->Vals ys ws->Vals (xs++ys) (us++ws)
 |_,_,_,_,.nil,s=>s
 |_,_,_,_,.cons r t,s=>.cons r (Vals.append t s)
def Vals.take:∀{xs:List V} {us:List O6} (n:Nat),Vals xs us->Vals (xs.take n) (us.take n)
 |_,_,0,_=>.nil
 |_,_,_+1,.nil=>.nil
 |_,_,n+1,.cons r t=>.cons r (Vals.take n t)
def Vals.drop:∀{xs:List V} {us:List O6} (n:Nat),Vals xs us->Vals (xs.drop n) (us.drop n)
 |_,_,0,r=>r
 |_,_,_+1,.nil=>.nil
 |_,_,n+1,.cons _ t=>Vals.drop n t
abbrev RelO:Option V->Option O6->Prop
 |some v,some u=>RelV v u
 |none,none=>True
 |_,_=>False
abbrev KV{κ:Type}:List (κ×V)->List (κ×O6)->Prop:=Paired λ(p:κ×V) (q:κ×O6)=>p.1=q.1/\RelV p.2 q.2
abbrev kV:a7->V
 |.inl i=>.int i
 |.inr x=>.str x
inductive HO where
 |lst (xs:List V)
 |tup (xs:List V)
 |dK (de:List (a7×V))|dT (de:List (List a7×V))
 |set (S:Int->Bool) (n:Nat)
 |ins (C dx:Addr) (fs:List (Str×V))
 |own (x:Addr)
 |xd (fs:List (Str×V))
 |met (f x:Addr)
 |rng (lo hi:Int)
 |frz (o:Obj) (u:HO)
 |tbl (ps:Array O6)
 |ext (φ:Heap->Prop)
nonrec abbrev Hp:=Addr->Option HO
abbrev upd(H:Hp)(a:Addr)(o:HO):Hp:=λb=>if b=a then some o else H b
def ag:upd H a o a=some o:=by unfold upd;rw[if_pos rfl]
def aE{a b:Addr}(h:b≠a):upd H a o b=H b:=by unfold upd;rw[if_neg h]
def FW:upd (upd H a o) a u=upd H a u:=by
 funext b;unfold upd;split <;> rfl
def j9{H:Hp}{o u:HO}(h:H a=some o)(h':H b=some u)(d:o≠u):a≠b:=by
 intro e;subst e;rw[h] at h';exact d (PD h')
def aw{H:Hp}{o:HO}(h:H a=some o)(h':H b=none):a≠b:=by
 intro e;subst e;rw[h] at h';cases h'
abbrev TupD (h:Heap) (a:Addr) (items:Array O6):Prop:=∃o,h.get? a=some o/\(o.cls=.type "tuple"/\∃n,o.data=.seq items n)/\o.dict=none
def TupD.tup{h:Heap}{a:Addr}{items:Array O6}(t:TupD h a items):IsTup h a items:=let ⟨o,e,c,_⟩:=t;⟨o,e,c⟩
def TupD.lt(t:TupD h a items):a<h.objs.size:=t.tup.lt
def TupD.new(h:Heap) (items:Array O6):TupD (h.push {cls:=.type "tuple",data:=.seq items}) h.objs.size items:=⟨_,PR _ rfl,⟨rfl,_,rfl⟩,rfl⟩
section
variable(P:P6)(w:Qp)
abbrev b5(H:Hp)(h:Heap)(a:Addr):HO->Prop
 |.lst xs=>xs.length<=sizeLine/\∃(gV:List O6) (n:Nat),Vals xs gV/\h.get? a=some {cls:=.type "list",data:=.seq gV.toArray n}
 |.tup xs=>xs.length<=sizeLine/\∃gV:List O6,Vals xs gV/\TupD h a gV.toArray
 |.dK de=>de.length<=sizeLine/\(a == sysModules)=false/\∃vs,KV de vs/\h.DictOf (bF P w) a vs
 |.dT de=>de.length<=sizeLine/\(a == sysModules)=false/\∃xs:List (List a7×Addr×O6),
   Paired (λ(p:List a7×V) (q:List a7×Addr×O6)=>p.1=q.1/\H q.2.1=some (.tup (p.1.map kV))/\RelV p.2 q.2.2) de xs /\
   ∃o es ep,h.get? a=some o/\o.ExactDict/\o.data=.dict es ep/\es.toList=xs.map (entryOfKey (tupleKind (bF P w)))/\(xs.map (·.1)).Nodup
 |.set S n=>h.SetOf (intKind P w) a S n
 |.ins C dx fs=>H dx=some (.own a)/\fs.length<=1000/\dx≠a/\h.get? a=some (WB C dx) /\
   ∃mA,h.Ns1 dx mA/\(∀f,RelO (fs.lookup f) (mA f))/\PySem.Within mA (fs.map (·.1))
 |.own _=>∃o,h.get? a=some o
 |.xd fs=>∃mA,h.Ns1 a mA/\∀f,RelO (fs.lookup f) (mA f)
 |.rng lo hi=>∃t u v,h.get? a=some {cls:=.type "range",data:=.fields #[.int lo t,.int hi u,.int 1 v]}
 |.frz o u=>h.get? a=some o/\b5 H h a u
 |.tbl ps=>h.get? a=some {cls:=.none,data:=.fields ps}
 |.met f x=>h.get? a=some (VJ (.ref f) (.ref x))
 |.ext φ=>φ h/\(∃o,h.get? a=some o)/\∀h1 h2:Heap,φ h1->(∀o,h1.get? a=some o->h2.get? a=some o)->φ h2
abbrev HOk(H:Hp)(h:Heap):Prop:=∀a o,H a=some o->b5 P w H h a o
end
section
variable{P:P6}{w:Qp}{H H':Hp}{h h':Heap}{a:Addr}{o:HO}
def b5.lt(x:b5 P w H h a o):a<h.objs.size:=by
 cases o with
 |lst xs=>obtain⟨_,_,_,_,e⟩:=x;exact PF e
 |tup xs=>obtain⟨_,_,_,p⟩:=x;exact p.lt
 |dK de=>obtain⟨_,_,_,_,o,_,_,e,_⟩:=x;exact PF e
 |dT de=>obtain⟨_,_,_,_,o,_,_,e,_⟩:=x;exact PF e
 |set S n=>obtain⟨o,_,_,_,e,_⟩:=x;exact PF e
 |ins C dx fs=>obtain⟨_,_,_,e,_⟩:=x;exact PF e
 |own y=>obtain⟨_,e⟩:=x;exact PF e
 |xd fs=>obtain⟨_,⟨_,_,_,e,_⟩,_⟩:=x;exact PF e
 |rng lo hi=>obtain⟨_,_,_,e⟩:=x;exact PF e
 |frz ob u=>obtain⟨e,_⟩:=x;exact PF e
 |tbl ps=>exact PF (show h.get? a=some _ from x)
 |met f y=>exact PF (show h.get? a=some _ from x)
 |ext φ=>obtain⟨_,⟨_,e⟩,_⟩:=x;exact PF e
def Paired.mapP{α β:Type}{F G:α->β->Prop}:∀{l₁:List α} {l₂:List β},Paired F l₁ l₂->(∀a b,F a b->G a b)->Paired G l₁ l₂
 |_,_,.nil,_=>.nil
 |_,_,.cons r t,f=>.cons (f _ _ r) (Paired.mapP t f)
def b5.stay(x:b5 P w H h a o)(k:∀b u,(b=a\/H b=some (.own a))->h.get? b=some u->h'.get? b=some u)
  (ho:∀b,H b=some (.own a)->H' b=some (.own a)) (ht:∀b xs,H b=some (.tup xs)->H' b=some (.tup xs)):b5 P w H' h' a o:=by
 induction o with
 |lst xs=>obtain⟨z,gV,n,r,e⟩:=x;exact⟨z,gV,n,r,k _ _ (.inl rfl) e⟩
 |tup xs=>obtain⟨z,gV,r,ob,e,c⟩:=x;exact⟨z,gV,r,ob,k _ _ (.inl rfl) e,c⟩
 |dK de=>obtain⟨z,y,vs,r,ob,es,ep,e,c⟩:=x;exact⟨z,y,vs,r,ob,es,ep,k _ _ (.inl rfl) e,c⟩
 |dT de =>
  obtain⟨z,y,xs,r,ob,es,ep,e,c⟩:=x;exact⟨z,y,xs,Paired.mapP r λp q z=>⟨z.1,ht _ _ z.2.1,z.2.2⟩,ob,es,ep,k _ _ (.inl rfl) e,c⟩
 |set S n=>obtain⟨ob,es,ep,t,e,c⟩:=x;exact⟨ob,es,ep,t,k _ _ (.inl rfl) e,c⟩
 |ins C dx fs =>
  obtain⟨d,z,ne,e,mA,⟨od,es,ep,e2,c⟩,r⟩:=x;exact⟨ho _ d,z,ne,k _ _ (.inl rfl) e,mA,⟨od,es,ep,k _ _ (.inr d) e2,c⟩,r⟩
 |own y=>obtain⟨ob,e⟩:=x;exact⟨ob,k _ _ (.inl rfl) e⟩
 |xd fs=>obtain⟨mA,⟨od,es,ep,e,c⟩,r⟩:=x;exact⟨mA,⟨od,es,ep,k _ _ (.inl rfl) e,c⟩,r⟩
 |rng lo hi=>obtain⟨t,u,v,e⟩:=x;exact⟨t,u,v,k _ _ (.inl rfl) e⟩
 |frz ob u ih=>obtain⟨e,q⟩:=x;exact⟨k _ _ (.inl rfl) e,ih q⟩
 |tbl ps =>
  have e:h.get? a=some {cls:=.none,data:=.fields ps}:=x;show h'.get? a=some {cls:=.none,data:=.fields ps};exact k a _ (.inl rfl) e
 |met f y =>
  have e:h.get? a=some (VJ (.ref f) (.ref y)):=x;show h'.get? a=some (VJ (.ref f) (.ref y));exact k a _ (.inl rfl) e
 |ext φ=>obtain⟨p,⟨o,e⟩,st⟩:=x;exact⟨st _ _ p λo q=>k _ _ (.inl rfl) q,⟨o,k _ _ (.inl rfl) e⟩,st⟩
def HOk.lt(x:HOk P w H h)(e:H a=some o):a<h.objs.size:=(x a o e).lt
def HOk.fresh(x:HOk P w H h)(e:h.objs.size<=a):H a=none:=by
 cases q:H a with
 |none=>rfl
 |some u=>exact absurd (PL (x.lt q) e) (R5 _)
def HOk.kept(x:HOk P w H h)(k:∀b u,h.get? b=some u->h'.get? b=some u):HOk P w H h':=λa o e =>
 (x a o e).stay (λb u _ q=>k b u q) (λ_ q=>q) λ_ _ q=>q
def HOk.laid(x:HOk P w H h)(k:∀b u,h.get? b=some u->h'.get? b=some u)(hp:h.objs.size<=a)(new:b5 P w (upd H a o) h' a o):HOk P w (upd H a o) h':=λb u e=>by
 have hn:=x.fresh hp;by_cases hb:b=a
 .subst hb;rw[ag] at e;cases e;exact new
 .rw[aE hb] at e;exact(x b u e).stay (λc v _ q=>k c v q) (λc q=>by rw[aE (aw q hn)];exact q) λc xs q=>by rw[aE (aw q hn)];exact q
end
abbrev Rd(H:Hp)(a:Addr)(u:HO):Prop:=H a=some u\/∃o,H a=some (.frz o u)
def Rd.ok(r:Rd H a u)(x:HOk P w H h):b5 P w H h a u:=by
 rcases r with r|⟨o,r⟩
 .exact x a u r
 .obtain⟨_,q⟩:=x a _ r;exact q
abbrev MH:Option HO->Prop
 |some (.lst _)=>True
 |some (.dK _)=>True
 |some (.dT _)=>True
 |some (.set _ _)=>True
 |some (.ins _ _ _)=>True
 |some (.ext _)=>True
 |_=>False
section
variable{P:P6}{w:Qp}{H:Hp}{h h':Heap}{x e:Addr}{o':HO}
def HOk.write(ok:HOk P w H h)(mu:MH (H x))(he:e=x\/H e=some (.own x))(k:∀b u,b≠e->h.get? b=some u->h'.get? b=some u)(heo:∃u,h'.get? e=some u)
  (new:b5 P w (upd H x o') h' x o'):HOk P w (upd H x o') h':=λb u q=>by
 have nown:∀c y,H c=some (.own y)->c≠x:=λc y r z=>by subst z;rw[r] at mu;exact mu
 have ntup:∀c xs,H c=some (.tup xs)->c≠x:=λc xs r z=>by subst z;rw[r] at mu;exact mu
 by_cases hb:b=x
 .subst hb;rw[ag] at q;cases q;exact new
 .rw[aE hb] at q;by_cases hbe:b=e
  .have q':H b=some (.own x):=by
    rcases he with z|z
    .exact absurd (hbe.trans z) hb
    .rw[hbe];exact z
   rw[q] at q';cases q';obtain⟨v,hv⟩:=heo;exact⟨v,by rw[hbe];exact hv⟩
  .refine(ok b u q).stay (λc v hc r=>k c v ?_ r) (λc r=>by rw[aE (nown c b r)];exact r) λc xs r=>by rw[aE (ntup c xs r)];exact r
   rcases hc with rfl|hc
   .exact hbe
   .rintro rfl;rcases he with z|z
    .exact nown c b hc z
    .rw[hc] at z;cases z;exact hb rfl
end
structure Un (fs ex:List Addr) (H H':Hp) (h h':Heap):Prop where
 keep:∀b o,h.get? b=some o->H b=none->b∉fs->b∉ex->h'.get? b=some o
 slot:∀b o,h.get? b=some o->H b=none->b∈fs->b∉ex->∃sl,h'.get? b=some {o with slots:=sl}
 free:∀b o,h.get? b=some o->H b=none->b∉ex->H' b=none
 there:∀b o,h.get? b=some o->b∉ex->∃o',h'.get? b=some o'
 tups:∀b xs,H b=some (.tup xs)->H' b=some (.tup xs)
 frzs:∀b o u,H b=some (.frz o u)->H' b=some (.frz o u)
 tbls:∀b ps,H b=some (.tbl ps)->∃more,H' b=some (.tbl (ps++more))
section
variable{fs fs' ex ex':List Addr}{H H1 H2:Hp}{h h1 h2 h':Heap}{a x e:Addr}{o:HO}
def Un.any(u:Un fs ex H H1 h h1){b:Addr}{ob:Obj}(q:h.get? b=some ob)(n:H b=none)(hx:b∉ex):∃sl,h1.get? b=some {ob with slots:=sl}:=by
 by_cases hb:b∈fs
 .exact u.slot b ob q n hb hx
 .exact⟨ob.slots,u.keep b ob q n hb hx⟩
def Un.kept(k:∀b u,h.get? b=some u->h'.get? b=some u):Un fs ex H H h h' :=
 ⟨λb ob q _ _ _=>k b ob q,λb ob q _ _ _=>⟨ob.slots,k b ob q⟩,λ_ _ _ n _=>n,λb ob q _=>⟨ob,k b ob q⟩,λ_ _ q=>q,λ_ _ _ q=>q,λ_ ps q=>⟨#[],by rw[q];simp⟩⟩
def Un.refl:Un fs ex H H h h:=Un.kept λ_ _ q=>q
def Un.laid(k:∀b u,h.get? b=some u->h'.get? b=some u)(hp:h.objs.size<=a)(hn:H a=none):Un fs ex H (upd H a o) h h' where
 keep:=λb u q _ _ _=>k b u q
 slot:=λb u q _ _ _=>⟨u.slots,k b u q⟩
 free:=λb u q n _=>by rw[aE (Qb (PL (PF q) hp))];exact n
 there:=λb u q _=>⟨u,k b u q⟩
 tups:=λb xs q=>by rw[aE (aw q hn)];exact q
 frzs:=λb u xs q=>by rw[aE (aw q hn)];exact q
 tbls:=λb ps q=>⟨#[],by rw[aE (aw q hn),q];simp⟩
def Un.write(mu:MH (H x))(he:e=x\/H e=some (.own x))(k:∀b u,b≠e->h.get? b=some u->h'.get? b=some u)(heo:∃u,h'.get? e=some u):Un fs ex H (upd H x o) h h':=by
 have hx:∀b,H b=none->b≠x:=λb n z=>by subst z;rw[n] at mu;exact mu
 have hb:∀b,H b=none->b≠e:=λb n z=>by
  subst z;rcases he with r|r
  .exact hx b n r
  .rw[n] at r;cases r
 have hm:∀b u,H b=some u->¬ MH (some u)->b≠x:=λb u q nm z=>by subst z;rw[q] at mu;exact nm mu
 refine⟨λb u q n _ _=>k b u (hb b n) q,λb u q n _ _=>⟨u.slots,k b u (hb b n) q⟩,λb u q n _=>by rw[aE (hx b n)];exact n,λb u q _=>?_,
  λb xs q=>by rw[aE (hm b _ q λz=>z)];exact q,λb u xs q=>by rw[aE (hm b _ q λz=>z)];exact q,λb ps q=>⟨#[],by rw[aE (hm b _ q λz=>z),q];simp⟩⟩
 by_cases hbe:b=e
 .subst hbe;exact heo
 .exact⟨u,k b u hbe q⟩
end
abbrev MS(h:Heap)(H:Hp):List Addr:=(Pi h.objs.size).filter λa=>(H a).isSome
abbrev mN(h:Heap)(H:Hp):Heap:=PySem.W.hideAll h (MS h H)
def zH(h:Heap)(H:Hp):(mN h H).objs.size=h.objs.size:=PySem.W.hideAll_size _ _
def DY{h:Heap}{H:Hp}{b:Addr}{o:Obj}(e:h.get? b=some o)(n:H b=none):(mN h H).get? b=some o :=
 PySem.W.hideAll_get _ e λhm=>by
  have q:(H b).isSome=true:=(PQ.mp hm).2;rw[n] at q;simp at q
def Ih{b:Addr}{o:Obj}(e:(mN h H).get? b=some o):h.get? b=some o/\H b=none:=by
 have e':h.get? b=some o:=PySem.W.of_hideAll (MS h H) e;refine⟨e',?_⟩;cases q:H b with
 |none=>rfl
 |some x =>
  have hm:b∈MS h H:=PQ.mpr ⟨PJ.mpr (PF e'),by simp[q]⟩;have z:(mN h H).get? b=none:=PySem.W.hideAll_none (MS h H) hm;rw[z] at e;cases e
structure Mod (K:Fg) (mg:Str->Option O6) (base:Heap):Prop where
 kin:K.In base
 glob:base.Ns mainGlobals mg
 blt:∃mb,base.Ns builtinsNs mb/\∀x:Str,x≠"__name__"->mb x=bootBuiltins x
 nolimit:base.NoLimit
structure Cx where
 prog:P6
 w:Qp
 K:Fg
 mg:Str->Option O6
 base:Heap
 A:Qt
 N:List Str
 s₀:Pe
 H₀:Hp
 env:Env
 outer:List Env
 stack:List Env
 ex:List Addr
 fn:Str->Bool
 calm:Bool
 pn:List (Addr×Obj)
 xe:O6->Pe->Prop
abbrev vK(l:List Env):List Addr:=l.filterMap (·.frame)
nonrec abbrev Cx.fs(X:Cx):List Addr:=vK X.outer
abbrev MW(sc:Scope)(x:Str):Prop:=sc.names.lookup x=some .local\/sc.names.lookup x=some .cell\/sc.names.lookup x=some .free
abbrev Loc(sc:Scope)(x:Str):Prop:=sc.names.lookup x=some .local\/sc.names.lookup x=some .cell
abbrev Look(env:Env)(h:Heap)(m:Str->Option O6)(x:Str)(u:O6):Prop :=
 (env.kindOf x=some .local/\m x=some u)\/((env.kindOf x=some .cell\/env.kindOf x=some .free)/\∃c,env.cells.lookup x=some c/\h.IsCell c (some u))
structure Cx.Ok (X:Cx):Prop where
 mod:Mod X.K X.mg X.base
 kind:X.env.scope.kind=.function
 glob:X.env.globals=mainGlobals
 blt:X.env.builtins=builtinsNs
 above:X.s₀.heap.objs.size<=X.env.locals
 inj:∀x y c,X.env.cells.lookup x=some c->X.env.cells.lookup y=some c->x=y
 has:∀x,(X.env.kindOf x=some .cell\/X.env.kindOf x=some .free)->∃c,X.env.cells.lookup x=some c
 cab:∀x c,X.fn x=true->X.env.cells.lookup x=some c->X.s₀.heap.objs.size<=c
 hd:X.calm=true->X.A.handled=none
 frames:X.A.frames=some X.stack
 stk:X.stack=X.outer\/(X.stack=X.env :: X.outer/\X.env.frame=some X.env.locals)
 exf:∀b∈X.ex,b≠X.env.locals/\∀x c,X.env.cells.lookup x=some c->c≠b
 bs:∀b o,X.base.get? b=some o->X.s₀.heap.get? b=some o/\X.H₀ b=none
 bsz:X.base.objs.size<=X.s₀.heap.objs.size
 noex:∀b o,X.base.get? b=some o->b∉X.ex
 exfs:∀b∈X.ex,b∉X.fs
 funs:X.s₀.heap.FunFrames X.base X.outer
 frf:∀b∈X.fs,X.H₀ b=none
structure Inv (X:Cx) (ξ:List (Addr×Obj)) (σ:List (Option V)) (H:Hp) (s:Pe):Prop where
 ok:X.Ok
 os:s.os=X.s₀.os
 bare:VL s.gens
 base:Un X.fs X.ex X.H₀ H X.s₀.heap s.heap
 loc:∃m,s.heap.Ns X.env.locals m/\∀(i:Nat) (x:Str) (v:V),X.N[i]?=some x->σ[i]?=some (some v)->MW X.env.scope x->∃u,RelV v u/\Look X.env s.heap m x u
 cell:∀x c,X.env.cells.lookup x=some c->∃v,s.heap.IsCell c v
 free:H X.env.locals=none
 freeC:∀x c,X.env.cells.lookup x=some c->H c=none
 pin:∀p∈X.pn++ξ,s.heap.get? p.1=some p.2/\H p.1=none/\p.1≠X.env.locals/\p.1∉X.fs/\∀v,p.2.data≠.cell v
 hok:HOk X.prog X.w H s.heap
 len:σ.length=X.N.length
section
variable{X:Cx}{ξ:List (Addr×Obj)}{σ:List (Option V)}{H H':Hp}{s:Pe}{h':Heap}
def Cx.Ok.nofr(ok:X.Ok){b:Addr}{o:Obj}(e:X.base.get? b=some o):b∉X.fs:=λhb=>by
 have:=(ok.funs.mem hb).1
 rw[e] at this;cases this
def Inv.bs(I:Inv X ξ σ H s):∀b o,X.base.get? b=some o->s.heap.get? b=some o/\H b=none:=λb o e =>
 ⟨I.base.keep b o (I.ok.bs b o e).1 (I.ok.bs b o e).2 (I.ok.nofr e) (I.ok.noex b o e),I.base.free b o (I.ok.bs b o e).1 (I.ok.bs b o e).2 (I.ok.noex b o e)⟩
def Inv.bk(I:Inv X ξ σ H s):∀b o,X.base.get? b=some o->s.heap.get? b=some o:=λb o e=>(I.bs b o e).1
def Inv.mod(I:Inv X ξ σ H s):Mod X.K X.mg X.base:=I.ok.mod
def Inv.kIn(I:Inv X ξ σ H s):X.K.In s.heap:=I.ok.mod.kin.keeps I.bk
def Inv.lt(I:Inv X ξ σ H s):X.env.locals<s.heap.objs.size:=let ⟨_,hn,_⟩:=I.loc;hn.lt
def Inv.sz(I:Inv X ξ σ H s):X.s₀.heap.objs.size<=s.heap.objs.size:=Pj I.ok.above (Rx I.lt)
def Inv.nofs(I:Inv X ξ σ H s){a:Addr}(h:s.heap.objs.size<=a):a∉X.fs:=λhb=>by
 obtain⟨_,o,ho,_⟩:=I.ok.funs.mem hb;exact absurd (PL (PF ho) (Pj I.sz h)) (R5 _)
def Inv.cne(I:Inv X ξ σ H s):∀x c,X.env.cells.lookup x=some c->c≠X.env.locals:=λx c e z=>by
 obtain⟨v,o,ho,hd⟩:=I.cell x c e;obtain⟨m,⟨o',es,ep,ho',hd',_⟩,_⟩:=I.loc;rw[z,ho'] at ho;cases ho;rw[hd'] at hd;cases hd
def Inv.funs(I:Inv X ξ σ H s):s.heap.FunFrames X.base X.outer:=by
 have all:∀(l:List Env),(∀b∈vK l,b∈X.fs)->X.s₀.heap.FunFrames X.base l->s.heap.FunFrames X.base l:=by
  intro l
  induction l with
  |nil=>intro _ _;trivial
  |cons env r ih =>
   intro hs hl;obtain⟨hk,⟨L,o,hf,hn,ho,hd⟩,hr⟩:=hl;have hL:L∈X.fs:=hs L (by unfold vK;rw[TV,hf];exact O8);obtain⟨sl,e⟩:=I.base.slot L o ho (I.ok.frf L hL) hL λz=>I.ok.exfs L z hL
   exact⟨hk,⟨L,_,hf,hn,e,hd⟩,ih (λb hb=>hs b (by unfold vK;rw[TV,hf];exact O9 _ hb)) hr⟩
 exact all X.outer (λ_ hb=>hb) I.ok.funs
def Inv.stack(I:Inv X ξ σ H s):s.heap.FunFrames X.base X.stack:=by
 rcases I.ok.stk with e|⟨e,hf⟩
 .rw[e];exact I.funs
 .rw[e];obtain⟨m,hn,_⟩:=I.loc;refine .cons (by rw[I.ok.kind];decide) hf hn ?_ I.funs;exact Heap.get?_none_of_le (Pj I.ok.bsz I.ok.above)
def Inv.xt(I:Inv X ξ σ H s):∀b∈vK X.stack,b∈X.env.locals :: X.fs:=λb hb=>by
 rcases I.ok.stk with e|⟨e,hf⟩
 .rw[e] at hb;exact O9 _ hb
 .rw[e] at hb;unfold vK at hb;rw[TV,hf] at hb;exact hb
def Inv.xu(I:Inv X ξ σ H s):∀b∈vK X.stack,H b=none:=λb hb=>by
 rcases Py.mp (I.xt b hb) with e|hb
 .rw[e];exact I.free
 .obtain⟨_,o,ho,_⟩:=I.ok.funs.mem hb;exact I.base.free b o ho (I.ok.frf b hb) λz=>I.ok.exfs b z hb
def Inv.step{g':Array YH}{t':Nat}{d':Drawn}{ch:List Addr}(I:Inv X ξ σ H s)
  (hch:∀b∈ch,(b∈X.ex\/X.s₀.heap.objs.size<=b)/\b≠X.env.locals/\(∀x c,X.env.cells.lookup x=some c->c≠b)/\∀p∈X.pn++ξ,p.1≠b)
  (keep:∀b o,b≠X.env.locals->b∉X.fs->b∉ch->s.heap.get? b=some o->H b=none->h'.get? b=some o)
  (slot:∀b o,b≠X.env.locals->b∈X.fs->b∉ch->s.heap.get? b=some o->H b=none->∃sl,h'.get? b=some {o with slots:=sl}) (free:∀b o,b∉ch->s.heap.get? b=some o->H b=none->H' b=none)
  (there:∀b o,b∉ch->s.heap.get? b=some o->∃o',h'.get? b=some o')
  (tups:∀b xs,H b=some (.tup xs)->H' b=some (.tup xs)) (frzs:∀b o u,H b=some (.frz o u)->H' b=some (.frz o u)) (tbls:∀b ps,H b=some (.tbl ps)->∃more,H' b=some (.tbl (ps++more)))
  (ns:∀m,s.heap.Ns X.env.locals m->h'.Ns X.env.locals m) (hok:HOk X.prog X.w H' h') (hg:VL g') :
  Inv X ξ σ H' {s with heap:=h',gens:=g',drawn:=d',toks:=t'}:=by
 have neL:∀b o,X.s₀.heap.get? b=some o->b≠X.env.locals:=λb o e=>Qb (PL (PF e) I.ok.above)
 have neC:∀b o,X.s₀.heap.get? b=some o->b∉X.ex->b∉ch:=λb o e hx hb=>by
  rcases (hch b hb).1 with z|z
  .exact hx z
  .exact absurd (PL (PF e) z) (R5 _)
 have cellK:∀x c,X.env.cells.lookup x=some c->∀v,s.heap.IsCell c v->h'.IsCell c v:=λx c e v ⟨o,ho,hd⟩=>by
  have nch:c∉ch:=λz=>(hch c z).2.2.1 x c e rfl
  by_cases hc:c∈X.fs
  .obtain⟨sl,q⟩:=slot c o (I.cne x c e) hc nch ho (I.freeC x c e);exact⟨_,q,hd⟩
  .exact⟨o,keep c o (I.cne x c e) hc nch ho (I.freeC x c e),hd⟩
 refine⟨I.ok,I.os,hg,⟨λb o e n hb hx=>?_,λb o e n hb hx=>?_,λb o e n hx=>?_,λb o e hx=>?_,λb xs e=>tups b xs (I.base.tups b xs e),λb o xs e=>frzs b o xs (I.base.frzs b o xs e),λb ps e=>?_⟩,?_,λx c e=>?_,?_,λx c e=>?_,λp hp=>?_,hok,I.len⟩
 .exact keep b o (neL b o e) hb (neC b o e hx) (I.base.keep b o e n hb hx) (I.base.free b o e n hx)
 .obtain⟨sl,e1⟩:=I.base.slot b o e n hb hx;obtain⟨sl',e2⟩:=slot b _ (neL b o e) hb (neC b o e hx) e1 (I.base.free b o e n hx);exact⟨sl',e2⟩
 .obtain⟨o',e1⟩:=I.base.there b o e hx;exact free b o' (neC b o e hx) e1 (I.base.free b o e n hx)
 .obtain⟨o',e1⟩:=I.base.there b o e hx;exact there b o' (neC b o e hx) e1
 .obtain⟨m1,e1⟩:=I.base.tbls b ps e;obtain⟨m2,e2⟩:=tbls b _ e1;exact⟨m1++m2,by rw[e2,Array.append_assoc]⟩
 .obtain⟨m,hn,hl⟩:=I.loc;refine⟨m,ns m hn,λi x v e1 e2 e3=>?_⟩;obtain⟨u,r,l⟩:=hl i x v e1 e2 e3;refine⟨u,r,?_⟩;rcases l with l|⟨k,c,e,z⟩
  .exact .inl l
  .exact .inr ⟨k,c,e,cellK x c e _ z⟩
 .obtain⟨v,z⟩:=I.cell x c e;exact⟨v,cellK x c e v z⟩
 .obtain⟨m,⟨o,_,_,ho,_⟩,_⟩:=I.loc;exact free _ o (λz=>(hch _ z).2.1 rfl) ho I.free
 .obtain⟨v,o,ho,hd⟩:=I.cell x c e;exact free c o (λz=>(hch c z).2.2.1 x c e rfl) ho (I.freeC x c e)
 .obtain⟨e,n,ne,nf,d⟩:=I.pin p hp;have nch:p.1∉ch:=λz=>(hch p.1 z).2.2.2 p hp rfl
  exact⟨keep p.1 p.2 ne nf nch e n,free p.1 p.2 nch e n,ne,nf,d⟩
def Inv.un{t':Nat}(I:Inv X ξ σ H s)(u:Un X.fs [] H H' s.heap h')(hok:HOk X.prog X.w H' h'):Inv X ξ σ H' {s with heap:=h',toks:=t'}:=by
 obtain⟨m,⟨o,es,ep,ho,r⟩,_⟩:=id I.loc;obtain⟨sl,hL⟩:=u.any ho I.free (by simp)
 exact I.step (g':=s.gens) (d':=s.drawn) (ch:=[]) (λ_ z=>nomatch z) (λb o _ hb _ e n=>u.keep b o e n hb (by simp)) (λb o _ hb _ e n=>u.slot b o e n hb (by simp)) (λb o _ e n=>u.free b o e n (by simp)) (λb o _ e=>u.there b o e (by simp)) u.tups u.frzs u.tbls (λm' hm=>by
  obtain⟨o',es',ep',ho',r'⟩:=hm
  rw[ho] at ho';cases ho'
  exact⟨_,es',ep',hL,r'⟩) hok I.bare
def Inv.call{t':Nat}{d':Drawn}(I:Inv X ξ σ H s)(u:Un (vK X.stack) ch H H' s.heap h')(hok:HOk X.prog X.w H' h')(hg:VL g')
  (hch:∀b∈ch,(b∈X.ex\/X.s₀.heap.objs.size<=b)/\b≠X.env.locals/\(∀x c,X.env.cells.lookup x=some c->c≠b)/\∀p∈X.pn++ξ,p.1≠b) :
  Inv X ξ σ H' {s with heap:=h',gens:=g',drawn:=d',toks:=t'}:=by
 obtain⟨m,⟨o,es,ep,ho,r⟩,_⟩:=id I.loc;obtain⟨sl,hL⟩:=u.any ho I.free λz=>(hch _ z).2.1 rfl
 exact I.step (ch:=ch) hch (λb o hL hb hc e n=>u.keep b o e n (λz=>(Py.mp (I.xt b z)).elim hL hb) hc) (λb o _ _ hc e n=>u.any e n hc) (λb o hc e n=>u.free b o e n hc) (λb o hc e=>u.there b o e hc) u.tups u.frzs u.tbls (λm' hm=>by
  obtain⟨o',es',ep',ho',r'⟩:=hm
  rw[ho] at ho';cases ho'
  exact⟨_,es',ep',hL,r'⟩) hok hg
def Inv.turned{t':Nat}{it:Addr}(I:Inv X ξ σ H s)(k:∀b o,b≠it->s.heap.get? b=some o->h'.get? b=some o)(hn:H it=none)(hL:it≠X.env.locals)
  (h1:it∈X.ex\/X.s₀.heap.objs.size<=it) (h2:∀x c,X.env.cells.lookup x=some c->c≠it) (h3:∀p∈X.pn++ξ,p.1≠it):Inv X ξ σ H {s with heap:=h',toks:=t'}:=by
 have nit:∀b u,H b=some u->b≠it:=λb u e z=>by rw[z,hn] at e;cases e
 refine I.step (g':=s.gens) (d':=s.drawn) (ch:=[it]) (λb hb=>?_) (λb o _ _ hc e _=>k b o (λz=>hc (by simp[z])) e) (λb o _ _ hc e _=>⟨o.slots,k b o (λz=>hc (by simp[z])) e⟩) (λ_ _ _ _ n=>n)
  (λb o hc e=>⟨o,k b o (λz=>hc (by simp[z])) e⟩) (λ_ _ e=>e) (λ_ _ _ e=>e) (λb ps e=>⟨#[],by rw[e];simp⟩) (λm hm=>?_) (λb u e=>?_) I.bare
 .have e:b=it:=by simpa using hb
  subst e;exact⟨h1,hL,h2,h3⟩
 .obtain⟨o,es,ep,ho,r⟩:=hm;exact⟨o,es,ep,k _ o (Vd hL) ho,r⟩
 .refine(I.hok b u e).stay (λc v hc q=>k c v ?_ q) (λ_ q=>q) λ_ _ q=>q
  rcases hc with z|z
  .rw[z];exact nit b u e
  .exact nit c _ z
def Inv.tok(I:Inv X ξ σ H s)(t:Nat):Inv X ξ σ H {s with toks:=t}:=I.un (h':=s.heap) (t':=t) Un.refl I.hok
def Inv.kept{t':Nat}(I:Inv X ξ σ H s)(k:∀b u,s.heap.get? b=some u->h'.get? b=some u):Inv X ξ σ H {s with heap:=h',toks:=t'}:=I.un (Un.kept k) (I.hok.kept k)
def Inv.laid{a:Addr}{t':Nat}(I:Inv X ξ σ H s)(k:∀b u,s.heap.get? b=some u->h'.get? b=some u)(hp:s.heap.objs.size<=a)(new:b5 X.prog X.w (upd H a o) h' a o) :
  Inv X ξ σ (upd H a o) {s with heap:=h',toks:=t'}:=I.un (Un.laid k hp (I.hok.fresh hp)) (I.hok.laid k hp new)
def Inv.write{e:Addr}{t':Nat}(I:Inv X ξ σ H s)(mu:MH (H x))(he:e=x\/H e=some (.own x))(k:∀b u,b≠e->s.heap.get? b=some u->h'.get? b=some u)(heo:∃u,h'.get? e=some u)
  (new:b5 X.prog X.w (upd H x o) h' x o):Inv X ξ σ (upd H x o) {s with heap:=h',toks:=t'}:=I.un (Un.write mu he k heo) (I.hok.write mu he k heo new)
def Inv.yG{pins':List (Addr×Obj)}(I:Inv X ξ σ H s)(h:∀p∈pins',s.heap.get? p.1=some p.2/\H p.1=none/\p.1≠X.env.locals/\p.1∉X.fs/\∀v,p.2.data≠.cell v):Inv X pins' σ H s :=
 ⟨I.ok,I.os,I.bare,I.base,I.loc,I.cell,I.free,I.freeC,λp hp=>(Pz.mp hp).elim (λz=>I.pin p (PK _ z)) (h p),I.hok,I.len⟩
def tT{N:List Str}(hN:N.Nodup){i j:Nat}{x:Str}(a:N[i]?=some x)(b:N[j]?=some x):i=j:=by
 obtain⟨h1,e1⟩:=O3.mp a;obtain⟨h2,e2⟩:=O3.mp b;exact(SO hN).mp (e1.trans e2.symm)
def xq{i:Nat}{x:Str}{Q:Unit->Pe->Prop}(I:Inv X ξ σ H s)(hN:X.N.Nodup)(hi:X.N[i]?=some x)(hx:Loc X.env.scope x)(r:RelV v u)
  (h:∀s',Inv X ξ (σ.set i (some v)) H s'->(∃a,RX a s.heap s'.heap/\(a=X.env.locals\/X.env.cells.lookup x=some a))->Q () s') (hf:X.fn x=true\/X.env.scope.names.lookup x=some .local:=by first|exact .inl rfl|exact .inr rfl|assumption):wpAny M A (storeName X.env x u) Q E s:=by
 obtain⟨m,hn,hl⟩:=id I.loc;have hcls:(X.env.scope.kind == .class || (X.env.scope.kind == .module && X.env.locals != X.env.globals))=false:=by rw[I.ok.kind];rfl
 have hiσ:i<σ.length:=by rw[I.len];exact(O3.mp hi).1
 have cne:=I.cne
 have tracked:∀{a:Addr} {h':Heap},(∃o,s.heap.get? a=some o/\H a=none)->RX a s.heap h'->HOk X.prog X.w H h':=λ{a h'} ha hs b ob e=>by
  obtain⟨_,_,hfree⟩:=ha;refine(I.hok b ob e).stay (λc w' hc q=>(hs.2 c ?_).trans q) (λ_ q=>q) λ_ _ q=>q
  rintro rfl;rcases hc with rfl|hc
  .rw[hfree] at e;cases e
  .rw[hfree] at hc;cases hc
 rcases hx with hk|hk
 .refine wpAny_storeName_local hk hn (λh' hn' hs=>?_) hcls;obtain⟨oL,_,_,hoL,_⟩:=id hn;refine h _ ⟨I.ok,I.os,I.bare,⟨λb o e n hb hx=>?_,λb o e n hb hx=>?_,I.base.free,λb o e hx=>?_,I.base.tups,I.base.frzs,I.base.tbls⟩,⟨_,hn',λj y v' e1 e2 e3=>?_⟩,λy c e=>?_,I.free,I.freeC,λp hp=>?_,tracked ⟨oL,hoL,I.free⟩ hs,by simpa using I.len⟩ ⟨_,hs,.inl rfl⟩
  .exact(hs.2 b (Qb (PL (PF e) I.ok.above))).trans (I.base.keep b o e n hb hx)
  .obtain⟨sl,e1⟩:=I.base.slot b o e n hb hx;exact⟨sl,(hs.2 b (Qb (PL (PF e) I.ok.above))).trans e1⟩
  .obtain⟨o',e1⟩:=I.base.there b o e hx;exact⟨o',(hs.2 b (Qb (PL (PF e) I.ok.above))).trans e1⟩
  .by_cases hj:j=i
   .subst hj;rw[hi] at e1;cases e1;rw[Wl hiσ] at e2;cases e2;exact⟨u,r,.inl ⟨hk,by simp⟩⟩
   .rw[WO (Vd hj)] at e2;obtain⟨u',r',q⟩:=hl j y v' e1 e2 e3;refine⟨u',r',?_⟩;rcases q with⟨k,e⟩|⟨k,c,e,z⟩
    .refine .inl ⟨k,?_⟩
     have:y≠x:=λe=>hj (tT hN e1 (e ▸ hi))
     simp[this,e]
    .exact .inr ⟨k,c,e,z.sameBut hs (cne y c e)⟩
  .obtain⟨w',z⟩:=I.cell y c e;exact⟨w',z.sameBut hs (cne y c e)⟩
  .obtain⟨e,n,ne,nf,d⟩:=I.pin p hp;exact⟨(hs.2 p.1 ne).trans e,n,ne,nf,d⟩
 .have hfn:X.fn x=true:=by
   rcases hf with z|z
   .exact z
   .rw[z] at hk;cases hk
  obtain⟨c,hc⟩:=I.ok.has x (.inl hk);obtain⟨w',z⟩:=I.cell x c hc;refine wpAny_storeName_cell I.ok.kind hk hc z (λh' Z8 hs=>?_);obtain⟨oc,hoc,hocd⟩:=id z;refine h {s with heap:=h'} ⟨I.ok,I.os,I.bare,⟨λb o e n hb hx=>?_,λb o e n hb hx=>?_,I.base.free,λb o e hx=>?_,I.base.tups,I.base.frzs,I.base.tbls⟩,⟨m,hn.sameBut hs (Vd (cne x c hc)),λj y v' e1 e2 e3=>?_⟩,λy c' e=>?_,I.free,I.freeC,λp hp=>?_,tracked ⟨oc,hoc,I.freeC x c hc⟩ hs,by simpa using I.len⟩ ⟨c,hs,.inr hc⟩
  .exact(hs.2 b (Qb (PL (PF e) (I.ok.cab x c hfn hc)))).trans (I.base.keep b o e n hb hx)
  .obtain⟨sl,e1⟩:=I.base.slot b o e n hb hx;exact⟨sl,(hs.2 b (Qb (PL (PF e) (I.ok.cab x c hfn hc)))).trans e1⟩
  .obtain⟨o',e1⟩:=I.base.there b o e hx;exact⟨o',(hs.2 b (Qb (PL (PF e) (I.ok.cab x c hfn hc)))).trans e1⟩
  .by_cases hj:j=i
   .subst hj;rw[hi] at e1;cases e1;rw[Wl hiσ] at e2;cases e2;exact⟨u,r,.inr ⟨.inl hk,c,hc,Z8⟩⟩
   .rw[WO (Vd hj)] at e2;obtain⟨u',r',q⟩:=hl j y v' e1 e2 e3;refine⟨u',r',?_⟩;rcases q with q|⟨k,c',e,z'⟩
    .exact .inl q
    .refine .inr ⟨k,c',e,z'.sameBut hs ?_⟩;rintro rfl;exact hj (tT hN e1 (I.ok.inj _ _ _ e hc ▸ hi))
  .by_cases hcc:c'=c
   .subst hcc;exact⟨_,Z8⟩
   .obtain⟨w2,z2⟩:=I.cell y c' e;exact⟨w2,z2.sameBut hs hcc⟩
  .obtain⟨e,n,ne,nf,d⟩:=I.pin p hp;refine⟨(hs.2 p.1 ?_).trans e,n,ne,nf,d⟩;intro q;rw[q,hoc] at e;have q':oc=p.2:=PD e;exact d w' (by rw[<- q'];exact hocd)
def iA{i:Nat}{x:Str}{Q:Unit->Pe->Prop}(I:Inv X ξ σ H s)(hN:X.N.Nodup)(hi:X.N[i]?=some x)(hx:Loc X.env.scope x)(r:RelV v u)
  (h:∀s',Inv X ξ (σ.set i (some v)) H s'->Q () s') (hf:X.fn x=true\/X.env.scope.names.lookup x=some .local:=by first|exact .inl rfl|exact .inr rfl|assumption):wpAny M A (storeName X.env x u) Q E s :=
 xq I hN hi hx r (λs' I' _=>h s' I') hf
def Inv.call'{s':Pe}(I:Inv X ξ σ H s)(ho:s'.os=s.os)(u:Un (vK X.stack) ch H H' s.heap s'.heap)(hok:HOk X.prog X.w H' s'.heap)(hg:VL s'.gens)
  (hch:∀b∈ch,(b∈X.ex\/X.s₀.heap.objs.size<=b)/\b≠X.env.locals/\(∀x c,X.env.cells.lookup x=some c->c≠b)/\∀p∈X.pn++ξ,p.1≠b):Inv X ξ σ H' s':=by
 obtain⟨h',g',d',t',o'⟩:=s';have e:o'=s.os:=ho;subst e;exact I.call (g':=g') (t':=t') (d':=d') u hok hg hch
end
nonrec abbrev XK:=O6->Option Addr->Hp->Prop
nonrec abbrev St:=List (Option V)
nonrec abbrev VK:=V->Hp->Prop
nonrec abbrev TE:=St->Hp->VK->Prop
nonrec abbrev TT:=St->Hp->(Bool->Hp->Prop)->Prop
nonrec abbrev TA:=St->Hp->(List V->Hp->Prop)->Prop
structure cu where
 nx:St->Hp->Prop
 rt:VK
 bk:St->Hp->Prop:=λ_ _=>False
 ct:St->Hp->Prop:=λ_ _=>False
nonrec abbrev TS:=cu->St->Hp->Prop
abbrev EP(X:Cx)(ξ:List (Addr×Obj))(σ:St)(Q:VK)(u:O6)(s':Pe):Prop:=∃v H',Inv X ξ σ H' s'/\RelV v u/\Q v H'
abbrev TP(X:Cx)(ξ:List (Addr×Obj))(σ:St)(Q:Bool->Hp->Prop)(b:Bool)(s':Pe):Prop:=∃H',Inv X ξ σ H' s'/\Q b H'
abbrev AP(X:Cx)(ξ:List (Addr×Obj))(σ:St)(Q:List V->Hp->Prop)(us:List O6)(s':Pe):Prop:=∃vs H',Inv X ξ σ H' s'/\Vals vs us/\Q vs H'
abbrev SP(X:Cx)(ξ:List (Addr×Obj))(D:cu)(f:Flow)(s':Pe):Prop :=
 match f with
 |.next=>∃σ' H',Inv X ξ σ' H' s'/\D.nx σ' H'
 |.brk=>∃σ' H',Inv X ξ σ' H' s'/\D.bk σ' H'
 |.cont=>∃σ' H',Inv X ξ σ' H' s'/\D.ct σ' H'
 |.ret u=>∃v σ' H',Inv X ξ σ' H' s'/\RelV v u/\D.rt v H'
abbrev PE(X:Cx)(e:Expr)(t:TE):Prop :=
 ∀(ξ:List (Addr×Obj)) (s:Pe) (σ:St) (H:Hp) (Q:VK),Inv X ξ σ H s->t σ H Q->wpAny (model X.prog X.w) X.A (eval e X.env) (EP X ξ σ Q) X.xe s
abbrev PT(X:Cx)(e:Expr)(t:TT):Prop :=
 ∀(ξ:List (Addr×Obj)) (s:Pe) (σ:St) (H:Hp) (Q:Bool->Hp->Prop),Inv X ξ σ H s->t σ H Q->wpAny (model X.prog X.w) X.A (isTrue e X.env (eval e X.env)) (TP X ξ σ Q) X.xe s
abbrev PW(X:Cx)(e:Expr)(t:TT):Prop :=
 ∀(whole:Sem O6) (ξ:List (Addr×Obj)) (s:Pe) (σ:St) (H:Hp) (Q:Bool->Hp->Prop),Inv X ξ σ H s->t σ H Q->wpAny (model X.prog X.w) X.A (isTrue e X.env whole) (TP X ξ σ Q) X.xe s
def PW.pt(h:PW X e t):PT X e t:=h _
abbrev PA(X:Cx)(es:List Expr)(t:TA):Prop :=
 ∀(pos:Pos) (ξ:List (Addr×Obj)) (s:Pe) (σ:St) (H:Hp) (Q:List V->Hp->Prop),Inv X ξ σ H s->t σ H Q->wpAny (model X.prog X.w) X.A (spliced (backTo pos (starEach es X.env))) (AP X ξ σ Q) X.xe s
abbrev PS(X:Cx)(st:Stmt)(t:TS):Prop :=
 ∀(ξ:List (Addr×Obj)) (s:Pe) (σ:St) (H:Hp) (D:cu),Inv X ξ σ H s->t D σ H->wpAny (model X.prog X.w) X.A (exec st X.env) (SP X ξ D) X.xe s
abbrev PSs(X:Cx)(st:List Stmt)(t:TS):Prop :=
 ∀(ξ:List (Addr×Obj)) (s:Pe) (σ:St) (H:Hp) (D:cu),Inv X ξ σ H s->t D σ H->wpAny (model X.prog X.w) X.A (execs st X.env) (SP X ξ D) X.xe s
def bf{α:Type}{t:Sem α}{Q Q':α->Pe->Prop}(h:wpAny M A t Q E s)(hQ:∀a s,Q a s->Q' a s):wpAny M A t Q' E s:=Rf h hQ λ_ _ x=>x
section
variable{X:Cx}
abbrev aa(i:Nat):TE:=λσ H Q=>∃v,σ[i]?=some (some v)/\Q v H
abbrev tC(v:V):TE:=λ_ H Q=>Q v H
def Ks{i:Nat} {x:Str}  (hN:X.N[i]?=some x) (hv:MW X.env.scope x) (hd:(x == ("__debug__":Str))=false:=by decide) (hcd:(x == ("__classdict__":Str))=false:=by decide):PE X (.Name x pos) (aa i):=by
 intro ξ s σ H Q I h;obtain⟨v,e,h⟩:=h;obtain⟨m,hn,hl⟩:=I.loc;obtain⟨u,r,l⟩:=hl i x v hN e hv;have fin:EP X ξ σ Q u s:=⟨v,H,I,r,h⟩
 rcases l with⟨hk,hm⟩|⟨hk,c,hc,hcell⟩
 .exact wpAny_Name (wpAny_loadName_local I.ok.kind hk hn hm fin) hd
 .rcases hk with hk|hk
  .exact wpAny_Name (wpAny_loadName_cell I.ok.kind hk hc hcell fin) hd
  .exact wpAny_Name (wpAny_loadName_free I.ok.kind hk hc hcell fin hcd) hd
def KD{i j pos}:PE X (.Constant (.int i) j pos) (tC (.int i)):=λ_ _ _ H _ I h=>wpAny_Constant_int ⟨.int i,H,I.tok _,⟨_,rfl⟩,h⟩
def Nl{b j pos}:PE X (.Constant (.bool b) j pos) (tC (.bl b)):=λ_ _ _ H _ I h=>Constant_bool ⟨.bl b,H,I,rfl,h⟩
def Kx{j pos}:PE X (.Constant .none j pos) (tC .non):=λ_ _ _ H _ I h=>Constant_none ⟨.non,H,I,rfl,h⟩
def Ku{x j pos}:PE X (.Constant (.str x) j pos) (tC (.str x)):=λ_ _ _ H _ I h=>Calls.Constant_str ⟨.str x,H,I.tok _,⟨_,rfl⟩,h⟩
abbrev Gl(X:Cx)(x:Str):Prop:=X.env.kindOf x=some .globalImplicit
def zq{H:Hp}{u:O6}{Q:O6->Pe->Prop}(I:Inv X ξ σ H s)(hg:Gl X x)(hm:X.mg x=some u)(h:Q u s)
  (hd:(x == ("__debug__":Str))=false:=by decide):wpAny (model X.prog X.w) X.A (eval (.Name x pos) X.env) Q E s :=
 Vq I.ok.kind hg (Calls.loadGlobal_global (by rw[I.ok.glob];exact I.mod.glob.keeps I.bk) hm h) hd
def eE{H:Hp}{u:O6}{Q:O6->Pe->Prop}(I:Inv X ξ σ H s)(hg:Gl X x)(hm:X.mg x=none)(hv:bootBuiltins x=some u)(h:Q u s)
  (hn:x≠"__name__":=by decide) (hd:(x == ("__debug__":Str))=false:=by decide):wpAny (model X.prog X.w) X.A (eval (.Name x pos) X.env) Q E s:=by
 obtain⟨mb,h1,h2⟩:=I.mod.blt;exact Vq I.ok.kind hg (Calls.loadGlobal_builtin (by rw[I.ok.glob];exact I.mod.glob.keeps I.bk) hm (by rw[I.ok.blt];exact h1.keeps I.bk) ((h2 x hn).trans hv) h) hd
def yK{u:O6}  (hg:Gl X x) (hm:X.mg x=some u) (r:RelV v u) (hd:(x == ("__debug__":Str))=false:=by decide):PE X (.Name x pos) (tC v) :=
 λ_ _ _ H _ I h=>zq I hg hm ⟨v,H,I,r,h⟩ hd
def yL{u:O6}  (hg:Gl X x) (hm:X.mg x=none) (hv:bootBuiltins x=some u) (r:RelV v u) (hn:x≠"__name__":=by decide) (hd:(x == ("__debug__":Str))=false:=by decide):PE X (.Name x pos) (tC v) :=
 λ_ _ _ H _ I h=>eE I hg hm hv ⟨v,H,I,r,h⟩ hn hd
variable{a b:Expr}{ta tb:TE}{pos:Pos}
abbrev PC(X:Cx)(op:CmpOp)(a b:Expr)(t:TE):Prop :=
 ∀(ξ:List (Addr×Obj)) (s:Pe) (σ:St) (H:Hp) (Q:VK),Inv X ξ σ H s->t σ H Q ->
  wpAny (model X.prog X.w) X.A (eval a X.env) (λv s₁=>wpAny (model X.prog X.w) X.A (eval b X.env) (λu s₂=>wpAny (model X.prog X.w) X.A (compareOp op v u) (EP X ξ σ Q) X.xe s₂) X.xe s₁) X.xe s
abbrev tB(t:TE):TT:=λσ H Q=>t σ H λx H1=>∃c,x=.bl c/\Q c H1
def Kc(h:PC X op a b t)(h1:behindInMarks op b=false:=by first|exact nobehind _ (by decide) (by decide)|rfl):PT X (.Compare a [op] [b] pos) (tB t):=by
 intro ξ s σ H Q I hw;refine WH (bf (h ξ s σ H _ I hw) λv s1 h1=>bf h1 λu s2 h2=>bf h2 λc s3 ω=>?_) h1;obtain⟨x,H1,I1,r1,q1⟩:=ω;obtain⟨d,rfl,q⟩:=q1;cases r1;exact Ry ⟨H1,I1,q⟩
def J_(h:PE X e t)(he:∀whole,isTrue e X.env whole=(do let v <- whole;standAt e.pos;holding [v] (truthy v)):=by intro _;rfl):PT X e (tB t):=by
 intro ξ s σ H Q I hw;refine isTrue_plain (bf (h ξ s σ H _ I hw) λv s1 ω=>?_) (he _);obtain⟨x,H1,I1,r1,q1⟩:=ω;obtain⟨d,rfl,q⟩:=q1;cases r1;exact Ry ⟨H1,I1,q⟩
variable{tA tB':TT}{rest:List Expr}
abbrev jR(t u:TT):TT:=λσ H Q=>t σ H λc H1=>if c=true then u σ H1 Q else Q false H1
abbrev Jl(t u:TT):TT:=λσ H Q=>t σ H λc H1=>if c=true then Q true H1 else u σ H1 Q
abbrev iL(t:TT):TT:=λσ H Q=>t σ H λc H1=>Q (!c) H1
def pw_and1(ha:PT X a tA):PW X (.BoolOp .And [a] pos) tA:=by
 intro wh ξ s σ H Q I h;refine isTrue_and (bf (ha ξ s σ H Q I h) λc s1 e=>?_);cases c with
 |true=>exact isTrue_and_nil e
 |false=>exact e
def pw_or1(ha:PT X a tA):PW X (.BoolOp .Or [a] pos) tA:=by
 intro wh ξ s σ H Q I h;refine isTrue_or (bf (ha ξ s σ H Q I h) λc s1 e=>?_);cases c with
 |false=>exact isTrue_or_nil e
 |true=>exact e
def pw_and(ha:PT X a tA)(hb:PW X (.BoolOp .And (b :: rest) pos) tB'):PW X (.BoolOp .And (a :: b :: rest) pos) (jR tA tB'):=by
 intro wh ξ s σ H Q I h;refine isTrue_and (bf (ha ξ s σ H _ I h) λc s1 ω=>?_);obtain⟨H1,I1,q1⟩:=ω;cases c with
 |true=>exact hb wh ξ s1 σ H1 Q I1 q1
 |false=>exact⟨H1,I1,q1⟩
def pw_or(ha:PT X a tA)(hb:PW X (.BoolOp .Or (b :: rest) pos) tB'):PW X (.BoolOp .Or (a :: b :: rest) pos) (Jl tA tB'):=by
 intro wh ξ s σ H Q I h;refine isTrue_or (bf (ha ξ s σ H _ I h) λc s1 ω=>?_);obtain⟨H1,I1,q1⟩:=ω;cases c with
 |true=>exact⟨H1,I1,q1⟩
 |false=>exact hb wh ξ s1 σ H1 Q I1 q1
def Kb(ha:PT X a tA):PT X (.UnaryOp .Not a pos) (iL tA):=by
 intro ξ s σ H Q I h;exact isTrue_not (ha ξ s σ H (λc H1=>Q (!c) H1) I h)
abbrev BX(ta tb:TE):TE:=λσ H Q=>ta σ H λx H1=>∃c,x=.bl c/\if c=true then tb σ H1 Q else Q (.bl false) H1
abbrev JB(ta:TE):TE:=λσ H Q=>ta σ H λx H1=>∃c,x=.bl c/\Q (.bl (!c)) H1
def Kv{op}(h:PE X a t):PE X (.BoolOp op [a] pos) t:=λξ s σ H Q I hw=>BoolOp_one (h ξ s σ H Q I hw)
def KF(ha:PE X a ta)(hb:PE X (.BoolOp .And (b :: rest) pos) tb):PE X (.BoolOp .And (a :: b :: rest) pos) (BX ta tb):=by
 intro ξ s σ H Q I h;refine BoolOp_and (bf (ha ξ s σ H _ I h) λv s1 ω=>?_);obtain⟨x,H1,I1,r1,q1⟩:=ω;obtain⟨c,rfl,q1⟩:=q1;cases r1;refine Ry ?_;cases c with
 |true=>exact hb ξ s1 σ H1 Q I1 q1
 |false=>exact⟨.bl false,H1,I1,rfl,q1⟩
def Kw(ha:PE X a ta):PE X (.UnaryOp .Not a pos) (JB ta):=by
 intro ξ s σ H Q I h;refine UnaryOp_ (bf (ha ξ s σ H _ I h) λv s1 ω=>?_);obtain⟨x,H1,I1,r1,q1⟩:=ω;obtain⟨c,rfl,q1⟩:=q1;cases r1;exact not_of (Ry ⟨.bl (!c),H1,I1,rfl,q1⟩)
abbrev JC(t:TT)(ta tb:TE):TE:=λσ H Q=>t σ H λc H1=>if c=true then ta σ H1 Q else tb σ H1 Q
def Db(hc:PT X c tA)(ha:PE X a ta)(hb:PE X b tb):PE X (.IfExp c a b pos) (JC tA ta tb):=by
 intro ξ s σ H Q I h;refine wpAny_IfExp (bf (hc ξ s σ H _ I h) λd s1 ω=>?_);obtain⟨H1,I1,q1⟩:=ω;cases d with
 |true=>exact ha ξ s1 σ H1 Q I1 q1
 |false=>exact hb ξ s1 σ H1 Q I1 q1
end
abbrev SqL(K:Fg)(H:Hp)(a:Addr)(xs:List V):Prop :=
 Rd H a (.lst xs) \/
  ∃(o:Obj) (gV:Array O6) (n:Nat),K.lookup a=some o/\o.cls=.type "list"/\o.dict=none/\o.data=.seq gV n/\gV.size<=sizeLine/\Vals xs gV.toList
abbrev SqT(K:Fg)(H:Hp)(a:Addr)(xs:List V):Prop :=
 Rd H a (.tup xs) \/
  ∃(o:Obj) (gV:Array O6) (n:Nat),K.lookup a=some o/\o.cls=.type "tuple"/\o.data=.seq gV n/\gV.size<=sizeLine/\Vals xs gV.toList
abbrev Ow:O6->Option V
 |.none=>some .non
 |.bool b=>some (.bl b)
 |.int i _=>↥i
 |.str x _=>some (.str x)
 |.bytes b _=>some (.byt b)
 |.float b _=>some (.flt b)
 |.ref a=>⇑a
 |.type n=>some (.ty n)
 |_=>none
def RelV.abs(r:RelV x u):Ow u=some x:=by
 cases x with
 |non=>cases r;rfl
 |bl _=>cases r;rfl
 |int _=>obtain⟨t,rfl⟩:=r;rfl
 |str _=>obtain⟨t,rfl⟩:=r;rfl
 |byt _=>obtain⟨t,rfl⟩:=r;rfl
 |flt _=>obtain⟨t,rfl⟩:=r;rfl
 |ref _=>cases r;rfl
 |ty _=>cases r;rfl
def RelV.inj(r:RelV x u)(q:RelV y u):x=y:=PD (r.abs.symm.trans q.abs)
def Vals.inj:∀{xs ys:List V} {us:List O6},Vals xs us->Vals ys us->xs=ys
 |_,_,_,.nil,.nil=>rfl
 |_,_,_,.cons r t,.cons r' t'=>by rw[r.inj r',Vals.inj t t']
section
variable{X:Cx}{ξ:List (Addr×Obj)}{σ:St}{H:Hp}{s:Pe}{a:Addr}{xs ys:List V}
def SqL.of{K:Fg}(h:H a=some (.lst xs)):SqL K H a xs:=.inl (.inl h)
def SqT.of{K:Fg}(h:H a=some (.tup xs)):SqT K H a xs:=.inl (.inl h)
def Inv.list(I:Inv X ξ σ H s)(h:SqL X.K H a xs):∃gV:List O6,Vals xs gV/\PlainL s.heap a gV.toArray/\xs.length<=sizeLine:=by
 rcases h with h|⟨o,gV,n,hk,hc,hd,hs,hz,r⟩
 .obtain⟨z,gV,n,r,e⟩:=h.ok I.hok;exact⟨gV,r,⟨_,n,e,rfl,rfl,rfl⟩,z⟩
 .refine⟨gV.toList,r,⟨o,n,I.kIn a o hk,hc,hd,by simpa using hs⟩,?_⟩;have e:=r.length;simp only[P1] at e;lia
def Inv.tuple(I:Inv X ξ σ H s)(h:SqT X.K H a xs):∃gV:List O6,Vals xs gV/\IsTup s.heap a gV.toArray/\xs.length<=sizeLine:=by
 rcases h with h|⟨o,gV,n,hk,hc,hs,hz,r⟩
 .obtain⟨z,gV,r,p⟩:=h.ok I.hok;exact⟨gV,r,p.tup,z⟩
 .refine⟨gV.toList,r,⟨o,I.kIn a o hk,hc,n,by simpa using hs⟩,?_⟩;have e:=r.length;simp only[P1] at e;lia
def Inv.mI(I:Inv X ξ σ H s)(h:SqL X.K H a xs)(h':SqL X.K H a ys):xs=ys:=by
 obtain⟨gV,r,⟨o,n,e,_,_,d⟩,_⟩:=I.list h;obtain⟨its',r',⟨o',n',e',_,_,d'⟩,_⟩:=I.list h';rw[e] at e';cases e';rw[d] at d';injection d' with d1 _
 have:gV=its':=by simpa using congrArg Array.toList d1
 subst this;exact r.inj r'
def Inv.nM(I:Inv X ξ σ H s)(h:SqT X.K H a xs)(h':SqT X.K H a ys):xs=ys:=by
 obtain⟨gV,r,⟨o,e,_,n,d⟩,_⟩:=I.tuple h;obtain⟨its',r',⟨o',e',_,n',d'⟩,_⟩:=I.tuple h';rw[e] at e';cases e';rw[d] at d';injection d' with d1 _
 have:gV=its':=by simpa using congrArg Array.toList d1
 subst this;exact r.inj r'
end
nonrec abbrev Cx.wish(X:Cx)(E:O6->Pe->Prop):Cx:={X with xe:=E}
nonrec abbrev Cx.nox(X:Cx):Cx:=X.wish λ_ _=>False
def Cx.Ok.wish{X:Cx}(ok:X.Ok)(E:O6->Pe->Prop):(X.wish E).Ok :=
 ⟨ok.mod,ok.kind,ok.glob,ok.blt,ok.above,ok.inj,ok.has,ok.cab,ok.hd,ok.frames,ok.stk,ok.exf,ok.bs,ok.bsz,ok.noex,ok.exfs,ok.funs,ok.frf⟩
def Cx.Ok.gQ{X:Cx}(ok:(X.wish E).Ok):X.Ok :=
 ⟨ok.mod,ok.kind,ok.glob,ok.blt,ok.above,ok.inj,ok.has,ok.cab,ok.hd,ok.frames,ok.stk,ok.exf,ok.bs,ok.bsz,ok.noex,ok.exfs,ok.funs,ok.frf⟩
section
variable{X:Cx}{ξ:List (Addr×Obj)}{σ:St}{H:Hp}{s:Pe}{E:O6->Pe->Prop}
def Inv.wish(I:Inv X ξ σ H s)(E:O6->Pe->Prop):Inv (X.wish E) ξ σ H s:=⟨I.ok.wish E,I.os,I.bare,I.base,I.loc,I.cell,I.free,I.freeC,I.pin,I.hok,I.len⟩
def Inv.gQ(I:Inv (X.wish E) ξ σ H s):Inv X ξ σ H s:=⟨I.ok.gQ,I.os,I.bare,I.base,I.loc,I.cell,I.free,I.freeC,I.pin,I.hok,I.len⟩
def SP.gQ{D:cu}(h:SP (X.wish E) ξ D f s'):SP X ξ D f s':=by
 cases f with
 |next=>obtain⟨σ',H',I,q⟩:=h;exact⟨σ',H',I.gQ,q⟩
 |brk=>obtain⟨σ',H',I,q⟩:=h;exact⟨σ',H',I.gQ,q⟩
 |cont=>obtain⟨σ',H',I,q⟩:=h;exact⟨σ',H',I.gQ,q⟩
 |ret u=>obtain⟨v,σ',H',I,r,q⟩:=h;exact⟨v,σ',H',I.gQ,r,q⟩
def PSs.nox{st:List Stmt}(h:PSs X.nox st t):PSs X st t:=λξ s σ H D I hw =>
 Rf (h ξ s σ H D (I.wish _) hw) (λ_ _ q=>q.gQ) λ_ _ z=>SY z
end
section
variable{X:Cx}{st:Stmt}{rest:List Stmt}{t u:TS}{e:Expr}{te:TE}{pos:Pos}
abbrev bw:TS:=λD σ H=>D.nx σ H
abbrev aq(t u:TS):TS:=λD σ H=>t {D with nx:=u D} σ H
def Hv:PSs X [] bw:=λ_ _ σ H _ I h=>U1 ⟨σ,H,I,h⟩
def CZ(h1:PS X st t)(h2:PSs X rest u):PSs X (st :: rest) (aq t u):=by
 intro ξ s σ H D I h;refine wpAny_execs_cons (bf (h1 ξ s σ H {D with nx:=u D} I h) λf s1 q=>?_);cases f with
 |next =>
  obtain⟨σ',H',I',q⟩:=q;exact h2 ξ s1 σ' H' D I' q
 |ret v=>exact q
 |brk=>exact q
 |cont=>exact q
def Hu(h1:PS X st t):PSs X [st] t:=by
 intro ξ s σ H D I h;refine wpAny_execs_cons (bf (h1 ξ s σ H D I h) λf s1 q=>?_);cases f with
 |next=>exact U1 q
 |ret v=>exact q
 |brk=>exact q
 |cont=>exact q
def Inv.quiet{H:Hp}(I:Inv X ξ σ H s):interactive X.env=false:=by simp[interactive,I.ok.kind]
abbrev bM(te:TE):TS:=λD σ H=>te σ H λ_ H1=>D.nx σ H1
def Hw(he:PE X e te)(hs:swapsWith e none pos.line X.env=pure false:=by rfl):PS X (.Expr e pos) (bM te):=by
 intro ξ s σ H D I h;exact wpAny_Expr_any (bf (he ξ s σ H _ I h) (by rintro v s1 ⟨x,H1,I1,r1,q1⟩;exact ⟨σ,H1,I1,q1⟩)) I.quiet hs
abbrev aI(te:TE):TS:=λD σ H=>te σ H D.rt
def Kg(he:PE X e te):PS X (.Return (some e) pos) (aI te):=by
 intro ξ s σ H D I h;exact wpAny_Return_some (bf (he ξ s σ H _ I h) (by rintro v s1 ⟨x,H1,I1,r1,q1⟩;exact ⟨x,σ,H1,I1,r1,q1⟩))
abbrev a8(c:TT)(t u:TS):TS:=λD σ H=>c σ H λb H1=>if b=true then t D σ H1 else u D σ H1
def Nh(hc:PT X c tc)(ha:PSs X a t)(hb:PSs X b u):PS X (.If c a b pos) (a8 tc t u):=by
 intro ξ s σ H D I h;refine wpAny_If (bf (hc ξ s σ H _ I h) λd s1 ω=>?_);obtain⟨H1,I1,q1⟩:=ω;cases d with
 |true=>exact ha ξ s1 σ H1 D I1 q1
 |false=>exact hb ξ s1 σ H1 D I1 q1
abbrev iM:TS:=λ_ _ _=>False
def yu:PSs X sts iM:=λ_ _ _ _ _ _ h=>h.elim
end
nonrec abbrev TG:=V->St->Hp->(St->Hp->Prop)->Prop
nonrec abbrev Ew:=List V->St->Hp->(St->Hp->Prop)->Prop
abbrev PG(X:Cx)(target:Expr)(t:TG):Prop :=
 ∀(ξ:List (Addr×Obj)) (s:Pe) (σ:St) (H:Hp) (v:V) (u:O6) (Q:St->Hp->Prop),Inv X ξ σ H s->RelV v u->t v σ H Q ->
  wpAny (model X.prog X.w) X.A (assign target X.env u) (λ_ s'=>∃σ' H',Inv X ξ σ' H' s'/\Q σ' H') X.xe s
abbrev Jm(X:Cx)(ts:List Expr)(t:Ew):Prop :=
 ∀(ξ:List (Addr×Obj)) (s:Pe) (σ:St) (H:Hp) (vs:List V) (us:List O6) (Q:St->Hp->Prop),Inv X ξ σ H s->Vals vs us->t vs σ H Q ->
  wpAny (model X.prog X.w) X.A (assignInOrder ((assignEach ts X.env).map (·.2)) us) (λ_ s'=>∃σ' H',Inv X ξ σ' H' s'/\Q σ' H') X.xe s
nonrec abbrev Eu:=V->V->V->Hp->(Hp->Prop)->Prop
abbrev MD(X:Cx)(t:Eu):Prop :=
 ∀(ξ:List (Addr×Obj)) (s:Pe) (σ:St) (H:Hp) (o i v:V) (ov iv u:O6) (Q:Hp->Prop),Inv X ξ σ H s->RelV o ov->RelV i iv->RelV v u->t o i v H Q ->
  wpAny (model X.prog X.w) X.A (setItem ov iv u) (λ_ s'=>∃H',Inv X ξ σ H' s'/\Q H') X.xe s
section
variable{X:Cx}{pos:Pos}
abbrev al(i:Nat):TG:=λv σ H Q=>Q (σ.set i (some v)) H
def yJ{i:Nat}{x:Str}(hN:X.N.Nodup)(hi:X.N[i]?=some x)(hx:Loc X.env.scope x)(hf:X.fn x=true\/X.env.scope.names.lookup x=some .local:=by first|exact .inl rfl|exact .inr rfl|assumption):PG X (.Name x pos) (al i):=by
 intro ξ s σ H v u Q I r h;exact wpAny_assign_Name (iA I hN hi hx r (λs' I'=>⟨_,H,I',h⟩) hf)
abbrev ci:Ew:=λvs σ H Q=>vs=[]/\Q σ H
abbrev aT(t:TG)(u:Ew):Ew:=λvs σ H Q=>∃v r,vs=v :: r/\t v σ H λσ' H'=>u r σ' H' Q
def HJ:Jm X [] ci:=by
 intro ξ s σ H vs us Q I r h;obtain⟨e,h⟩:=h;subst e;cases r;exact assignInOrder_nil ⟨σ,H,I,h⟩
def C_(h1:PG X e t)(h2:Jm X es u)
  (hs:(assignEach (e :: es) X.env).map (·.2)=assign e X.env :: (assignEach es X.env).map (·.2):=by rfl):Jm X (e :: es) (aT t u):=by
 intro ξ s σ H vs us Q I r h;obtain⟨v,vr,e1,h⟩:=h;subst e1;cases r with
 |cons r rr =>
  rw[hs];refine Vr (bf (h1 ξ s σ H _ _ _ I r h) λ_ s1 ω=>?_);obtain⟨σ1,H1,I1,q1⟩:=ω;exact h2 ξ s1 σ1 H1 _ _ Q I1 rr q1
abbrev cg(K:Fg)(n:Nat)(t:Ew):TG:=λv σ H Q=>∃a xs,v=.ref a/\SqT K H a xs/\xs.length=n/\t xs σ H Q
def Kq{n:Nat}(hc:X.calm=true)(h:Jm X es t)
  (hn:(assignEach es X.env).length=n:=by rfl) (hst:(assignEach es X.env).findIdx? (·.1)=none:=by rfl):PG X (.Tuple es k pos) (cg X.K n t):=by
 intro ξ s σ H v u Q I r hw;obtain⟨a,xs,e1,hq,hl,hw⟩:=hw;subst e1;cases r;obtain⟨gV,rv,ht,hz⟩:=I.tuple hq;refine assign_Tuple_tuple (I.ok.hd hc) ht (by simp[hn,<- hl,rv.length]) hst λh' hx=>?_
 have I1:Inv X ξ σ H {s with heap:=h'}:=I.kept (t':=s.toks) λb o e=>hx b o (Qb (PF e)) e
 exact h ξ _ σ H xs _ Q I1 (by simpa using rv) hw
abbrev D6(to ti:TE)(t:Eu):TG:=λv σ H Q=>to σ H λo H1=>ti σ H1 λi H2=>t o i v H2 λH3=>Q σ H3
def Kr(ho:PE X o to)(hi:PE X i ti)(hs:MD X t)
  (ha:∀v,assign (.Subscript o i pos) X.env v=(do
   let ov <- holding [v] (eval o X.env)
   let iv <- holding [v,ov] (eval i X.env)
   standAt pos
   holding [v,ov,iv] (setItem ov iv v)
   release [v,ov,iv] []):=by intro _;rfl):PG X (.Subscript o i pos) (D6 to ti t):=by
 intro ξ s σ H v u Q I r h;rw[ha];refine O5 (R_ (bf (ho ξ s σ H _ I h) λov s1 ω=>?_));obtain⟨x,H1,I1,r1,q1⟩:=ω;refine O5 (R_ (bf (hi ξ s1 σ H1 _ I1 q1) λiv s2 ω=>?_));obtain⟨y,H2,I2,r2,q2⟩:=ω;refine O5 (Xh (O5 (R_ (bf (hs ξ s2 σ H2 x y v ov iv u _ I2 r1 r2 r q2) λ_ s3 ω=>?_))));obtain⟨H3,I3,q3⟩:=ω;exact wpAny_release ⟨σ,H3,I3,q3⟩
abbrev av(te:TE)(g:TG):TS:=λD σ H=>te σ H λx H1=>g x σ H1 D.nx
def Kj(he:PE X e te)(hg:PG X tg g)(hs:swapsWithSole [tg] e pos.line X.env=pure false:=by rfl)(hw:swappedStores [tg] e X.env=pure none:=by rfl)
  (h1:(assignEach [tg] X.env).map (·.2)=[assign tg X.env]:=by rfl):PS X (.Assign [tg] e pos) (av te g):=by
 intro ξ s σ H D I h;refine wpAny_Assign_stores (bf (he ξ s σ H _ I h) λv s1 ω=>?_) hs hw;obtain⟨x,H1,I1,r1,q1⟩:=ω;rw[h1];exact bf (hg ξ s1 σ H1 x v _ I1 r1 q1) λ_ s2 q=>q
def Kf{i:Nat}{x:Str}(hN:X.N.Nodup)(hi:X.N[i]?=some x)(hx:Loc X.env.scope x)(he:PE X e te)(hs:swapsWith e (some (.Name x pos')) pos.line X.env=pure false:=by rfl)(hf:X.fn x=true\/X.env.scope.names.lookup x=some .local:=by first|exact .inl rfl|exact .inr rfl|assumption) :
  PS X (.Assign [.Name x pos'] e pos) (av te (al i)):=by
 intro ξ s σ H D I h;refine wpAny_Assign_Name (bf (he ξ s σ H _ I h) λv s1 ω=>?_) hs;obtain⟨y,H1,I1,r1,q1⟩:=ω;exact iA I1 hN hi hx r1 (λs2 I2=>⟨_,H1,I2,q1⟩) hf
abbrev JA(i j:Nat)(ta:TA):TS:=λD σ H=>ta σ H λvs H1=>∃v w,vs=[v,w]/\D.nx ((σ.set i (some v)).set j (some w)) H1
def Kh{i j:Nat}{x y:Str}{a b:Expr}{ta:TA}{pt:Pos}{kt k2 pt2}(hc:X.calm=true)(hN:X.N.Nodup)(hi:X.N[i]?=some x)(hj:X.N[j]?=some y)(hij:i≠j)
  (hx:X.env.scope.names.lookup x=some .local) (hy:X.env.scope.names.lookup y=some .local) (ha:PA X [a,b] ta)
  (hw:swappedStores [.Tuple [.Name x px,.Name y py] kt pt] (.Tuple [a,b] k2 pt2) X.env=pure (some [x,y]))
  (hs:swapsWithSole [.Tuple [.Name x px,.Name y py] kt pt] (.Tuple [a,b] k2 pt2) pos.line X.env=pure false:=by rfl) :
  PS X (.Assign [.Tuple [.Name x px,.Name y py] kt pt] (.Tuple [a,b] k2 pt2) pos) (JA i j ta):=by
 intro ξ s σ H D I h;rw[exec_Assign_arm];refine O5 (Xh ?_);rw[hs];refine O5 (Pt ?_);rw[if_neg (by decide)];refine O5 (Tuple_ (bf (ha _ ξ s σ H _ I h) λus s1 ω=>?_));obtain⟨vs,H1,I1,r1,q1⟩:=ω;obtain⟨v,w,e1,q1⟩:=q1;subst e1
 obtain⟨u1,u2,rfl,rv,rw'⟩:∃u1 u2,us=[u1,u2]/\RelV v u1/\RelV w u2:=by
  cases r1 with
  |cons p q =>
   cases q with
   |cons p' q' =>
    cases q';exact⟨_,_,rfl,p,p'⟩
 refine Q7 ?_ (by show 2<=sizeLine;decide);have I2:Inv X ξ σ H1 {s1 with heap:=s1.heap.push {cls:=.type "tuple",data:=.seq [u1,u2].toArray}}:=I1.kept (t':=s1.toks) λb o e=>Pf _ e
 rw[hw];refine O5 (Pt ?_);show wpAny (model X.prog X.w) X.A (do rule "assign.swapped-stores";let items <- unpackItems (.ref s1.heap.objs.size) 2 none;assignInOrder [λv=>bindName X.env y v,λv=>bindName X.env x v] items.reverse;pure Flow.next) _ _ _;refine O5 (Wm (O5 (unpackItems_tuple (items:=#[u1,u2]) (I.ok.hd hc) (IsTup.new s1.heap _) λh' hx'=>?_)));have I3:=I2.kept (h':=h') (t':=s1.toks) λb o e=>hx' b o (Qb (PF e)) e
 show wpAny _ _ (assignInOrder [λv=>bindName X.env y v,λv=>bindName X.env x v] [u2,u1] >>= λ_=>pure Flow.next) _ _ _;refine O5 (Vr (wpAny_bindName (iA I3 hN hj (.inl hy) rw' (λs2 I4=>?_) (.inr hy))));refine Vr (wpAny_bindName (iA I4 hN hi (.inl hx) rv (λs3 I5=>assignInOrder_nil (Pt ?_)) (.inr hx)));rw[List.set_comm _ _ (Vd hij)] at I5;exact⟨_,H1,I5,q1⟩
end
section
variable{X:Cx}{pos:Pos}
abbrev gR(c:TT)(tb:TS):TS:=λD σ H=>∃W:Nat->St->Hp->Prop,(∃m,W m σ H)/\∀m σ H,W m σ H ->
 c σ H λb H1=>if b=true then ∃N:St->Hp->Prop,(∀σ' H',N σ' H'->∃m',m'<m/\W m' σ' H')/\tb {D with nx:=N,ct:=N,bk:=D.nx} σ H1 else D.nx σ H1
def C0(hp:PassesOwn (model X.prog X.w) X.A X.env X.xe)(hc:PT X c tc)(hb:PSs X body tb):PS X (.While c body [] pos) (gR tc tb):=by
 intro ξ s σ H D I h;obtain⟨W,⟨m0,w0⟩,turn⟩:=h;refine wpAny_While (codeAny_whileLoop (λn s'=>∃σ' H',Inv X ξ σ' H' s'/\W n σ' H') ?_ m0 ⟨σ,H,I,w0⟩);rintro n s1 ⟨σ1,H1,I1,w1⟩;refine Sr hp (bf (hc ξ s1 σ1 H1 _ I1 (turn n σ1 H1 w1)) λb s2 ω=>?_);obtain⟨H2,I2,q2⟩:=ω;cases b with
 |true =>
  obtain⟨N,hN,q2⟩:=q2;rw[if_pos rfl];refine Sr hp (bf (hb ξ s2 σ1 H2 _ I2 q2) λf s3 q3=>?_);cases f with
  |next =>
   obtain⟨σ3,H3,I3,n3⟩:=q3;obtain⟨m',hm,w3⟩:=hN σ3 H3 n3;exact⟨m',hm,σ3,H3,I3,w3⟩
  |cont =>
   obtain⟨σ3,H3,I3,n3⟩:=q3;obtain⟨m',hm,w3⟩:=hN σ3 H3 n3;exact⟨m',hm,σ3,H3,I3,w3⟩
  |brk=>exact q3
  |ret v=>exact q3
 |false =>
  rw[if_neg PZ];exact U1 ⟨σ1,H2,I2,q2⟩
end
structure It where
 go:Nat->Hp->Prop
 yld:Nat->Hp->V->Hp->Prop
 stop:Nat->Hp->Prop
abbrev ir(X:Cx)(ξ:List (Addr×Obj))(H:Hp)(b:Addr):Prop :=
 H b=none/\b≠X.env.locals/\b∉X.fs/\(b∈X.ex\/X.s₀.heap.objs.size<=b)/\(∀x c,X.env.cells.lookup x=some c->c≠b)/\∀p∈X.pn++ξ,p.1≠b
def Inv.fpOk{H H':Hp}{b:Addr}(I:Inv X ξ σ H s)(hb:s.heap.objs.size<=b)(hn:H' b=none):ir X ξ H' b:=by
 refine⟨hn,SZ (PL I.lt hb),I.nofs hb,.inr (Pj I.sz hb),λx c e z=>?_,λp hp z=>?_⟩
 .obtain⟨v,q⟩:=I.cell x c e;exact absurd (PL q.lt (by rw[z];exact hb)) (R5 _)
 .exact absurd (PL (PF (I.pin p hp).1) (by rw[z];exact hb)) (R5 _)
structure sD (P:P6) (w:Qp) (K:Fg) (tg:Expr) (J:It) (fp:List Addr) (it:Addr) (tn:Nat->Heap->Prop):Prop where
 mem:it∈fp
 obj:∀i h,tn i h->∀b∈fp,∃o,h.get? b=some o/\∀v,o.data≠.cell v
 keep:∀i h h',tn i h->(∀b∈fp,∀o,h.get? b=some o->h'.get? b=some o)->tn i h'
 item:∀(X:Cx),X.prog=P->X.w=w->X.K=K->X.calm=true->∀(i:Nat) (ξ:List (Addr×Obj)) (s:Pe) (σ:St) (H:Hp) (E:O6->Pe->Prop),Inv X ξ σ H s->(∀b∈fp,ir X ξ H b)->tn i s.heap->J.go i H ->
  wpAny (model P w) X.A (pyNext (.ref it)) (λr s1=>∃u,r=some u /\
   wpAny (model P w) X.A (letOwnedTupleGo tg (.ref it) u) (λ_ s2=>∃x H',Inv X ξ σ H' s2/\RelV x u/\J.yld i H x H'/\tn (i+1) s2.heap/\∀b∈fp,H' b=none) E s1) E s
 done:∀(X:Cx),X.prog=P->X.w=w->X.K=K->X.calm=true->∀(i:Nat) (ξ:List (Addr×Obj)) (s:Pe) (σ:St) (H:Hp) (E:O6->Pe->Prop),Inv X ξ σ H s->(∀b∈fp,ir X ξ H b)->tn i s.heap->J.stop i H ->
  wpAny (model P w) X.A (pyNext (.ref it)) (λr s1=>r=none/\Inv X ξ σ H s1) E s
 self:∀(A:Qt) (i:Nat) (s:Pe) (Q:O6->Pe->Prop) (E:O6->Pe->Prop),tn i s.heap->Q (.ref it) s->wpAny (model P w) A (pyIter (.ref it)) Q E s
nonrec abbrev TI:=St->Hp->(It->Hp->Prop)->Prop
abbrev Oz(X:Cx)(ξ:List (Addr×Obj))(σ:St)(tg:Expr)(R:It->Hp->Prop)(itv:O6)(s2:Pe):Prop :=
 ∃(it:Addr) (fp:List Addr) (tn:Nat->Heap->Prop) (J:It) (H':Hp),itv=.ref it/\Inv X ξ σ H' s2/\sD X.prog X.w X.K tg J fp it tn/\tn 0 s2.heap/\(∀b∈fp,ir X ξ H' b)/\R J H'
abbrev PI(X:Cx)(tg iter:Expr)(wi:TI):Prop :=
 ∀(ξ:List (Addr×Obj)) (s:Pe) (σ:St) (H:Hp) (R:It->Hp->Prop),Inv X ξ σ H s->wi σ H R ->
  wpAny (model X.prog X.w) X.A (eval iter X.env) (λv s1=>wpAny (model X.prog X.w) X.A (pyIter v) (Oz X ξ σ tg R) X.xe s1) X.xe s
def IH{E:O6->Pe->Prop} {s:Pe}  {it:Addr}  {o:Obj}  {vs:Array O6} {Q:Unit->Pe->Prop} (ho:s.heap.get? it=some o) (hc:o.cls=.type n) (hd:o.data=.fields vs)
    (hn:["enumerate", "zip", "dict_itemiterator", "dict_reverseitemiterator", "odict_iterator", "itertools.zip_longest", "itertools.pairwise"].contains n=false) (hQ:Q () s):wpAny M A (letOwnedTupleGo tg (.ref it) u) Q E s := by
  unfold letOwnedTupleGo
  cases tg <;> first
    |exact Pt hQ
    | (cases u <;> first
        |exact Pt hQ
        | (refine O5 (wpAny_load ho ?_)
           rw[hc, hd]
           show wpAny M A (if (["enumerate", "zip", "dict_itemiterator", "dict_reverseitemiterator", "odict_iterator", "itertools.zip_longest", "itertools.pairwise"].contains n && vs[0]? == some (rawInt _))=true then _ else _) Q E s
           rw[if_neg (by intro h; rw[hn, YI] at h; cases h)]
           exact Pt hQ))
abbrev uz(K:Fg)(a:Addr):It :=
 ⟨λi H=>∃xs x,SqL K H a xs/\xs[i]?=some x,λi H x H'=>H'=H/\∀xs,SqL K H a xs->xs[i]?=some x,λi H=>∃xs,SqL K H a xs/\xs.length<=i⟩
abbrev vH(K:Fg)(a:Addr):It :=
 ⟨λi H=>∃xs x,SqT K H a xs/\xs[i]?=some x,λi H x H'=>H'=H/\∀xs,SqT K H a xs->xs[i]?=some x,λi H=>∃xs,SqT K H a xs/\xs.length<=i⟩
abbrev vI(lo:Int)(n:Nat):It:=⟨λi _=>i<n,λi H x H'=>H'=H/\x=.int (lo+i),λi _=>n<=i⟩
def vW{K:Fg}(a it:Addr):sD P w K tg (uz K a) [it] it (λi h=>h.IsListIter it a i) where
 mem:=by simp
 obj:=λi h st b hb=>by
  have e:b=it:=by simpa using hb
  subst e;obtain⟨o,e,c,d⟩:=st;exact⟨o,e,λv z=>by rw[d] at z;cases z⟩
 keep:=λi h h' st k=>st.at λo e=>k it (by simp) o e
 item:=by
  intro X hP hw hK hc i ξ s σ H E I hf st hg;subst hP hw hK;obtain⟨xs,x,hq,hx⟩:=hg;obtain⟨gV,rv,p,hz⟩:=I.list hq;obtain⟨u,hu,ru⟩:=rv.get hx;obtain⟨f0,f1,f2,f3,f4,f5⟩:=hf it (by simp);refine wpAny_pyNext_list_item st p.isList (x:=u) (by simpa using hu) λh' Z2 sb=>?_
  have I1:Inv X ξ σ H {s with heap:=h'}:=I.turned (t':=s.toks) (λb o hb e=>(sb.2 b hb).trans e) f0 f1 f3 f4 f5;obtain⟨o,e,c,d⟩:=id Z2;exact⟨u,rfl,IH (s:={s with heap:=h'}) e c d (by decide) ⟨x,H,I1,ru,⟨rfl,λys hy=>by rw[I.mI hy hq];exact hx⟩,Z2,λb hb=>(hf b hb).1⟩⟩
 done:=by
  intro X hP hw hK hc i ξ s σ H E I hf st hg;subst hP hw hK;obtain⟨xs,hq,hx⟩:=hg;obtain⟨gV,rv,p,hz⟩:=I.list hq;obtain⟨f0,f1,f2,f3,f4,f5⟩:=hf it (by simp);have hl:=rv.length;exact wpAny_pyNext_list_end (I.ok.hd hc) st p.isList (by simp;lia) λh' eb=>⟨rfl,I.turned (t':=s.toks) (λb o hb e=>eb b o hb e) f0 f1 f3 f4 f5⟩
 self:=λ_ _ _ _ _ st h=>wpAny_pyIter_listiter st h
def uE{K:Fg}(a it:Addr):sD P w K tg (vH K a) [it] it (λi h=>h.IsTupleIter it a i) where
 mem:=by simp
 obj:=λi h st b hb=>by
  have e:b=it:=by simpa using hb
  subst e;obtain⟨o,e,c,d⟩:=st;exact⟨o,e,λv z=>by rw[d] at z;cases z⟩
 keep:=λi h h' st k=>st.at λo e=>k it (by simp) o e
 item:=by
  intro X hP hw hK hc i ξ s σ H E I hf st hg;subst hP hw hK;obtain⟨xs,x,hq,hx⟩:=hg;obtain⟨gV,rv,p,hz⟩:=I.tuple hq;obtain⟨u,hu,ru⟩:=rv.get hx;obtain⟨f0,f1,f2,f3,f4,f5⟩:=hf it (by simp);refine wpAny_pyNext_tuple_item st (show s.heap.IsTuple a gV.toArray from p) (x:=u) (by simpa using hu) λh' Z2 sb=>?_
  have I1:Inv X ξ σ H {s with heap:=h'}:=I.turned (t':=s.toks) (λb o hb e=>(sb.2 b hb).trans e) f0 f1 f3 f4 f5;obtain⟨o,e,c,d⟩:=id Z2;exact⟨u,rfl,IH (s:={s with heap:=h'}) e c d (by decide) ⟨x,H,I1,ru,⟨rfl,λys hy=>by rw[I.nM hy hq];exact hx⟩,Z2,λb hb=>(hf b hb).1⟩⟩
 done:=by
  intro X hP hw hK hc i ξ s σ H E I hf st hg;subst hP hw hK;obtain⟨xs,hq,hx⟩:=hg;obtain⟨gV,rv,p,hz⟩:=I.tuple hq;obtain⟨f0,f1,f2,f3,f4,f5⟩:=hf it (by simp);have hl:=rv.length;exact wpAny_pyNext_tuple_end (I.ok.hd hc) st (show s.heap.IsTuple a gV.toArray from p) (by simp;lia) λh' eb=>⟨rfl,I.turned (t':=s.toks) (λb o hb e=>eb b o hb e) f0 f1 f3 f4 f5⟩
 self:=λ_ _ _ _ _ st h=>wpAny_pyIter_tupleiter st h
def uF{K:Fg}(it:Addr)(lo:Int)(n:Nat):sD P w K tg (vI lo n) [it] it (λi h=>IsRangeIter h it (lo+(i:Nat)*1) ((n:Int)-(i:Nat)) 1) where
 mem:=by simp
 obj:=λi h st b hb=>by
  have e:b=it:=by simpa using hb
  subst e
  exact⟨_,st,λv z=>by
   have z':Yo _=W5 v:=z
   cases z'⟩
 keep:=λi h h' st k=>k it (by simp) _ st
 item:=by
  intro X hP hw hK hc i ξ s σ H E I hf st hg;subst hP hw hK;obtain⟨f0,f1,f2,f3,f4,f5⟩:=hf it (by simp);have W:=XG.range (prog:=X.prog) (w:=X.w) (I.ok.hd hc) it lo 1 n;refine W.item i s _ _ hg st λv h' tk hv Z2 kk=>?_
  obtain⟨t,rfl⟩:=hv;have I1:Inv X ξ σ H {s with heap:=h',toks:=tk}:=I.turned (λb o hb e=>kk b o (by simpa using hb) e) f0 f1 f3 f4 f5;refine⟨_,rfl,IH (s:={s with heap:=h',toks:=tk}) (n:="range_iterator") Z2 rfl rfl (by decide) ⟨.int (lo+i),H,I1,⟨t,?_⟩,⟨rfl,rfl⟩,Z2,λb hb=>(hf b hb).1⟩⟩;rw[Yp]
 done:=by
  intro X hP hw hK hc i ξ s σ H E I hf st hg;subst hP hw hK;obtain⟨f0,f1,f2,f3,f4,f5⟩:=hf it (by simp);exact wpAny_pyNext_range_end (I.ok.hd hc) st (by have:n<=i:=hg;lia) λh' eb=>⟨rfl,I.turned (t':=s.toks) (λb o hb e=>eb b o hb e) f0 f1 f3 f4 f5⟩
 self:=λ_ _ _ _ _ st h=>wpAny_pyIter_rangeiter st h
section
variable{X:Cx}{tg:Expr}
abbrev cx(K:Fg)(tl:TE):TI:=λσ H R=>tl σ H λx H1=>∃a,x=.ref a/\(∃xs,SqL K H1 a xs)/\R (uz K a) H1
abbrev vm(K:Fg)(tl:TE):TI:=λσ H R=>tl σ H λx H1=>∃a,x=.ref a/\(∃xs,SqT K H1 a xs)/\R (vH K a) H1
def HH(hl:PE X l tl):PI X tg l (cx X.K tl):=by
 intro ξ s σ H R I h;refine bf (hl ξ s σ H _ I h) λv s1 ω=>?_;obtain⟨x,H1,I1,r1,q1⟩:=ω
 obtain⟨a,e,⟨xs,hq⟩,q⟩:=q1;subst e;cases r1;obtain⟨gV,rv,p,hz⟩:=I1.list hq;refine VM p.isList ?_;refine⟨s1.heap.objs.size,[s1.heap.objs.size],_,_,H1,rfl,I1.kept (t':=s1.toks) λb o e=>Pf _ e,vW a _,⟨_,PR _ rfl,rfl,rfl⟩,λb hb=>?_,q⟩;have e:b=s1.heap.objs.size:=by simpa using hb
 subst e;exact I1.fpOk (Pa _) (I1.hok.fresh (Pa _))
def Ko(hl:PE X l tl):PI X tg l (vm X.K tl):=by
 intro ξ s σ H R I h;refine bf (hl ξ s σ H _ I h) λv s1 ω=>?_;obtain⟨x,H1,I1,r1,q1⟩:=ω
 obtain⟨a,e,⟨xs,hq⟩,q⟩:=q1;subst e;cases r1;obtain⟨gV,rv,p,hz⟩:=I1.tuple hq;refine Vt (show s1.heap.IsTuple a gV.toArray from p) ?_;refine⟨s1.heap.objs.size,[s1.heap.objs.size],_,_,H1,rfl,I1.kept (t':=s1.toks) λb o e=>Pf _ e,uE a _,⟨_,PR _ rfl,rfl,rfl⟩,λb hb=>?_,q⟩;have e:b=s1.heap.objs.size:=by simpa using hb
 subst e;exact I1.fpOk (Pa _) (I1.hok.fresh (Pa _))
def CT{H:Hp}{R:It->Hp->Prop}{lo hi:Int}{t u v:Tok}{tk:Nat}(I:Inv X ξ σ H s)(h1 : -(2 ^ 62)<=lo)(h2:lo<2 ^ 62)(h3 : -(2 ^ 62)<=hi)(h4:hi<2 ^ 62)
  (q:R (vI lo (hi-lo).toNat) H):wpAny (model X.prog X.w) X.A (pyIter (.ref s.heap.objs.size)) (Oz X ξ σ tg R) E {s with heap:=s.heap.push {cls:=.type "range",data:=.fields #[.int lo t,.int hi u,.int 1 v]},toks:=tk}:=by
 refine wpAny_pyIter_range (IsRange.new ..) (small_one h1 h2 h3 h4) ?_;have I1:Inv X ξ σ H {s with heap:=s.heap.push {cls:=.type "range",data:=.fields #[.int lo t,.int hi u,.int 1 v]},toks:=tk}:=I.kept λb o e=>Pf _ e
 refine⟨(s.heap.push {cls:=.type "range",data:=.fields #[.int lo t,.int hi u,.int 1 v]}).objs.size,[(s.heap.push {cls:=.type "range",data:=.fields #[.int lo t,.int hi u,.int 1 v]}).objs.size],_,_,H,rfl,
  I1.kept (t':=tk) λb o e=>Pf _ e,uF _ lo (hi-lo).toNat,?_,λb hb=>?_,q⟩
 .have e1:lo+((0:Nat):Int)*1=lo:=by simp
  have e2:(((hi-lo).toNat:Nat):Int)-((0:Nat):Int)=RU.Range.rangeSize lo hi 1:=by rw[rangeSize_one];split <;> lia
  show IsRangeIter _ _ (lo+((0:Nat):Int)*1) ((((hi-lo).toNat:Nat):Int)-((0:Nat):Int)) 1;rw[e1,e2];exact PR _ rfl
 .have e:b=(s.heap.push {cls:=.type "range",data:=.fields #[.int lo t,.int hi u,.int 1 v]}).objs.size:=by simpa using hb
  subst e;exact I1.fpOk (Pa _) (I1.hok.fresh (Pa _))
abbrev cw(ta:TA):TI:=λσ H R=>ta σ H λvs H1=>∃j:Int,vs=[.int j]/\-(2 ^ 62)<=j/\j<2 ^ 62/\R (vI 0 j.toNat) H1
def yI{a:Expr} {ta:TA} {p pos:Pos} (hg:Gl X "range") (hm:X.mg "range"=none) (ha:PA X [a] ta) (hs:starEach [a] X.env=[(false,eval a X.env)]:=by rfl):PI X tg (.Call (.Name "range" p) [a] [] pos) (cw ta):=by
 intro ξ s σ H R I h;refine Call_ (eE I hg hm boot_range (QD (bf (ha pos ξ s σ H _ I h) λus s1 ω=>?_) hs rfl));obtain⟨vs,H1,I1,r1,q1⟩:=ω;obtain⟨j,e,q1,q2,q⟩:=q1;subst e;cases r1 with
 |cons r rr =>
  cases rr;obtain⟨t,rfl⟩:=r;exact call_range_1 (CT I1 (by lia) (by lia) q1 q2 (by simpa using q))
abbrev a5(wi:TI)(g:TG)(tb:TS):TS:=λD σ H=>wi σ H λJ H1=>∃W:Nat->Nat->St->Hp->Prop,(∃m,W 0 m σ H1)/\∀i m σ H,W i m σ H ->
 (J.stop i H/\D.nx σ H)\/(J.go i H/\∃N:St->Hp->Prop,(∀σ' H',N σ' H'->∃m',m'<m/\W (i+1) m' σ' H')/\∀x H',J.yld i H x H'->g x σ H' λσ2 H2=>tb {D with nx:=N,ct:=N,bk:=D.nx} σ2 H2)
abbrev tK(fp:List Addr)(h:Heap):List (Addr×Obj):=fp.filterMap λb=>(h.get? b).map λo=>(b,o)
def cE{fp:List Addr}{h:Heap}{b:Addr}{o:Obj}(hb:b∈fp)(e:h.get? b=some o):(b,o)∈tK fp h:=Xu.mpr ⟨b,hb,by rw[e];rfl⟩
def yY{fp:List Addr}{p:Addr×Obj}(hp:p∈tK fp h):p.1∈fp/\h.get? p.1=some p.2:=by
 obtain⟨b,hb,e⟩:=Xu.mp hp;cases q:h.get? b with
 |none=>rw[q] at e;cases e
 |some o =>
  rw[q] at e;have e':(b,o)=p:=PD e;subst e';exact⟨hb,q⟩
def Inv.pinned{H:Hp}{fp:List Addr}(I:Inv X ξ σ H s)(hf:∀b∈fp,ir X ξ H b)(ho:∀b∈fp,∃o,s.heap.get? b=some o/\∀v,o.data≠.cell v):Inv X (ξ++tK fp s.heap) σ H s :=
 I.yG λp hp=>(Pz.mp hp).elim (λz=>I.pin p (PB _ z)) λz=>by
  obtain⟨hb,e⟩:=yY z;obtain⟨f0,f1,f2,_⟩:=hf p.1 hb;obtain⟨o,e',d⟩:=ho p.1 hb;rw[e] at e';cases e';exact⟨e,f0,f1,f2,d⟩
def Inv.fR{ξ pl:List (Addr×Obj)}{H:Hp}(I:Inv X (ξ++pl) σ H s):Inv X ξ σ H s:=I.yG λp hp=>I.pin p (PB _ (PK _ hp))
def Ki{iter:Expr}{pos:Pos}(hp:PassesOwn (model X.prog X.w) X.A X.env X.xe)(hc:X.calm=true)(hi:PI X tg iter wi)(hg:PG X tg g)(hb:PSs X body tb)
  (hs:∀x,foldedSetIterable iter X.env x=pure x:=by intro _;rfl):PS X (.For tg iter body [] pos) (a5 wi g tb):=by
 intro ξ s σ H D I h;refine wpAny_For (bf (hi ξ s σ H _ I h) λv s1 h1=>bf h1 λitv s2 h2=>?_) hs;obtain⟨it,fp,tn,J,H2,e,I2,T,st2,f2,W,⟨m0,w0⟩,turn⟩:=h2;subst e;have stat:∀{H':Hp},(∀b∈fp,H' b=none)->∀b∈fp,ir X ξ H' b:=λhn b hb=>⟨hn b hb,(f2 b hb).2⟩
 refine codeAny_forLoop_any (λn s'=>∃i σ' H',Inv X ξ σ' H' s'/\tn i s'.heap/\(∀b∈fp,H' b=none)/\W i n σ' H') ?_ m0 ⟨0,σ,H2,I2,st2,λb hb=>(f2 b hb).1,w0⟩;rintro n s3 ⟨i,σ3,H3,I3,st3,fr3,w3⟩;rcases turn i n σ3 H3 w3 with⟨stop,qn⟩|⟨go,N,hN,step⟩
 .refine Sr hp (bf (T.done X rfl rfl rfl hc i ξ s3 σ3 H3 X.xe I3 (stat fr3) st3 stop) λr s4 ω=>?_);obtain⟨hr,I4⟩:=ω;subst hr;exact U1 ⟨σ3,H3,I4,qn⟩
 .refine Sr hp (bf (T.item X rfl rfl rfl hc i ξ s3 σ3 H3 X.xe I3 (stat fr3) st3 go) λr s4 ω=>?_);obtain⟨u,hr,h4⟩:=ω;subst hr;refine Sr hp (bf h4 λ_ s5 ω=>?_);obtain⟨x,H5,I5,r5,y5,st5,fr5⟩:=ω;have I5':=I5.pinned (stat fr5) (T.obj _ _ st5);refine Sr hp (bf (hg _ s5 σ3 H5 x u _ I5' r5 (step x H5 y5)) λ_ s6 ω=>?_);obtain⟨σ6,H6,I6,q6⟩:=ω;refine Sr hp (bf (hb _ s6 σ6 H6 _ I6 q6) λf s7 q7=>?_)
  have again:∀{σ7:St} {H7:Hp},Inv X (ξ++tK fp s5.heap) σ7 H7 s7->N σ7 H7->∃m,m<n/\∃i σ' H',Inv X ξ σ' H' s7/\tn i s7.heap/\(∀b∈fp,H' b=none)/\W i m σ' H':=λ{σ7 H7} I7 n7=>by
   obtain⟨m',hm,w7⟩:=hN σ7 H7 n7;refine⟨m',hm,i+1,σ7,H7,I7.fR,T.keep _ _ _ st5 λb hb o e=>(I7.pin (b,o) (PB _ (PB _ (cE hb e)))).1,λb hb=>?_,w7⟩;obtain⟨o,e,d⟩:=T.obj _ _ st5 b hb;exact(I7.pin (b,o) (PB _ (PB _ (cE hb e)))).2.1
  cases f with
  |next=>obtain⟨σ7,H7,I7,n7⟩:=q7;exact again I7 n7
  |cont=>obtain⟨σ7,H7,I7,n7⟩:=q7;exact again I7 n7
  |brk=>obtain⟨σ7,H7,I7,q7⟩:=q7;exact⟨σ7,H7,I7.fR,q7⟩
  |ret v=>obtain⟨x7,σ7,H7,I7,r7,q7⟩:=q7;exact⟨x7,σ7,H7,I7.fR,r7,q7⟩
end
def D8{K:Fg}{xs:List V}{g:TG}{tb:TS}{D:cu}{H:Hp}(Pv:Nat->St->Hp->Prop)(h0:Pv 0 σ H)(hl:∀i σ H,i<=xs.length->Pv i σ H->SqL K H a xs)
  (hs:∀i x σ H,xs[i]?=some x->Pv i σ H->g x σ H λσ2 H2=>tb {D with nx:=Pv (i+1),ct:=Pv (i+1),bk:=D.nx} σ2 H2) (hd:∀σ H,Pv xs.length σ H->D.nx σ H) :
  ∃W:Nat->Nat->St->Hp->Prop,(∃m,W 0 m σ H)/\∀i m σ H,W i m σ H ->
   ((uz K a).stop i H/\D.nx σ H)\/((uz K a).go i H/\∃N:St->Hp->Prop,(∀σ' H',N σ' H'->∃m',m'<m/\W (i+1) m' σ' H')/\∀x H',(uz K a).yld i H x H'->g x σ H' λσ2 H2=>tb {D with nx:=N,ct:=N,bk:=D.nx} σ2 H2):=by
 refine⟨λi m σ H=>m=xs.length-i/\i<=xs.length/\Pv i σ H,⟨xs.length,by simp,Ql _,h0⟩,?_⟩;rintro i m σ H ⟨rfl,hi,p⟩;have q:=hl i σ H hi p;by_cases Ad:i<xs.length
 .refine .inr ⟨⟨xs,xs[i],q,by simp[Ad]⟩,Pv (i+1),λσ' H' p'=>⟨xs.length-(i+1),by lia,rfl,Ad,p'⟩,λx H' y=>?_⟩;obtain⟨e,y⟩:=y;subst e;exact hs i x σ _ (y xs q) p
 .have e:i=xs.length:=by lia
  subst e;exact .inl ⟨⟨xs,q,Pa _⟩,hd σ H p⟩
def IK{K:Fg}{xs:List V}{g:TG}{tb:TS}{D:cu}{H:Hp}(Pv:Nat->St->Hp->Prop)(h0:Pv 0 σ H)(hl:∀i σ H,i<=xs.length->Pv i σ H->SqT K H a xs)
  (hs:∀i x σ H,xs[i]?=some x->Pv i σ H->g x σ H λσ2 H2=>tb {D with nx:=Pv (i+1),ct:=Pv (i+1),bk:=D.nx} σ2 H2) (hd:∀σ H,Pv xs.length σ H->D.nx σ H) :
  ∃W:Nat->Nat->St->Hp->Prop,(∃m,W 0 m σ H)/\∀i m σ H,W i m σ H ->
   ((vH K a).stop i H/\D.nx σ H)\/((vH K a).go i H/\∃N:St->Hp->Prop,(∀σ' H',N σ' H'->∃m',m'<m/\W (i+1) m' σ' H')/\∀x H',(vH K a).yld i H x H'->g x σ H' λσ2 H2=>tb {D with nx:=N,ct:=N,bk:=D.nx} σ2 H2):=by
 refine⟨λi m σ H=>m=xs.length-i/\i<=xs.length/\Pv i σ H,⟨xs.length,by simp,Ql _,h0⟩,?_⟩;rintro i m σ H ⟨rfl,hi,p⟩;have q:=hl i σ H hi p;by_cases Ad:i<xs.length
 .refine .inr ⟨⟨xs,xs[i],q,by simp[Ad]⟩,Pv (i+1),λσ' H' p'=>⟨xs.length-(i+1),by lia,rfl,Ad,p'⟩,λx H' y=>?_⟩;obtain⟨e,y⟩:=y;subst e;exact hs i x σ _ (y xs q) p
 .have e:i=xs.length:=by lia
  subst e;exact .inl ⟨⟨xs,q,Pa _⟩,hd σ H p⟩
def Aa{lo:Int}{n:Nat}{g:TG}{tb:TS}{D:cu}{H:Hp}(Pv:Nat->St->Hp->Prop)(h0:Pv 0 σ H)
  (hs:∀i σ H,i<n->Pv i σ H->g (.int (lo+i)) σ H λσ2 H2=>tb {D with nx:=Pv (i+1),ct:=Pv (i+1),bk:=D.nx} σ2 H2) (hd:∀σ H,Pv n σ H->D.nx σ H) :
  ∃W:Nat->Nat->St->Hp->Prop,(∃m,W 0 m σ H)/\∀i m σ H,W i m σ H ->
   ((vI lo n).stop i H/\D.nx σ H)\/((vI lo n).go i H/\∃N:St->Hp->Prop,(∀σ' H',N σ' H'->∃m',m'<m/\W (i+1) m' σ' H')/\∀x H',(vI lo n).yld i H x H'->g x σ H' λσ2 H2=>tb {D with nx:=N,ct:=N,bk:=D.nx} σ2 H2):=by
 refine⟨λi m σ H=>m=n-i/\i<=n/\Pv i σ H,⟨n,by simp,Ql _,h0⟩,?_⟩;rintro i m σ H ⟨rfl,hi,p⟩;by_cases Ad:i<n
 .refine .inr ⟨Ad,Pv (i+1),λσ' H' p'=>⟨n-(i+1),by lia,rfl,Ad,p'⟩,λx H' y=>?_⟩;obtain⟨e,y⟩:=y;subst e y;exact hs i σ _ Ad p
 .have e:i=n:=by lia
  subst e;exact .inl ⟨Pa _,hd σ H p⟩
def iy{c:TT}{tb:TS}{D:cu}{H:Hp}(Pv:St->Hp->Prop)(μ:St->Hp->Nat)(h0:Pv σ H)
  (hs:∀σ H,Pv σ H->c σ H λb H1=>if b=true then tb {D with nx:=λσ' H'=>Pv σ' H'/\μ σ' H'<μ σ H,ct:=λσ' H'=>Pv σ' H'/\μ σ' H'<μ σ H,bk:=D.nx} σ H1 else D.nx σ H1)
  (mono:∀σ H Q Q',(∀b H1,Q b H1->Q' b H1)->c σ H Q->c σ H Q'):gR c tb D σ H:=by
 refine⟨λm σ H=>m=μ σ H/\Pv σ H,⟨_,rfl,h0⟩,?_⟩;rintro m σ H ⟨rfl,p⟩;refine mono σ H _ _ (λb H1 q=>?_) (hs σ H p);cases b with
 |true=>exact⟨_,(by rintro σ' H' ⟨p',l⟩;exact ⟨_,l,rfl,p'⟩),q⟩
 |false=>exact q
nonrec abbrev R2:=V->V->Hp->VK->Prop
abbrev eJ(X:Cx)(f:O6->O6->Sem O6)(r:R2):Prop :=
 ∀(ξ:List (Addr×Obj)) (s:Pe) (σ:St) (H:Hp) (x y:V) (v u:O6) (Q:VK),Inv X ξ σ H s->RelV x v->RelV y u->r x y H Q ->
  wpAny (model X.prog X.w) X.A (f v u) (EP X ξ σ Q) X.xe s
abbrev MX(X:Cx)(f:O6->Sem O6)(r:V->Hp->VK->Prop):Prop :=
 ∀(ξ:List (Addr×Obj)) (s:Pe) (σ:St) (H:Hp) (x:V) (v:O6) (Q:VK),Inv X ξ σ H s->RelV x v->r x H Q ->
  wpAny (model X.prog X.w) X.A (f v) (EP X ξ σ Q) X.xe s
abbrev e_(X:Cx)(f:O6)(r:List V->Hp->VK->Prop):Prop :=
 ∀(ξ:List (Addr×Obj)) (s:Pe) (σ:St) (H:Hp) (xs:List V) (us:List O6) (Q:VK),Inv X ξ σ H s->Vals xs us->r xs H Q ->
  wpAny (model X.prog X.w) X.A (call f us) (EP X ξ σ Q) X.xe s
abbrev ar(r:R2)(ta tb:TE):TE:=λσ H Q=>ta σ H λx H1=>tb σ H1 λy H2=>r x y H2 Q
abbrev Jk(r:V->Hp->VK->Prop)(ta:TE):TE:=λσ H Q=>ta σ H λx H1=>r x H1 Q
abbrev rI(C:Int->Int->Prop)(g:Int->Int->V):R2:=λx y H Q=>∃i j,x=.int i/\y=.int j/\C i j/\Q (g i j) H
abbrev rB(g:Int->Int->V):R2:=λx y H Q=>∃i j,x=.int i/\y=.int j/\Q (g i j) H
abbrev rU(g:Int->V):V->Hp->VK->Prop:=λx H Q=>∃i,x=.int i/\Q (g i) H
section
variable{X:Cx}{a b c:Expr}{ta tb tc:TE}{pos:Pos}
def IU(ha:PE X a ta)(hb:PE X b tb){H:Hp}{R:V->V->Hp->Prop}(I:Inv X ξ σ H s)
  (h:ta σ H λx H1=>tb σ H1 λy H2=>R x y H2)  {f:O6->O6->Sem O6}
  (hf:∀v u s2 x y H2,Inv X ξ σ H2 s2->RelV x v->RelV y u->R x y H2->wpAny (model X.prog X.w) X.A (f v u) Q X.xe s2) :
  wpAny (model X.prog X.w) X.A (eval a X.env) (λv s₁=>wpAny (model X.prog X.w) X.A (eval b X.env) (λu s₂=>wpAny (model X.prog X.w) X.A (f v u) Q X.xe s₂) X.xe s₁) X.xe s:=by
 refine bf (ha ξ s σ H _ I h) λv s1 ω=>?_;obtain⟨x,H1,I1,r1,q1⟩:=ω
 refine bf (hb ξ s1 σ H1 _ I1 q1) λu s2 ω=>?_;obtain⟨y,H2,I2,r2,q2⟩:=ω
 exact hf v u s2 x y H2 I2 r1 r2 q2
def Nj(ho:eJ X (binaryOp op) r)(ha:PE X a ta)(hb:PE X b tb):PE X (.BinOp a op b pos) (ar r ta tb):=by
 intro ξ s σ H Q I h;exact wpAny_BinOp (IU ha hb I h λv u s2 x y H2 I2 rx ry q=>ho ξ s2 σ H2 x y v u Q I2 rx ry q)
def Ni(ho:MX X (unaryOp op) r)(ha:PE X a ta):PE X (.UnaryOp op a pos) (Jk r ta):=by
 intro ξ s σ H Q I h;exact UnaryOp_ (bf (ha ξ s σ H _ I h) (by rintro v s1 ⟨x,H1,I1,r1,q1⟩;exact ho ξ s1 σ H1 x v Q I1 r1 q1))
def E2{f:O6->O6->Sem O6}{C:Int->Int->Prop}{g:Int->Int->Int}
  (rule:∀(i j:Int) (t u:Tok) (s:Pe) (Q:O6->Pe->Prop) (E:O6->Pe->Prop),C i j->Q (.int (g i j) s.toks) {s with toks:=s.toks+1}->wpAny (model X.prog X.w) X.A (f (.int i t) (.int j u)) Q E s) :
  eJ X f (rI C λi j=>.int (g i j)):=by
 intro ξ s σ H x y v u Q I rx ry h;obtain⟨i,j,rfl,rfl,hc,q⟩:=h;obtain⟨t,rfl⟩:=rx;obtain⟨t',rfl⟩:=ry;exact rule i j t t' s _ _ hc ⟨.int (g i j),H,I.tok _,⟨_,rfl⟩,q⟩
def KY{f:O6->O6->Sem O6}{g:Int->Int->Int}
  (rule:∀(i j:Int) (t u:Tok) (s:Pe) (Q:O6->Pe->Prop) (E:O6->Pe->Prop),Q (.int (g i j) s.toks) {s with toks:=s.toks+1}->wpAny (model X.prog X.w) X.A (f (.int i t) (.int j u)) Q E s) :
  eJ X f (rB λi j=>.int (g i j)):=by
 intro ξ s σ H x y v u Q I rx ry h;obtain⟨i,j,rfl,rfl,q⟩:=h;obtain⟨t,rfl⟩:=rx;obtain⟨t',rfl⟩:=ry;exact rule i j t t' s _ _ ⟨.int (g i j),H,I.tok _,⟨_,rfl⟩,q⟩
def Do{f:O6->O6->Sem O6}{g:Int->Int->Bool}
  (rule:∀(i j:Int) (t u:Tok) (s:Pe) (Q:O6->Pe->Prop) (E:O6->Pe->Prop),Q (.bool (g i j)) s->wpAny (model X.prog X.w) X.A (f (.int i t) (.int j u)) Q E s) :
  eJ X f (rB λi j=>.bl (g i j)):=by
 intro ξ s σ H x y v u Q I rx ry h;obtain⟨i,j,rfl,rfl,q⟩:=h;obtain⟨t,rfl⟩:=rx;obtain⟨t',rfl⟩:=ry;exact rule i j t t' s _ _ ⟨.bl (g i j),H,I,rfl,q⟩
abbrev Jh(i j:Int):Prop:=0<j/\j<1073741824
abbrev MP(i j:Int):Prop:=0<=j/\j<=1000000/\i.natAbs<2 ^ 64
abbrev CMul(i j:Int):Prop:=(-(2 ^ 64)<i/\i<2 ^ 64)\/(-(2 ^ 64)<j/\j<2 ^ 64)
def CMul.ok(h:CMul i j):IntMulOk i j:=by
 rcases h with⟨h1,h2⟩|⟨h1,h2⟩
 .exact .of_left (intBits_le_64 h1 h2)
 .exact .of_right (intBits_le_64 h1 h2)
def KW:eJ X (binaryOp .Add) (rB λi j=>.int (i+j)):=KY λ_ _ _ _ _ _ _ q=>add_int q
def KL:eJ X (binaryOp .Sub) (rB λi j=>.int (i-j)):=KY λ_ _ _ _ _ _ _ q=>sub_int q
def KO:eJ X (binaryOp .Mult) (rI CMul λi j=>.int (i*j)):=E2 λ_ _ _ _ _ _ _ hc q=>mul_int q hc.ok
def HX:eJ X (binaryOp .FloorDiv) (rI Jh λi j=>.int (i / j)):=E2 λi j _ _ _ _ _ hc q=>by
 have h1:(0:Int)<j:=hc.1;have h2:j<1073741824:=hc.2;exact XH (by lia) (by rw[Vu i (by lia)];exact q) (.inl (PyProof.noPylong_small (by lia)))
def KP:eJ X (binaryOp .Mod) (rI (λ_ j=>0<j) λi j=>.int (i % j)):=E2 λi j _ _ _ _ _ hc q=>by
 have h1:(0:Int)<j:=hc;exact mod_int' (by lia) (by rw[Vv i (by lia)];exact q)
def HW:eJ X (binaryOp .Mod) (rI (λ_ j=>j≠0) λi j=>.int (i.fmod j)):=E2 λ_ _ _ _ _ _ _ hc q=>mod_int' hc q
def KN:eJ X (binaryOp .Pow) (rI MP λi j=>.int (i ^ j.toNat)):=E2 λ_ _ _ _ _ _ _ hc q=>pow_int_small hc.1 hc.2.1 hc.2.2 q
def OQ{f:O6->Sem O6}{g:Int->Int}
  (rule:∀(i:Int) (t:Tok) (s:Pe) (Q:O6->Pe->Prop) (E:O6->Pe->Prop),Q (.int (g i) s.toks) {s with toks:=s.toks+1}->wpAny (model X.prog X.w) X.A (f (.int i t)) Q E s) :
  MX X f (rU λi=>.int (g i)):=by
 intro ξ s σ H x v Q I rx h;obtain⟨i,rfl,q⟩:=h;obtain⟨t,rfl⟩:=rx;exact rule i t s _ _ ⟨.int (g i),H,I.tok _,⟨_,rfl⟩,q⟩
def Jt:MX X (unaryOp .USub) (rU λi=>.int (-i)):=OQ λ_ _ _ _ _ q=>neg_int q
end
abbrev JK:V->V->Bool
 |.non,.non=>true|.non,.int _=>true|.int _,.non=>true|.non,.bl _=>true|.bl _,.non=>true|.non,.str _=>true|.str _,.non=>true
 |.int _,.int _=>true|.bl _,.bl _=>true|.str _,.str _=>true|.byt _,.byt _=>true
 |.int _,.str _=>true|.str _,.int _=>true|.bl _,.str _=>true|.str _,.bl _=>true
 |_,_=>false
abbrev hJ:R2:=λx y H Q=>JK x y=true/\Q (.bl (decide (x=y))) H
abbrev EK:R2:=λx y H Q=>JK x y=true/\Q (.bl (!decide (x=y))) H
def Aj:decide (V.int i=V.int j)=(i == j):=by
 rw[RV];simp
def Fv:decide (V.bl i=V.bl j)=(i == j):=by
 rw[RV];simp
def Ai:decide (V.str i=V.str j)=(i == j):=by
 rw[RV];simp
def Ak:decide (V.byt i=V.byt j)=(i.toList == j.toList):=by
 rw[RV];cases i;cases j;simp
section
variable{X:Cx}{a b c:Expr}{ta tb tc:TE}{pos:Pos}
def aZ{H:Hp}{Q:VK}{k':Bool}(I:Inv X ξ σ H s)(q:Q (.bl k) H)(e:k=k'):EP X ξ σ Q (.bool k') s:=by
 subst e;exact⟨.bl k,H,I,rfl,q⟩
def Nw:eJ X (compareOp .Eq) hJ:=by
 intro ξ s σ H x y v u Q I rx ry h;obtain⟨hs,q⟩:=h;cases x with
 |non =>
  cases rx;cases y with
  |non=>cases ry;exact PySem.EqNone.eq_none_none (aZ I q (by simp))
  |bl j=>cases ry;exact PySem.EqNone.eq_none_bool (aZ I q (by simp))
  |int j=>obtain⟨t',rfl⟩:=ry;exact PySem.EqNone.eq_none_int (aZ I q (by simp))
  |str j=>obtain⟨t',rfl⟩:=ry;exact PySem.EqNone.eq_none_str (aZ I q (by simp))
  |_=>exact absurd (show false=true from hs) PZ
 |bl i =>
  cases rx;cases y with
  |non=>cases ry;exact PySem.EqNone.eq_bool_none (aZ I q (by simp))
  |bl j=>cases ry;exact eq_bool (aZ I q Fv)
  |str j=>obtain⟨t',rfl⟩:=ry;exact PySem.EqMixed.eq_bool_str (aZ I q (by simp))
  |_=>exact absurd (show false=true from hs) PZ
 |int i =>
  obtain⟨t,rfl⟩:=rx;cases y with
  |non=>cases ry;exact PySem.EqNone.eq_int_none (aZ I q (by simp))
  |int j=>obtain⟨t',rfl⟩:=ry;exact eq_int (aZ I q Aj)
  |str j=>obtain⟨t',rfl⟩:=ry;exact PySem.EqMixed.eq_int_str (aZ I q (by simp))
  |_=>exact absurd (show false=true from hs) PZ
 |str i =>
  obtain⟨t,rfl⟩:=rx;cases y with
  |non=>cases ry;exact PySem.EqNone.eq_str_none (aZ I q (by simp))
  |bl j=>cases ry;exact PySem.EqMixed.eq_str_bool (aZ I q (by simp))
  |int j=>obtain⟨t',rfl⟩:=ry;exact PySem.EqMixed.eq_str_int (aZ I q (by simp))
  |str j=>obtain⟨t',rfl⟩:=ry;exact eq_str (aZ I q Ai)
  |_=>exact absurd (show false=true from hs) PZ
 |byt i =>
  obtain⟨t,rfl⟩:=rx;cases y with
  |byt j=>obtain⟨t',rfl⟩:=ry;exact PySem.W.eq_bytes (aZ I q Ak)
  |_=>exact absurd (show false=true from hs) PZ
 |_=>cases y <;> exact absurd (show false=true from hs) PZ
def No:eJ X (compareOp .NotEq) EK:=by
 intro ξ s σ H x y v u Q I rx ry h;obtain⟨hs,q⟩:=h;cases x with
 |non =>
  cases rx;cases y with
  |non=>cases ry;exact PySem.EqNone.ne_none_none (aZ I q (by simp))
  |bl j=>cases ry;exact PySem.EqNone.ne_none_bool (aZ I q (by simp))
  |int j=>obtain⟨t',rfl⟩:=ry;exact PySem.EqNone.ne_none_int (aZ I q (by simp))
  |str j=>obtain⟨t',rfl⟩:=ry;exact PySem.EqNone.ne_none_str (aZ I q (by simp))
  |_=>exact absurd (show false=true from hs) PZ
 |bl i =>
  cases rx;cases y with
  |non=>cases ry;exact PySem.EqNone.ne_bool_none (aZ I q (by simp))
  |bl j=>cases ry;exact ne_bool (aZ I q (congrArg not Fv))
  |str j=>obtain⟨t',rfl⟩:=ry;exact PySem.EqMixed.ne_bool_str (aZ I q (by simp))
  |_=>exact absurd (show false=true from hs) PZ
 |int i =>
  obtain⟨t,rfl⟩:=rx;cases y with
  |non=>cases ry;exact PySem.EqNone.ne_int_none (aZ I q (by simp))
  |int j=>obtain⟨t',rfl⟩:=ry;exact ne_int (aZ I q (congrArg not Aj))
  |str j=>obtain⟨t',rfl⟩:=ry;exact PySem.EqMixed.ne_int_str (aZ I q (by simp))
  |_=>exact absurd (show false=true from hs) PZ
 |str i =>
  obtain⟨t,rfl⟩:=rx;cases y with
  |non=>cases ry;exact PySem.EqNone.ne_str_none (aZ I q (by simp))
  |bl j=>cases ry;exact PySem.EqMixed.ne_str_bool (aZ I q (by simp))
  |int j=>obtain⟨t',rfl⟩:=ry;exact PySem.EqMixed.ne_str_int (aZ I q (by simp))
  |str j=>obtain⟨t',rfl⟩:=ry;exact ne_str (aZ I q (congrArg not Ai))
  |_=>exact absurd (show false=true from hs) PZ
 |byt i =>
  obtain⟨t,rfl⟩:=rx;cases y with
  |byt j=>obtain⟨t',rfl⟩:=ry;exact PySem.W.ne_bytes (aZ I q (congrArg not Ak))
  |_=>exact absurd (show false=true from hs) PZ
 |_=>cases y <;> exact absurd (show false=true from hs) PZ
def Np:eJ X (compareOp .Lt) (rB λi j=>.bl (decide (i<j))):=Do λ_ _ _ _ _ _ _ q=>lt_int q
def Nq:eJ X (compareOp .LtE) (rB λi j=>.bl (decide (i<=j))):=Do λ_ _ _ _ _ _ _ q=>le_int q
def Nt:eJ X (compareOp .Gt) (rB λi j=>.bl (decide (j<i))):=Do λ_ _ _ _ _ _ _ q=>gt_int q
def Nu:eJ X (compareOp .GtE) (rB λi j=>.bl (decide (j<=i))):=Do λ_ _ _ _ _ _ _ q=>ge_int q
def KQ:eJ X (compareOp .Is) (λx y H Q=>y=.non/\Q (.bl (decide (x=.non))) H):=by
 intro ξ s σ H x y v u Q I rx ry h;obtain⟨rfl,q⟩:=h;cases ry;refine is_none_gen (aZ I q ?_)
 cases x <;> first
  |(cases rx;rfl)
  |(obtain⟨t,rfl⟩:=rx;rfl)
def HU:eJ X (compareOp .IsNot) (λx y H Q=>y=.non/\Q (.bl (!decide (x=.non))) H):=by
 intro ξ s σ H x y v u Q I rx ry h;obtain⟨rfl,q⟩:=h;cases ry;refine isnot_none_gen (aZ I q ?_)
 cases x <;> first
  |(cases rx;rfl)
  |(obtain⟨t,rfl⟩:=rx;rfl)
def E5(b:Expr){op:CmpOp}(h:op≠.In:=by decide)(h2:op≠.NotIn:=by decide):behindInMarks op b=false:=by
 have e1:(op == CmpOp.In)=false:=by cases op <;> first|rfl|exact absurd rfl h
 have e2:(op == CmpOp.NotIn)=false:=by cases op <;> first|rfl|exact absurd rfl h2
 cases b <;> simp[behindInMarks,e1,e2]
def HM(ho:eJ X (compareOp op) r)(ha:PE X a ta)(hb:PE X b tb)(hm:behindInMarks op b=false):PE X (.Compare a [op] [b] pos) (ar r ta tb):=by
 intro ξ s σ H Q I h;exact wpAny_Compare1 (IU ha hb I h λv u s2 x y H2 I2 rx ry q=>ho ξ s2 σ H2 x y v u Q I2 rx ry q) hm
abbrev aR(t:TE):TT:=λσ H Q=>t σ H λx H'=>∃k,x=.bl k/\Q k H'
def yq(ho:eJ X (compareOp op) r)(ha:PE X a ta)(hb:PE X b tb)(hm:behindInMarks op b=false):PT X (.Compare a [op] [b] pos) (aR (ar r ta tb)):=by
 intro ξ s σ H Q I h
 refine WH (bf (ha ξ s σ H _ I h) λv s1 ⟨x,H1,I1,r1,q1⟩=>bf (hb ξ s1 σ H1 _ I1 q1) λu s2 ⟨y,H2,I2,r2,q2⟩ =>
  bf (ho ξ s2 σ H2 x y v u _ I2 r1 r2 q2) λc s3 ⟨z,H3,I3,r3,k,e,q3⟩=>?_) hm
 subst e;cases r3;exact Ry ⟨H3,I3,q3⟩
abbrev sS(r r':R2)(ta tb tc:TE):TE:=λσ H Q=>ta σ H λx H1=>tb σ H1 λy H2=>r x y H2 λz H3=>∃k,z=.bl k /\
 (if k=true then tc σ H3 λw' H4=>r' y w' H4 Q else Q (.bl false) H3)
def CY(ho:eJ X (compareOp op) r)(ho':eJ X (compareOp op') r')(ha:PE X a ta)(hb:PE X b tb)(hc:PE X c tc)
  (hm:lastMarks [op,op'] [b,c]=false:=by with_unfolding_all rfl):PT X (.Compare a [op,op'] [b,c] pos) (aR (sS r r' ta tb tc)):=by
 intro ξ s σ H Q I h
 refine isTrue_chain (bf (ha ξ s σ H _ I h) λv s1 ⟨x,H1,I1,r1,q1⟩=>test_link (bf (hb ξ s1 σ H1 _ I1 q1) λu s2 ⟨y,H2,I2,r2,q2⟩ =>
  bf (ho ξ s2 σ H2 x y v u _ I2 r1 r2 q2) λd s3 ⟨z,H3,I3,r3,k,e,q3⟩=>?_)) hm
 subst e;cases r3;refine Ry ?_;cases k with
 |false =>
  obtain⟨k',e',q'⟩:=q3;cases e';exact ite_ff ⟨H3,I3,q'⟩
 |true =>
  refine ite_tt (test_last (bf (hc ξ s3 σ H3 _ I3 q3) λw' s4 ⟨z',H4,I4,r4,q4⟩=>bf (ho' ξ s4 σ H4 y z' u w' _ I4 r2 r4 q4) λd' s5 ω=>?_));obtain⟨z2,H5,I5,r5,k2,e2,q5⟩:=ω;subst e2;cases r5;exact Ry ⟨H5,I5,q5⟩
def o4:(sizeLine:Nat)<2 ^ 63:=by rw[Sv];decide
def uY:eJ X (binaryOp .Add) (λx y H Q=>∃i j,x=.str i/\y=.str j/\i.length+j.length<=sizeLine/\Q (.str (i++j)) H):=by
 intro ξ s σ H x y v u Q I rx ry h;obtain⟨i,j,rfl,rfl,hz,q⟩:=h;obtain⟨t,rfl⟩:=rx;obtain⟨t',rfl⟩:=ry;exact add_str (λt' tk=>⟨.str (i++j),H,I.tok _,⟨_,rfl⟩,q⟩) hz
def vals1{x:V}{us:List O6}(r:Vals [x] us):∃u,us=[u]/\RelV x u:=by
 cases r with
 |cons r1 r2=>cases r2;exact⟨_,rfl,r1⟩
def vals2{x y:V}{us:List O6}(r:Vals [x,y] us):∃u w',us=[u,w']/\RelV x u/\RelV y w':=by
 cases r with
 |cons r1 r2 =>
  cases r2 with
  |cons r3 r4=>cases r4;exact⟨_,_,rfl,r1,r3⟩
def Ek:e_ X (.builtin "abs") (λxs H Q=>∃i,xs=[.int i]/\Q (.int (if i<0 then -i else i)) H):=by
 intro ξ s σ H xs us Q I r h;obtain⟨i,rfl,q⟩:=h;obtain⟨u,rfl,t,rfl⟩:=vals1 r;exact call_abs_int λu tk=>⟨.int (if i<0 then -i else i),H,I.tok _,⟨_,rfl⟩,q⟩
def AC(hc:X.calm=true):e_ X (.builtin "max") (λxs H Q=>∃i j,xs=[.int i,.int j]/\Q (.int (if j > i then j else i)) H):=by
 intro ξ s σ H xs us Q I r h;obtain⟨i,j,rfl,q⟩:=h;obtain⟨u,w',rfl,⟨t,rfl⟩,⟨t',rfl⟩⟩:=vals2 r;refine max_two_ints (I.ok.hd hc) λh' tk k=>⟨_,H,I.kept k,?_,q⟩
 by_cases hj:j > i
 .rw[if_pos hj,if_pos hj];exact⟨_,rfl⟩
 .rw[if_neg hj,if_neg hj];exact⟨_,rfl⟩
def AB(hc:X.calm=true):e_ X (.builtin "min") (λxs H Q=>∃i j,xs=[.int i,.int j]/\Q (.int (if j<i then j else i)) H):=by
 intro ξ s σ H xs us Q I r h;obtain⟨i,j,rfl,q⟩:=h;obtain⟨u,w',rfl,⟨t,rfl⟩,⟨t',rfl⟩⟩:=vals2 r;refine min_two_ints (I.ok.hd hc) λh' tk k=>⟨_,H,I.kept k,?_,q⟩
 by_cases hj:j<i
 .rw[if_pos hj,if_pos hj];exact⟨_,rfl⟩
 .rw[if_neg hj,if_neg hj];exact⟨_,rfl⟩
def AE:e_ X (.type "int") (λxs H Q=>(∃i,xs=[.int i]/\Q (.int i) H)\/∃k,xs=[.bl k]/\Q (.int (if k then 1 else 0)) H):=by
 intro ξ s σ H xs us Q I r h;rcases h with⟨i,rfl,q⟩|⟨k,rfl,q⟩
 .obtain⟨u,rfl,t,rfl⟩:=vals1 r;exact call_int_int ⟨.int i,H,I,⟨_,rfl⟩,q⟩
 .obtain⟨u,rfl,r1⟩:=vals1 r;cases r1;exact call_int_bool ⟨.int (if k then 1 else 0),H,I.tok _,⟨_,rfl⟩,q⟩
end
structure ObjM (h:Heap) (x dx C:Addr) (mA:Str->Option O6):Prop where
 obj:h.get? x=some (WB C dx)
 ns:h.Ns1 dx mA
 ne:dx≠x
def zi{h:Heap}(n:h.Ns1 dx mA):∃od,h.get? dx=some od/\∀name,WP name od=some (mA name):=by
 obtain⟨o,es,ep,ho,hd,hk,_,hm⟩:=n;refine⟨o,ho,λname=>?_⟩;have e:=hm name;unfold nsFind findBy at e;rw[<- Array.find?_toList] at e;unfold WP;rw[hd];dsimp only;split
 .rename_i y q;rw[q] at e;exact congrArg some e
 .rename_i q;rw[q] at e
  have a:es.toList.any (·.refKey)=false:=by
   rw[List.any_eq_false];intro y hy;obtain⟨z,t,hkey⟩:=hk y (Array.mem_toList_iff.mp hy);simp[Vo.refKey,hkey]
  have a' : ¬ es.toList.any (·.refKey)=true:=by rw[a];exact PZ
  rw[if_neg a'];exact congrArg some e
def ObjM.look(I:ObjM h x dx C mA):∃od,PySem.W.InstAt h x (WB C dx) C (some od)/\∀name,WP name od=some (mA name) :=
 let ⟨od,ho,hl⟩:=zi I.ns
 ⟨od,⟨I.obj,rfl,rfl,ho⟩,hl⟩
def RelO.some_of{v:V}(r:RelO (some v) o):∃u,o=some u/\RelV v u:=by
 cases o with
 |none=>exact(show False from r).elim
 |some u=>exact⟨u,rfl,r⟩
section
variable{P:P6}{w:Qp}{H H':Hp}{h h':Heap}{a C dx:Addr}{fs fs':List (Str×V)}
def IE(hok:HOk P w H h)(e:H a=some (.ins C dx fs)):∃mA,ObjM h a dx C mA/\(∀f,RelO (fs.lookup f) (mA f))/\PySem.Within mA (fs.map (·.1))/\fs.length<=1000/\H dx=some (.own a):=by
 obtain⟨d,z,ne,ob,mA,n,r,q⟩:=(show b5 P w H h a (.ins C dx fs) from hok a _ e)
 exact⟨mA,⟨ob,n,ne⟩,r,q,z,d⟩
end
structure Cls (K:Fg) (C:Addr):Prop where
 pg:Yb K C V6=true
 hd:PySem.W.hasDictIn K C=true
 po:PySem.W.plainOver K C=true
 sa:YJ K (.ref C) "__setattr__"=some (some (.builtin "object.__setattr__"))
def Cls.get{K:Fg}(c:Cls K C)(f:Str):Yb K C f=true:=c.pg
section
variable{X:Cx}{ξ:List (Addr×Obj)}{σ:St}{H:Hp}{s:Pe}{A:Qt}{E:O6->Pe->Prop}{Q:O6->Pe->Prop}{c:O6}{b:Bool}
inductive TyOf (K:Fg) (H:Hp):V->O6->Prop where
 |non:TyOf K H .non (.type "NoneType")
 |bl (x:Bool):TyOf K H (.bl x) (.type "bool")
 |int (i:Int):TyOf K H (.int i) (.type "int")
 |str (x:Str):TyOf K H (.str x) (.type "str")
 |flt (x:UInt64):TyOf K H (.flt x) (.type "float")
 |lst {a:Addr} {xs:List V} (e:H a=some (.lst xs)):TyOf K H (.ref a) (.type "list")
 |frz {a:Addr} {o:Obj} {xs:List V} (e:H a=some (.frz o (.lst xs))):TyOf K H (.ref a) (.type "list")
 |tup {a:Addr} {xs:List V} (e:H a=some (.tup xs)):TyOf K H (.ref a) (.type "tuple")
 |dK {a:Addr} {de:List (a7×V)} (e:H a=some (.dK de)):TyOf K H (.ref a) (.type "dict")
 |dT {a:Addr} {de:List (List a7×V)} (e:H a=some (.dT de)):TyOf K H (.ref a) (.type "dict")
 |ins {a C dx:Addr} {fs:List (Str×V)} (e:H a=some (.ins C dx fs)) (cl:Cls K C) (ha:YJ K (.ref C) "__class__"=some (some (.builtin "object.__class__")))
   (hn:PySem.W.specialIn K (.builtin "object.__class__") "__get__"=some (some (.builtin "getset_descriptor.__get__"))) (htk:PySem.W.takesIn K (.builtin "object.__class__")=some true)
   (hm:PySem.W.mroIn K C (.type "object")=some true):TyOf K H (.ref a) (.ref C)
def zD(I:Inv X ξ σ H s)(rx:RelV x u)(ty:TyOf X.K H x t)(e:Ul X.K t c=some b)(h:∀tk,Q (.bool b) {s with toks:=tk}) :
  wpAny (model X.prog X.w) A (call (.builtin "isinstance") [u,c]) Q E s:=by
 cases ty with
 |non=>cases (show u=Rs from rx);exact Rb PySem.W.kitx_none I.kIn SG e (λz=>nomatch z) h
 |bl y=>cases (show u=Wk y from rx);exact Rb PySem.W.kitx_bool I.kIn SG e (λz=>nomatch z) h
 |int i=>obtain⟨t,q⟩:=(show ∃t,u=Tf i t from rx);cases q;exact Rb PySem.W.kitx_int I.kIn SG e (λz=>nomatch z) h
 |str y=>obtain⟨t,q⟩:=(show ∃t,u=W4 y t from rx);cases q;exact Rb PySem.W.kitx_str I.kIn SG e (λz=>nomatch z) h
 |flt y=>obtain⟨t,q⟩:=(show ∃t,u=O6.float y t from rx);cases q;exact Rb PySem.W.kitx_float I.kIn SG e (λz=>nomatch z) h
 |@lst a xs ea =>
  cases (show u=Qi a from rx);obtain⟨_,_,n,_,h1⟩:=(show b5 X.prog X.w H s.heap a (.lst xs) from I.hok a _ ea)
  exact Rb XI I.kIn ⟨_,h1,rfl⟩ e (λz=>nomatch z) h
 |@frz a ob xs ea =>
  cases (show u=Qi a from rx);obtain⟨_,_,_,n,_,h1⟩:=(show b5 X.prog X.w H s.heap a (.frz ob (.lst xs)) from I.hok a _ ea)
  exact Rb XI I.kIn ⟨_,h1,rfl⟩ e (λz=>nomatch z) h
 |@tup a xs ea =>
  cases (show u=Qi a from rx);obtain⟨_,_,_,p⟩:=(show b5 X.prog X.w H s.heap a (.tup xs) from I.hok a _ ea)
  obtain⟨o,h1,⟨h2,_⟩,_⟩:=p;exact Rb PySem.W.kitx_tuple I.kIn ⟨o,h1,h2⟩ e (λz=>nomatch z) h
 |@dK a de ea =>
  cases (show u=Qi a from rx);obtain⟨_,_,vs,_,p⟩:=(show b5 X.prog X.w H s.heap a (.dK de) from I.hok a _ ea)
  obtain⟨o,es,ep,h1,h2,_⟩:=p;exact Rb XJ I.kIn ⟨o,h1,h2.1⟩ e (λz=>nomatch z) h
 |@dT a de ea =>
  cases (show u=Qi a from rx);obtain⟨_,_,xs,_,o,es,ep,h1,h2,_⟩:=(show b5 X.prog X.w H s.heap a (.dT de) from I.hok a _ ea)
  exact Rb XJ I.kIn ⟨o,h1,h2.1⟩ e (λz=>nomatch z) h
 |@ins a C dx fs ea cl ha hn htk hm =>
  cases (show u=Qi a from rx);obtain⟨mA,O,_⟩:=IE I.hok ea;obtain⟨od,J,_⟩:=O.look;exact Rb (PySem.W.kitx_own (cl.get _) cl.hd ha hn htk hm) I.kIn J e (λz=>nomatch z) h
end
structure Room (k:Nat) (A:Qt):Prop where
 hd:A.handled=none
 dp:A.depth+3*k+5<recursionLimit
 un:A.units+16*k+200<cLine
def Room.mono{j:Nat}(r:Room k A)(h:j<=k):Room j A:=⟨r.hd,by have:=r.dp;lia,by have:=r.un;lia⟩
def Room.deeper{k:Nat}(r:Room (k+1) A)(env:Env):Room k (A.deeper env) :=
 ⟨r.hd,by have:=r.dp;show A.depth+1+3*k+5<_;lia,by have:=r.un;show A.units+3+16*k+200<_;lia⟩
def Room.depth(r:Room k A):A.depth<recursionLimit:=by have:=r.dp;lia
def Room.units(r:Room k A):A.units+64<cLine:=by have:=r.un;lia
abbrev aj:TA:=λ_ H Q=>Q [] H
abbrev ae(ta:TE)(tr:TA):TA:=λσ H Q=>ta σ H λx H1=>tr σ H1 λxs H2=>Q (x :: xs) H2
section
variable{X:Cx}{e:Expr}{es:List Expr}{te:TE}{t:TA}{pos:Pos}
def KI:PA X [] aj:=λ_ _ _ _ H Q I h=>Sw ⟨[],H,I,.nil,h⟩
def HQ(ha:PE X e te)(hr:PA X es t)(hs:starEach (e :: es) X.env=(false,eval e X.env) :: starEach es X.env:=by rfl):PA X (e :: es) (ae te t):=by
 intro pos ξ s σ H Q I h;rw[hs];show wpAny _ _ (spliced ((false,eval e X.env) :: backTo pos (starEach es X.env))) _ _ s;refine Sd (bf (ha ξ s σ H _ I h) λu s1 ω=>?_);obtain⟨x,H1,I1,r1,q1⟩:=ω;exact bf (hr pos ξ s1 σ H1 _ I1 q1) (by rintro us s2 ⟨xs,H2,I2,r2,q2⟩;exact ⟨x :: xs,H2,I2,.cons r1 r2,q2⟩)
abbrev be(t:TA):TE:=λσ H Q=>t σ H λxs H1=>xs.length<=sizeLine/\∀p,H1 p=none->Q (.ref p) (upd H1 p (.tup xs))
abbrev bU(t:TA):TE:=λσ H Q=>t σ H λxs H1=>xs.length<=sizeLine/\∀p,H1 p=none->Q (.ref p) (upd H1 p (.lst xs))
def Kt{x1}(h:PA X es t):PE X (.Tuple es x1 pos) (be t):=by
 intro ξ s σ H Q I hq;refine wpAny_Tuple_spliced (bf (h pos ξ s σ H _ I hq) λus s1 ⟨xs,H1,I1,r,z,q⟩=>⟨by rw[<- r.length];exact z,?_⟩);have hf:H1 s1.heap.objs.size=none:=I1.hok.fresh (Pa _);refine⟨.ref s1.heap.objs.size,upd H1 s1.heap.objs.size (.tup xs),I1.laid (t':=s1.toks) (λb u e=>Pf _ e) (Pa _) ?_,rfl,q _ hf⟩;exact⟨z,us,r,TupD.new _ _⟩
def Ky(h:PA X es t):PE X (.List es pos) (bU t):=by
 intro ξ s σ H Q I hq;refine wpAny_List_spliced (bf (h pos ξ s σ H _ I hq) λus s1 ⟨xs,H1,I1,r,z,q⟩=>⟨by rw[<- r.length];exact z,?_⟩);have hf:H1 s1.heap.objs.size=none:=I1.hok.fresh (Pa _);refine⟨.ref s1.heap.objs.size,upd H1 s1.heap.objs.size (.lst xs),I1.laid (t':=s1.toks) (λb u e=>Pf _ e) (Pa _) ?_,rfl,q _ hf⟩;exact⟨z,us,0,r,PR _ rfl⟩
end
nonrec abbrev Sp:=List V->Hp->VK->XK->Prop
nonrec abbrev nH:=List Env->Hp->Pe->XK->O6->Pe->Prop
structure Ey (P:P6) (w:Qp) (K:Fg) (mg:Str->Option O6) (base:Heap) (A:Qt) (outer:List Env) (s:Pe) (H:Hp):Prop where
 frames:A.frames=some outer
 mod:Mod K mg base
 bs:∀b o,base.get? b=some o->s.heap.get? b=some o/\H b=none
 bsz:base.objs.size<=s.heap.objs.size
 funs:s.heap.FunFrames base outer
 frf:∀b∈vK outer,H b=none
 hok:HOk P w H s.heap
 bare:VL s.gens
abbrev CE(outer:List Env)(P:P6)(w:Qp)(H:Hp)(s:Pe)(Q:VK)(u:O6)(s':Pe):Prop :=
 ∃v H',s'.os=s.os/\VL s'.gens/\Un (vK outer) [] H H' s.heap s'.heap/\HOk P w H' s'.heap/\RelV v u/\Q v H'
abbrev CR(CX:nH)(outer:List Env)(P:P6)(w:Qp)(H:Hp)(s:Pe)(Q:VK)(E:XK)(r:Yc)(s':Pe):Prop :=
 match r with
 |.ok (.ret u)=>CE outer P w H s Q u s'
 |.ok _=>False
 |.error e=>CX outer H s E e s'
structure FnOk (P:P6) (w:Qp) (K:Fg) (mg:Str->Option O6) (base:Heap) (CX:nH) (k:Nat) (f:Addr) (fd:Se) (ps:List Str) (sp:Sp):Prop where
 len:∀vs H Q E,sp vs H Q E->vs.length=ps.length
 run:∀(A:Qt) (outer:List Env) (s:Pe) (H:Hp) (args:Args) (us:List O6) (vs:List V) (Q:VK) (E:XK),Room k A->Ey P w K mg base A outer s H->XM s fd args (ps.zip us)->Vals vs us->sp vs H Q E ->
  codeAny (model P w) A (.call (.ref f) args) (CR CX outer P w H s Q E) s
def FnOk.mono{K:Fg}{CX:nH}{k:Nat}(F:FnOk P w K mg base CX j f fd ps sp)(h:j<=k) :
  FnOk P w K mg base CX k f fd ps sp:=⟨F.len,λA outer s H args us vs Q E hr=>F.run A outer s H args us vs Q E (hr.mono h)⟩
def FnOk.imp{K:Fg}{CX:nH}{sp':Sp}(F:FnOk P w K mg base CX k f fd ps sp)
  (h:∀vs H Q E,sp' vs H Q E->sp vs H Q E):FnOk P w K mg base CX k f fd ps sp' :=
 ⟨λvs H Q E q=>F.len vs H Q E (h _ _ _ _ q),λA outer s H args us vs Q E hr he hb hv hs=>F.run A outer s H args us vs Q E hr he hb hv (h _ _ _ _ hs)⟩
section
variable{X:Cx}{ξ:List (Addr×Obj)}{σ:St}{H:Hp}{s s':Pe}
def Inv.env0(I:Inv X ξ σ H s):Ey X.prog X.w X.K X.mg X.base X.A X.stack s H :=
 ⟨I.ok.frames,I.ok.mod,I.bs,Pj I.ok.bsz I.sz,I.stack,I.xu,I.hok,I.bare⟩
def Inv.after(I:Inv X ξ σ H s)(h:CE X.stack X.prog X.w H s Q u s'):EP X ξ σ Q u s':=by
 obtain⟨v,H',os,bare,un,hok,r,q⟩:=h;obtain⟨hh,g,d,t,os'⟩:=s';obtain rfl:os'=s.os:=os;exact⟨v,H',I.call (h':=hh) (g':=g) (d':=d) (t':=t) (ch:=[]) un hok bare (λb z=>absurd z (by simp)),r,q⟩
end
abbrev aC(sp:Sp)(dJ:List V)(E:XK)(t:TA):TE:=λσ H Q=>t σ H λvs H1=>sp (vs++dJ) H1 Q E
abbrev Binds(K:Fg)(fd:Se)(ps:List Str)(ds:List O6):Prop :=
 ∀(s:Pe) (us:List O6),K.In s.heap->(us++ds).length=ps.length->XM s fd ⟨us,[]⟩ (ps.zip (us++ds))
def Binds.all{K:Fg}{ps:List Str}(h:∀us:List O6,us.length=ps.length->bindArgs fd ⟨us,[]⟩=pure (ps.zip us)):Binds K fd ps []:=λs us _ hl=>by
 rw[RW] at hl ⊢;exact .of_eq (h us hl)
abbrev nu(CX:nH)(X:Cx)(E:XK):Prop:=∀(ξ:List (Addr×Obj)) (σ:St) (H:Hp) (s:Pe) (e:O6) (s':Pe),Inv X ξ σ H s->CX X.stack H s E e s'->X.xe e s'
section
variable{X:Cx}{CX:nH}{k:Nat}{f C:Addr}{fd:Se}{ps:List Str}{sp:Sp}{dJ:List V}{ds:List O6}{E:XK}{x m:Str}{p pos apos:Pos}{e o:Expr}{es:List Expr}{ta:TE}{t:TA}
def JM{H:Hp}{vs:List V}(F:FnOk X.prog X.w X.K X.mg X.base CX k f fd ps sp)(hr:Room k X.A)(hb:Binds X.K fd ps ds)(hd:Vals dJ ds)(hx:nu CX X E)
  (I:Inv X ξ σ H s) (r:Vals vs us) (h:sp (vs++dJ) H Q E):wpAny (model X.prog X.w) X.A (call (.ref f) us) (EP X ξ σ Q) X.xe s:=by
 have r2:Vals (vs++dJ) (us++ds):=r.append hd;have hl:(us++ds).length=ps.length:=by rw[<- r2.length];exact F.len _ _ _ _ h
 refine wpAny_call (Ve (F.run X.A X.stack s H ⟨us,[]⟩ (us++ds) (vs++dJ) Q E hr I.env0 (hb s us I.kIn hl) r2 h) λr s' hq=>?_);cases r with
 |error e=>exact hx ξ σ H s e s' I hq
 |ok fl =>
  cases fl with
  |ret u=>exact I.after hq
  |next=>exact SY hq
  |brk=>exact SY hq
  |cont=>exact SY hq
def HN(F:FnOk X.prog X.w X.K X.mg X.base CX k f fd ps sp)(hr:Room k X.A)(hg:Gl X x)(hm:X.mg x=⇑f)(hk:SQ X.K (.ref f)=true)(hb:Binds X.K fd ps ds)(hd:Vals dJ ds)(hx:nu CX X E)
  (ha:PA X (e :: es) t) (hdb:(x == ("__debug__":Str))=false:=by decide) (he:starEach (e :: es) X.env=(false,eval e X.env) :: starEach es X.env:=by rfl) (hpl:(backTo pos (starEach es X.env)).any (·.1)=false:=by rfl) :
  PE X (.Call (.Name x p) (e :: es) [] pos) (aC sp dJ E t):=by
 intro ξ s σ H Q I h;refine RK (zq I hg hm ?_ hdb);refine PySem.W.callWith_K (h₀:=X.base) I.ok.mod.kin hk (bf (ha pos ξ s σ H _ I h) λus s1 ⟨vs,H1,I1,r,q⟩=>⟨I1.kIn,?_⟩) he hpl;exact JM F hr hb hd hx I1 r q
end
structure ay (N P:List Str) (sc:Scope):Prop where
 kind:sc.kind=.function
 co:sc.isCoroutine=false
 gen:sc.isGenerator=false
 nd:N.Nodup
 pre:N.take P.length=P
 par:∀x∈P,sc.names.lookup x=some .local\/sc.names.lookup x=some .cell
 nofree:∀y∈sc.names,y.2≠.free
def pP{kindOf:Str->Option V7}{x:Str}:∀{binds:List (Str×O6)} {m:Str->Option O6},(∀v,(x,v)∉binds)->bindL kindOf binds m x=m x
 |[],_,_=>rfl
 |(n,v) :: r,m,h=>by
  unfold bindL;rw[pP λw hw=>h w (O9 _ hw)];split
  .have:x≠n:=by rintro rfl;exact h v O8
   simp[this]
  .rfl
def pR{kindOf:Str->Option V7}{x:Str}:∀{binds:List (Str×O6)} {m:Str->Option O6},(∀v,(x,v)∉binds)->bindC kindOf binds m x=m x
 |[],_,_=>rfl
 |(n,v) :: r,m,h=>by
  unfold bindC;rw[pR λw hw=>h w (O9 _ hw)];split
  .rfl
  .have:x≠n:=by rintro rfl;exact h v O8
   simp[this]
def pQ{kindOf:Str->Option V7}{x:Str}{v:O6}:∀{P:List Str} {vs:List O6} {i:Nat} {m:Str->Option O6},P.Nodup->P[i]?=some x->vs[i]?=some v->kindOf x=some .local ->
  bindL kindOf (P.zip vs) m x=some v
 |[],_,_,_,_,h,_,_=>by simp at h
 |_ :: _,[],_,_,_,_,h,_=>by simp at h
 |p :: P,w :: vs,0,m,nd,h1,h2,hk=>by
  simp at h1 h2;subst h1;subst h2;show bindL kindOf ((p,w) :: P.zip vs) m p=_;unfold bindL;rw[pP λv hv=>(Qf.mp nd).1 (WC hv).1,if_pos hk];simp
 |p :: P,w :: vs,i+1,m,nd,h1,h2,hk=>by
  show bindL kindOf ((p,w) :: P.zip vs) m x=_;unfold bindL;exact pQ (i:=i) (Qf.mp nd).2 (by simpa using h1) (by simpa using h2) hk
def pS{kindOf:Str->Option V7}{x:Str}{v:O6}:∀{P:List Str} {vs:List O6} {i:Nat} {m:Str->Option O6},P.Nodup->P[i]?=some x->vs[i]?=some v->kindOf x≠some .local ->
  bindC kindOf (P.zip vs) m x=some v
 |[],_,_,_,_,h,_,_=>by simp at h
 |_ :: _,[],_,_,_,_,h,_=>by simp at h
 |p :: P,w :: vs,0,m,nd,h1,h2,hk=>by
  simp at h1 h2;subst h1;subst h2;show bindC kindOf ((p,w) :: P.zip vs) m p=_;unfold bindC;rw[pR λv hv=>(Qf.mp nd).1 (WC hv).1,if_neg hk];simp
 |p :: P,w :: vs,i+1,m,nd,h1,h2,hk=>by
  show bindC kindOf ((p,w) :: P.zip vs) m x=_;unfold bindC;exact pS (i:=i) (Qf.mp nd).2 (by simpa using h1) (by simpa using h2) hk
abbrev start(N:List Str)(vs:List V):St:=vs.map some++PV (N.length-vs.length) none
abbrev mV(CX:nH)(P:P6)(w:Qp)(K:Fg)(mg:Str->Option O6)(base:Heap)(N:List Str)(qual:Str)(scope:Scope)(f:Addr)(cd:O6)(A:Qt)(outer:List Env)(s:Pe)(H:Hp)(E:XK):Cx where
 prog:=P
 w:=w
 K:=K
 mg:=mg
 base:=base
 A:=A.deeper (envOfC qual scope s.heap.objs.size f cd)
 N:=N
 s₀:=s
 H₀:=H
 env:=envOfC qual scope s.heap.objs.size f cd
 outer:=outer
 stack:=envOfC qual scope s.heap.objs.size f cd :: outer
 ex:=[]
 calm:=true
 fn:=λ_=>true
 pn:=[]
 xe:=λe s'=>wpAny (model P w) (A.deeper (envOfC qual scope s.heap.objs.size f cd)) (leaving (envOfC qual scope s.heap.objs.size f cd) e) (λ_ s''=>CX outer H s E e s'') (λe' s''=>CX outer H s E e' s'') s'
def uq{sc:Scope}(h:sc.names.lookup x=some .cell):∃c,(cellsFrom n sc.names []).lookup x=some c:=by
 have q:=Wn sc.names n [] (.inl h);exact T6.mp q
def zE{CX:nH}{K:Fg}{A:Qt}{vs:List V}
  (S:ay N ps scope) (hd:A.handled=none) (e0:Ey P w K mg base A outer s H) (hl:vs.length=ps.length) (r:Vals vs us)
  (x:InCallC s s.heap.objs.size (bindL (envOfC qual scope s.heap.objs.size f cd).kindOf (ps.zip us) λ_=>none) (cellsFrom (s.heap.objs.size+1) scope.names []) (bindC (envOfC qual scope s.heap.objs.size f cd).kindOf (ps.zip us) λ_=>none) s1) :
  Inv (mV CX P w K mg base N qual scope f cd A outer s H E) [] (start N vs) H s1:=by
 have hpl:ps.length<=N.length:=by have:=congrArg Rg S.pre;rw[Px] at this;lia
 obtain⟨h1,tk,rfl,hk⟩:=x.done;have noA:∀b:Addr,b∉(mV CX P w K mg base N qual scope f cd A outer s H E).ex:=λb z=>absurd (show b∈([]:List Addr) from z) (by simp)
 refine⟨⟨e0.mod,S.kind,rfl,rfl,Pa _,λy z c h1 h2=>?_,λy hy=>?_,λy c _ h=>?_,λ_=>hd,Qt.frames_deeper e0.frames,.inr ⟨rfl,rfl⟩,λb z=>absurd z (noA b),e0.bs,e0.bsz,λb _ _=>noA b,λb z=>absurd z (noA b),e0.funs,e0.frf⟩,
  rfl,e0.bare,Un.kept hk,⟨_,x.toInCall.ns,λi y v h1 h2 h3=>?_⟩,λy c h=>⟨_,x.cell y c h⟩,e0.hok.fresh (Pa _),λy c h=>?_,λp hp=>absurd (show p∈([]:List (Addr×Obj)) from hp) (by simp),e0.hok.kept hk,?_⟩
 .exact name_of_addr x.apart (SL h1) (SL h2)
 .have hy:scope.names.lookup y=some .cell\/scope.names.lookup y=some .free:=hy;rcases hy with hy|hy
  .exact uq hy
  .exact absurd rfl (S.nofree _ (SL hy))
 .exact Rx (x.above y c (SL h))
 .have hi:i<vs.length:=by
   unfold start at h2;by_cases hi:i<vs.length
   .exact hi
   .rw[QG (by simpa using hi)] at h2;rw[List.getElem?_replicate] at h2;split at h2 <;> cases h2
  have ha:vs[i]?=some v:=by
   unfold start at h2;rw[Qu (by simpa using hi),O4] at h2;cases e:vs[i]? with
   |none=>rw[e] at h2;cases h2
   |some a=>rw[e] at h2;cases h2;rfl
  obtain⟨u,hu,rv⟩:=r.get ha
  have hp:ps[i]?=some y:=by
   rw[<- S.pre,VX (by lia)];exact h1
  have ndP:ps.Nodup:=by rw[<- S.pre];exact S.nd.sublist (Um _ _)
  refine⟨u,rv,?_⟩;rcases S.par y (O7 hp) with k|k
  .exact .inl ⟨k,pQ ndP hp hu k⟩
  .obtain⟨c,e⟩:=uq (n:=s.heap.objs.size+1) k;refine .inr ⟨.inl k,c,e,?_⟩;have q:=x.cell y c e;rw[pS ndP hp hu (by show scope.names.lookup y≠_;rw[k];decide)] at q;exact q
 .exact e0.hok.fresh (Rx (x.above y c (SL h)))
 .unfold start;show _=N.length;rw[Pm,O0,Si];lia
def Oo{CX:nH}{K:Fg}{dV kV oc:O6}{od:Option Addr}
  {osl:Array (Option O6)}  {sp:Sp} (lk:K.lookup f=some ⟨oc,od,.func (RA name qual params body scope dV kV doc pm an cdv ct),osl⟩) (hcd:Tv K cdv qual=true) (S:ay N ps scope)
  (len:∀vs H Q E,sp vs H Q E->vs.length=ps.length)
  (hbody:∀(A:Qt) (outer:List Env) (s:Pe) (H:Hp) (vs:List V) (Q:VK) (E:XK),Room k (A.deeper (envOfC qual scope s.heap.objs.size f cdv))->sp vs H Q E ->
   ∃t,PSs (mV CX P w K mg base N qual scope f cdv A outer s H E) body t/\t {nx:=λ_ H'=>Q .non H',rt:=Q} (start N vs) H) :
  FnOk P w K mg base CX (k+1) f (RA name qual params body scope dV kV doc pm an cdv ct) ps sp:=by
 refine⟨len,λA outer s H args us vs Q E hr e0 hb r hsp=>?_⟩;have hl:=len _ _ _ _ hsp;have KX:K.In s.heap:=e0.mod.kin.keeps λb o e=>(e0.bs b o e).1
 have lim:s.heap.NoLimit:=e0.mod.nolimit.keeps λb o e=>(e0.bs b o e).1
 have hkind:∀y∈ps.zip us,scope.names.lookup y.1=some .local\/(scope.names.lookup y.1=some .cell/\((cellsFrom (s.heap.objs.size+1) scope.names []).lookup y.1).isSome=true):=λ⟨n,v⟩ hy=>by
  rcases S.par n (WC hy).1 with q|q
  .exact .inl q
  .exact .inr ⟨q,Wn _ _ _ (.inl q)⟩
 refine codeAny_call_function hr.depth (KX _ _ lk) rfl S.co S.gen rfl (PySem.W.codeRec_of KX hcd) (hb _ _ _ _ ?_);refine wpAny_newFunctionEnv_cells S.kind hkind λenv he s1 x=>?_
 subst he;refine⟨lim.keeps x.toInCall.keep,codeAny_func ?_⟩;obtain⟨t,ht,hq⟩:=hbody A outer s H vs Q E (hr.deeper _) hsp;have I:Inv (mV CX P w K mg base N qual scope f cdv A outer s H E) [] (start N vs) H s1:=zE S hr.hd e0 hl r x;refine Rf (ht [] s1 (start N vs) H _ I hq) (λfl s' hs=>?_) λe s' hs=>hs
 have fin:∀{σ':St} {H':Hp} {v:V} {u:O6},Inv (mV CX P w K mg base N qual scope f cdv A outer s H E) [] σ' H' s'->RelV v u->Q v H'->CE outer P w H s Q u s' :=
  λ{σ' H' v u} J rv q=>⟨v,H',J.os,J.bare,J.base,J.hok,rv,q⟩
 cases fl with
 |ret u =>
  obtain⟨v,σ',H',J,rv,q⟩:=hs;exact fin J rv q
 |next =>
  obtain⟨σ',H',J,q⟩:=hs;exact fin (v:=V.non) (u:=Rs) J rfl q
 |brk =>
  obtain⟨_,_,_,q⟩:=hs;exact SY q
 |cont =>
  obtain⟨_,_,_,q⟩:=hs;exact SY q
section
variable{X:Cx}{x:Str}{p pos:Pos}{e:Expr}{es:List Expr}{t:TA}{id T:String}{r:List V->Hp->VK->Prop}
abbrev b_(r:List V->Hp->VK->Prop)(t:TA):TE:=λσ H Q=>t σ H λvs H1=>r vs H1 Q
def eV(hc:e_ X (.builtin id) r) (hg:Gl X x) (hm:X.mg x=none) (hv:bootBuiltins x=some (.builtin id)) (ha:PA X (e :: es) t) (hn:x≠"__name__":=by decide) (hdb:(x == ("__debug__":Str))=false:=by decide)
  (he:starEach (e :: es) X.env=(false,eval e X.env) :: starEach es X.env:=by rfl) (hpl:(backTo pos (starEach es X.env)).any (·.1)=false:=by rfl):PE X (.Call (.Name x p) (e :: es) [] pos) (b_ r t):=by
 intro ξ s σ H Q I h;refine RK (eE I hg hm hv ?_ hn hdb);exact UC (bf (ha pos ξ s σ H _ I h) (by rintro us s1 ⟨vs,H1,I1,r1,q1⟩;exact hc ξ s1 σ H1 vs us Q I1 r1 q1)) he hpl
def jc(hc:e_ X (.type T) r) (hg:Gl X x) (hm:X.mg x=none) (hv:bootBuiltins x=some (.type T)) (ha:PA X (e :: es) t) (hn:x≠"__name__":=by decide) (hdb:(x == ("__debug__":Str))=false:=by decide)
  (he:starEach (e :: es) X.env=(false,eval e X.env) :: starEach es X.env:=by rfl) (hpl:(backTo pos (starEach es X.env)).any (·.1)=false:=by rfl):PE X (.Call (.Name x p) (e :: es) [] pos) (b_ r t):=by
 intro ξ s σ H Q I h;refine RK (eE I hg hm hv ?_ hn hdb);exact QD (bf (ha pos ξ s σ H _ I h) (by rintro us s1 ⟨vs,H1,I1,r1,q1⟩;exact hc ξ s1 σ H1 vs us Q I1 r1 q1)) he hpl
end
end L2
namespace HT
open PySem PyProof.Rows
section
variable{prog:P6}{w:Qp}{A:Qt}{E:O6->Pe->Prop}{s:Pe}
abbrev sIx(n d:Nat):Option Int->Nat
 |none=>d
 |some v=>if v<0 then (v+(n:Int)).toNat else min v.toNat n
end
end HT
namespace L2
open PySem PySem.Spec PyProof.Rows
nonrec abbrev TO:=St->Hp->(Option Int->Hp->Prop)->Prop
abbrev PO(X:Cx)(e:Option Expr)(t:TO):Prop :=
 ∀(ξ:List (Addr×Obj)) (s:Pe) (σ:St) (H:Hp) (Q:Option Int->Hp->Prop),Inv X ξ σ H s->t σ H Q ->
  wpAny (model X.prog X.w) X.A (evalPart e X.env) (λu s'=>∃o H',Inv X ξ σ H' s'/\IsPart u o/\Q o H') X.xe s
abbrev lE:TO:=λ_ H Q=>Q none H
abbrev BW(t:TE):TO:=λσ H Q=>t σ H λx H1=>∃i,x=.int i/\Q (some i) H1
def intsAre_of{ns:List Int}:∀{us:List O6},Vals (ns.map V.int) us->To us ns:=by
 induction ns with
 |nil=>intro us r;rw[Vf] at r;cases r;exact .nil
 |cons n ns ih =>
  intro us r;rw[Qn] at r;cases r with
  |cons r1 r2 =>
   obtain⟨t,e⟩:=r1;subst e;exact .cons n t (ih r2)
section
variable{X:Cx}{e:Expr}{te:TE}{lo hi:Option Expr}{tl th:TO}{pos p2:Pos}
def HC:PO X none lE:=by
 intro ξ s σ H Q I h;rw[evalPart_none];exact Pt ⟨none,H,I,.none,h⟩
def HB(h:PE X e te):PO X (some e) (BW te):=by
 intro ξ s σ H Q I hw;rw[evalPart_some];refine bf (h ξ s σ H _ I hw) λu s1 ω=>?_;obtain⟨x,H1,I1,r1,q1⟩:=ω
 obtain⟨i,rfl,q⟩:=q1;obtain⟨t,rfl⟩:=r1;exact⟨some i,H1,I1,.int i t,q⟩
abbrev MY(X:Cx)(r:V->Option Int->Option Int->Hp->VK->Prop):Prop :=
 ∀(ξ:List (Addr×Obj)) (s:Pe) (σ:St) (H:Hp) (x:V) (v vl vu:O6) (lo hi:Option Int) (sl:Addr) (Q:VK),Inv X ξ σ H s->RelV x v->s.heap.IsSliceOf sl vl vu .none->IsPart vl lo->IsPart vu hi->r x lo hi H Q ->
  ∃T id,typeLookup (.type T) "__getitem__"=pure (some (.builtin id))/\s.TypeIs v T/\wpAny (model X.prog X.w) X.A (getItem v (.ref sl)) (EP X ξ σ Q) X.xe s
abbrev MT(r:V->Option Int->Option Int->Hp->VK->Prop)(te:TE)(tl th:TO):TE:=λσ H Q=>te σ H λx H1=>tl σ H1 λl H2=>th σ H2 λu H3=>r x l u H3 Q
def Da(hr:MY X r)(he:PE X e te)(hl:PO X lo tl)(hu:PO X hi th):PE X (.Subscript e (.Slice lo hi none p2) pos) (MT r te tl th):=by
 intro ξ s σ H Q I h;refine Subscript_ (bf (he ξ s σ H _ I h) λv s1 ω=>?_);obtain⟨x,H1,I1,r1,q1⟩:=ω;refine wpAny_Slice (bf (hl ξ s1 σ H1 _ I1 q1) λvl s2 ⟨l,H2,I2,pl,q2⟩=>bf (hu ξ s2 σ H2 _ I2 q2) λvu s3 ω=>?_);obtain⟨u,H3,I3,pu,q3⟩:=ω;rw[evalPart_none];refine Pt ?_;have I4:Inv X ξ σ H3 {s3 with heap:=s3.heap.push {cls:=.type "slice",data:=.fields #[vl,vu,.none]}}:=I3.kept (t':=s3.toks) λb ob q=>Pf _ q
 obtain⟨T,id,hT,ht,hg⟩:=hr ξ {s3 with heap:=s3.heap.push {cls:=.type "slice",data:=.fields #[vl,vu,.none]}} σ H3 x v vl vu l u s3.heap.objs.size Q I4 r1 (Heap.IsSliceOf.new ..) pl pu q3;show wpAny (model X.prog X.w) X.A (subscriptTail e (.Slice lo hi none p2) v (.ref s3.heap.objs.size)) (EP X ξ σ Q) X.xe {s3 with heap:=s3.heap.push {cls:=.type "slice",data:=.fields #[vl,vu,.none]}};exact tail_any (ops:=[.ref s3.heap.objs.size,v]) ht hT hg (by with_unfolding_all rfl)
abbrev vC(xs:List V)(lo hi:Option Int):List V:=(xs.drop (HT.sIx xs.length 0 lo)).take (HT.sIx xs.length xs.length hi-HT.sIx xs.length 0 lo)
def sj(xs:List V)(lo hi:Option Int):(vC xs lo hi).length<=xs.length:=by
 unfold vC;rw[Px,Rc];lia
end
abbrev DR(n:Nat)(i:Int):Option Nat:=if 0<=i then (if i<n then some i.toNat else none) else if -(n:Int)<=i then some (i+n).toNat else none
abbrev ur{α:Type}(xs:List α)(i:Int):Option α:=(DR xs.length i).bind λj=>xs[j]?
def zB{j:Nat}(h:DR n i=some j):seqIndex? i n=some j/\j<n/\-(n:Int)<=i/\i<n:=by
 unfold DR at h;by_cases h0:0<=i
 .rw[if_pos h0] at h;by_cases h1:i<n
  .rw[if_pos h1] at h;have e:i.toNat=j:=PD h;exact⟨by rw[Yq h0 h1,e],by lia,by lia,h1⟩
  .rw[if_neg h1] at h;cases h
 .rw[if_neg h0] at h;by_cases h1 : -(n:Int)<=i
  .rw[if_pos h1] at h;have e:(i+n).toNat=j:=PD h;exact⟨by rw[XN (by lia) h1,e],by lia,h1,by lia⟩
  .rw[if_neg h1] at h;cases h
def sv{α:Type}{xs:List α}{v:α}(h:ur xs i=some v):∃j,seqIndex? i xs.length=some j/\xs[j]?=some v/\j<xs.length/\-(xs.length:Int)<=i/\i<xs.length:=by
 unfold ur at h;cases e:DR xs.length i with
 |none=>rw[e] at h;cases h
 |some j =>
  rw[e] at h;obtain⟨h1,h2,h3,h4⟩:=zB e;exact⟨j,h1,h,h2,h3,h4⟩
def aO{α:Type}{xs:List α}{j:Nat}{v:α}(h:xs[j]?=some v):ur xs (j:Int)=some v:=by
 have hj:j<xs.length:=(O3.mp h).1
 have e:DR xs.length (j:Int)=some j:=by
  unfold DR;rw[if_pos (by lia),if_pos (by lia)];simp
 unfold ur;rw[e];exact h
abbrev Ja(b:Expr):Prop:=∀o i,subscripted b false o i=operate [o,i] (getItem o i)
abbrev MJ(X:Cx)(r:R2):Prop :=
 ∀(value slice:Expr) (ξ:List (Addr×Obj)) (s:Pe) (σ:St) (H:Hp) (x y:V) (v u:O6) (Q:VK),Inv X ξ σ H s->RelV x v->RelV y u->r x y H Q ->
  subscripted slice false v u=operate [v,u] (getItem v u)->wpAny (model X.prog X.w) X.A (subscriptTail value slice v u) (EP X ξ σ Q) X.xe s
abbrev ON(X:Cx)(id:String)(r:V->List V->Hp->VK->Prop):Prop :=
 ∀(ξ:List (Addr×Obj)) (s:Pe) (σ:St) (H:Hp) (x:V) (xs:List V) (v:O6) (us:List O6) (Q:VK),Inv X ξ σ H s->RelV x v->Vals xs us->r x xs H Q ->
  wpAny (model X.prog X.w) X.A (call (.builtin id) (v :: us)) (EP X ξ σ Q) X.xe s
section
variable{X:Cx}{a b:Expr}{ta tb:TE}{pos:Pos}
def Nk(hr:MJ X r)(ha:PE X a ta)(hb:PE X b tb)(hs:Ja b):PE X (.Subscript a b pos) (ar r ta tb):=by
 intro ξ s σ H Q I h;exact Subscript_ (IU ha hb I h λv u s2 x y H2 I2 rx ry q=>hr a b ξ s2 σ H2 x y v u Q I2 rx ry q (hs _ _))
abbrev bY(K:Fg):R2:=λx y H Q=>∃p xs i v,x=.ref p/\y=.int i/\SqL K H p xs/\ur xs i=some v/\Q v H
abbrev aD(K:Fg):R2:=λx y H Q=>∃p xs i v,x=.ref p/\y=.int i/\SqT K H p xs/\ur xs i=some v/\Q v H
abbrev Hl:R2:=λx y H Q=>∃z i c,x=.str z/\y=.int i/\z.length<=sizeLine/\ur z.cps.toList i=some c/\Q (.str ⟨#[c]⟩) H
def ID:MJ X (bY X.K):=by
 intro value slice ξ s σ H x y v u Q I rx ry h hs;obtain⟨p,xs,i,z,rfl,rfl,hq,he,q⟩:=h;cases rx;obtain⟨t,rfl⟩:=ry;obtain⟨gV,r,pl,hz⟩:=I.list hq;obtain⟨j,h1,h2,h3,h4,h5⟩:=sv he;obtain⟨w,ew,rw'⟩:=r.get h2;have hl:=r.length;have hn:=o4;have fin:EP X ξ σ Q w s:=⟨z,H,I,rw',q⟩
 by_cases h0:0<=i
 .have hj:i.toNat=j:=by
   rw[Yq h0 h5] at h1;exact PD h1
  exact item_listR pl.isList h0 (by lia) (by rw[hj];simpa using ew) fin hs
 .have hj:(i+(gV.toArray.size:Int)).toNat=j:=by
   rw[XN (by lia) h4] at h1;rw[PM,<- hl];exact PD h1
  exact Wo (x:=w) pl.isList.typeIs slot_list_getitem.lookup
   (wpAny_getItem_list_neg (Q:=λr s'=>r=w/\EP X ξ σ Q r s') pl.isList (by lia) (by rw[PM] <;> lia) (by lia) (by rw[hj];simpa using ew) ⟨rfl,fin⟩) hs
def LM:MJ X (aD X.K):=by
 intro value slice ξ s σ H x y v u Q I rx ry h hs;obtain⟨p,xs,i,z,rfl,rfl,hq,he,q⟩:=h;cases rx;obtain⟨t,rfl⟩:=ry;obtain⟨gV,r,pl,hz⟩:=I.tuple hq;obtain⟨j,h1,h2,h3,h4,h5⟩:=sv he;obtain⟨w,ew,rw'⟩:=r.get h2;have hl:=r.length;have hn:=o4;have fin:EP X ξ σ Q w s:=⟨z,H,I,rw',q⟩
 exact Wo (x:=w) pl.typeIs slot_tuple_getitem.lookup
  (getItem_tuple (j:=j) (Q:=λr s'=>r=w/\EP X ξ σ Q r s') pl (by lia) (by lia) (by rw[PM,<- hl];exact h1) (by simpa using ew) ⟨rfl,fin⟩) hs
def LN:MJ X Hl:=by
 intro value slice ξ s σ H x y v u Q I rx ry h hs;obtain⟨z,i,c,rfl,rfl,hz,he,q⟩:=h;obtain⟨t,rfl⟩:=rx;obtain⟨t',rfl⟩:=ry;obtain⟨j,h1,h2,h3,h4,h5⟩:=sv he;have hl:z.cps.toList.length=z.length:=by simp[YK]
 rw[hl] at h1 h4 h5;have hn:=o4
 exact tail_any (typeIs_str s z t) slot_str_getitem.lookup (getItem_str (c:=c) (by
  have e1:decide (i < -(2 ^ 63:Int))=false:=decide_eq_false (by lia)
  have e2:decide (i≥2 ^ 63)=false:=decide_eq_false (by lia)
  rw[e1,e2,Bool.or_false]) (by rw[h1];simpa using h2) ⟨.str ⟨#[c]⟩,H,I.tok _,⟨_,rfl⟩,q⟩) hs
def ve(gV:List O6) (n j:Nat) (u:O6):Ua (·.setIfInBounds j u) {cls:=.type "list",data:=.seq gV.toArray n} = {cls:=.type "list",data:=.seq (gV.set j u).toArray n}:=by
 simp[Ua]
def Inv.lst{ξ:List (Addr×Obj)}{σ:St}{H:Hp}{s:Pe}{p:Addr}{xs:List V}(I:Inv X ξ σ H s)(h:H p=some (.lst xs)) :
  ∃(gV:List O6) (n:Nat),Vals xs gV/\s.heap.get? p=some {cls:=.type "list",data:=.seq gV.toArray n}/\xs.length<=sizeLine:=by
 obtain⟨z,gV,n,r,e⟩:=I.hok p _ h;exact⟨gV,n,r,e,z⟩
def Inv.K_{H:Hp}{gV its':List O6}{f:Obj->Obj}(I:Inv X ξ σ H s)(h:H p=some (.lst xs))
  (ho:s.heap.get? p=some {cls:=.type "list",data:=.seq gV.toArray n}) (hf:f {cls:=.type "list",data:=.seq gV.toArray n} = {cls:=.type "list",data:=.seq its'.toArray n'}) (r:Vals ys its') (hz:ys.length<=sizeLine) (t:Nat) :
  Inv X ξ σ (upd H p (.lst ys)) {s with heap:=s.heap.update p f,toks:=t}:=by
 have e:(s.heap.update p f).get? p=some {cls:=.type "list",data:=.seq its'.toArray n'}:=by
  rw[Q5 f ho (by rw[hf] <;> rfl),hf]
 refine I.write (x:=p) (e:=p) (by rw[h];trivial) (.inl rfl) (λb u hb q=>(Wr _ _ (Vd hb)).trans q) ⟨_,e⟩ ?_;exact⟨hz,its',n',r,e⟩
abbrev Hg:V->V->V->Hp->(Hp->Prop)->Prop:=λo i v H Q=>∃p xs k j,o=.ref p/\i=.int k/\H p=some (.lst xs)/\DR xs.length k=some j/\Q (upd H p (.lst (xs.set j v)))
def xU:MD X Hg:=by
 intro ξ s σ H o i v ov iv u Q I ro ri rv h;obtain⟨p,xs,k,j,rfl,rfl,hp,hj,q⟩:=h;cases ro;obtain⟨t,rfl⟩:=ri;obtain⟨gV,n,r,ho,hz⟩:=I.lst hp;obtain⟨h1,h2,h3,h4⟩:=zB hj;have hl:=r.length;have hn:=o4
 have I':Inv X ξ σ (upd H p (.lst (xs.set j v))) {s with heap:=s.heap.update p (Ua (·.setIfInBounds j u))} :=
  I.K_ hp ho (ve gV n j u) (r.set rv j) (by rw[T9];exact hz) s.toks
 by_cases h0:0<=k
 .have hk:k.toNat=j:=by
   rw[Yq h0 h4] at h1;exact PD h1
  exact PySem.W.ki_setAt ho h0 (by lia) (by rw[PM,<- hl];exact h4) (by rw[hk];exact⟨_,I',q⟩)
 .have hk:(k+(gV.toArray.size:Int)).toNat=j:=by
   rw[XN (by lia) h3] at h1;rw[PM,<- hl];exact PD h1
  exact PySem.W.ki_setBack ho (by lia) (by rw[PM,<- hl];exact h3) (by lia) (by rw[hk];exact⟨_,I',q⟩)
def nU(lo hi:Option Int)(n:Nat):(sliceBounds lo hi none n).1=((HT.sIx n 0 lo:Nat):Int)/\(sliceBounds lo hi none n).2.1=((HT.sIx n n hi:Nat):Int)/\(sliceBounds lo hi none n).2.2=1:=by
 refine⟨?_,?_,rfl⟩
 .cases lo with
  |none=>simp[sliceBounds,HT.sIx]
  |some i =>
   simp only[sliceBounds,HT.sIx,Yd,show(1:Int) > 0 by decide,if_true];by_cases h:i<0
   .simp only[h,if_true] <;> lia
   .simp only[h,if_false] <;> lia
 .cases hi with
  |none=>simp[sliceBounds,HT.sIx]
  |some i =>
   simp only[sliceBounds,HT.sIx,Yd,show(1:Int) > 0 by decide,if_true];by_cases h:i<0
   .simp only[h,if_true] <;> lia
   .simp only[h,if_false] <;> lia
def lQ(gV:List O6)(lo hi:Option Int):slicePick gV.toArray lo hi none=((gV.drop (HT.sIx gV.length 0 lo)).take (HT.sIx gV.length gV.length hi-HT.sIx gV.length 0 lo)).toArray:=by
 obtain⟨h1,h2,h3⟩:=nU lo hi gV.toArray.size;unfold slicePick;rw[h1,h2,h3];simp only[sliceRange_one,pick_run,PM] <;> rfl
abbrev J2(K:Fg):V->Option Int->Option Int->Hp->VK->Prop:=λx lo hi H Q=>∃a xs,x=.ref a/\SqL K H a xs/\∀p,H p=none->Q (.ref p) (upd H p (.lst (vC xs lo hi)))
def GC:MY X (J2 X.K):=by
 intro ξ s σ H x v vl vu lo hi sl Q I rx hs pl pu h;obtain⟨a,xs,rfl,hx,q⟩:=h;cases rx;obtain⟨gV,r,ht,hz⟩:=I.list hx;have hlen:=r.length;refine⟨"list",_,slot_list_getitem.lookup,ht.isList.typeIs,?_⟩;refine wpAny_getItem_list_slice ht.isList hs pl pu .none (by simp) ?_ (by rw[PM] <;> lia);rw[lQ,<- hlen];refine⟨.ref s.heap.objs.size,_,I.laid (t':=s.toks) (o:=.lst (vC xs lo hi)) (λb ob q=>Pf _ q) (Pa _) ?_,rfl,q _ (I.hok.fresh (Pa _))⟩;exact⟨Pj (sj xs lo hi) hz,_,0,(r.drop (HT.sIx xs.length 0 lo)).take (HT.sIx xs.length xs.length hi-HT.sIx xs.length 0 lo),PR _ rfl⟩
def pL:e_ X (.builtin "len") (λxs H Q=>∃p ys,xs=[.ref p]/\(SqL X.K H p ys\/SqT X.K H p ys)/\Q (.int ys.length) H):=by
 intro ξ s σ H xs us Q I r h;obtain⟨p,ys,rfl,hq,q⟩:=h;obtain⟨u,rfl,rx⟩:=vals1 r;cases rx;have hn:=o4;rcases hq with hq|hq
 .obtain⟨gV,r',pl,hz⟩:=I.list hq;have hlen:=r'.length;exact Calls.call_len_list pl.isList (by simp only[PM] <;> lia) ⟨.int ys.length,H,I.tok _,⟨s.toks+1,by rw[PM,hlen]⟩,q⟩
 .obtain⟨gV,r',pl,hz⟩:=I.tuple hq;have hlen:=r'.length;exact len_tuple pl (by simp only[PM] <;> lia) ⟨.int ys.length,H,I.tok _,⟨s.toks+1,by rw[PM,hlen]⟩,q⟩
def pK:e_ X (.type "list") (λxs H Q=>∃p ys,xs=[.ref p]/\(SqL X.K H p ys\/SqT X.K H p ys)/\∀l,H l=none->Q (.ref l) (upd H l (.lst ys))):=by
 intro ξ s σ H xs us Q I r h;obtain⟨p,ys,rfl,hq,q⟩:=h;obtain⟨u,rfl,rx⟩:=vals1 r;cases rx
 have fin:∀(gV:List O6),Vals ys gV->ys.length<=sizeLine->∀(h':Heap) (c':Nat),(∀b o',s.heap.get? b=some o'->h'.get? b=some o') ->
   h'.get? s.heap.objs.size=some {cls:=.type "list",dict:=none,data:=.seq gV.toArray c',slots:=#[]}->EP X ξ σ Q (.ref s.heap.objs.size) {s with heap:=h'}:=λgV r' hz h' c' kp e =>
  ⟨.ref s.heap.objs.size,_,I.laid (t':=s.toks) kp (Pa _) (show b5 X.prog X.w _ h' _ (.lst ys) from⟨hz,gV,c',r',e⟩),rfl,q _ (I.hok.fresh (Pa _))⟩
 rcases hq with hq|hq
 .obtain⟨gV,r',pl,hz⟩:=I.list hq;have hlen:=r'.length;obtain⟨o,ho,hc,n,hd⟩:=pl.isList;exact call_list_seq p (.inl rfl) ho hc hd (λh' c' kp e=>fin gV r' hz h' c' kp e) (by simp only[PM] <;> lia)
 .obtain⟨gV,r',pl,hz⟩:=I.tuple hq;have hlen:=r'.length;obtain⟨o,ho,hc,n,hd⟩:=pl;exact call_list_seq p (.inr rfl) ho hc hd (λh' c' kp e=>fin gV r' hz h' c' kp e) (by simp only[PM] <;> lia)
def mZ:e_ X (.type "tuple") (λxs H Q=>∃p ys,xs=[.ref p]/\((SqL X.K H p ys/\∀l,H l=none->Q (.ref l) (upd H l (.tup ys)))\/(SqT X.K H p ys/\Q (.ref p) H))):=by
 intro ξ s σ H xs us Q I r h;obtain⟨p,ys,rfl,h⟩:=h;obtain⟨u,rfl,rx⟩:=vals1 r;cases rx;rcases h with⟨hq,q⟩|⟨hq,q⟩
 .obtain⟨gV,r',pl,hz⟩:=I.list hq;have hlen:=r'.length;refine call_tuple_list pl.isList (λh' kp=>?_) (by simp only[PM] <;> lia);have I1:Inv X ξ σ H {s with heap:=h'}:=I.kept (t':=s.toks) kp
  have I2:Inv X ξ σ (upd H h'.objs.size (.tup ys)) {s with heap:=h'.push {cls:=.type "tuple",data:=.seq gV.toArray}} :=
   I1.laid (t':=s.toks) (λb o e=>Pf _ e) (Pa _) (show b5 X.prog X.w _ _ _ (.tup ys) from⟨hz,gV,r',TupD.new _ _⟩)
  exact⟨.ref h'.objs.size,_,I2,rfl,q _ (I1.hok.fresh (Pa _))⟩
 .obtain⟨gV,r',pl,hz⟩:=I.tuple hq;exact call_tuple_same pl ⟨.ref p,H,I,rfl,q⟩
abbrev EE(K:Fg)(T:String)(x:V)(H:Hp):Prop:=match x with
 |.str _=>T = "str"
 |.int _=>T = "int"
 |.ref p=>(T = "list"/\∃xs,SqL K H p xs)\/(T = "tuple"/\∃o,K.lookup p=some o/\o.cls=.type "tuple"/\o.dict=none) \/
   (T = "dict"/\((∃de,H p=some (.dK de))\/∃de,H p=some (.dT de)))\/(T = "set"/\∃S n,H p=some (.set S n))
 |_=>False
def ED{H:Hp}{T:String}(I:Inv X ξ σ H s)(r:RelV x v)(ty:EE X.K T x H) :
  s.TypeIs v T/\∀a,v=.ref a->∃ob,s.heap.get? a=some ob/\ob.dict=none:=by
 cases x with
 |str z =>
  obtain⟨t,rfl⟩:=r;cases (show T = "str" from ty);exact⟨typeIs_str s z t,λ_ e=>nomatch e⟩
 |int i =>
  obtain⟨t,rfl⟩:=r;cases (show T = "int" from ty);exact⟨typeIs_int s i t,λ_ e=>nomatch e⟩
 |ref p =>
  cases r;rcases ty with⟨rfl,xs,hq⟩|⟨rfl,o,hk,hc,hd⟩|⟨rfl,hk⟩|⟨rfl,S,n,hk⟩
  .obtain⟨gV,_,pl,_⟩:=I.list hq;refine⟨pl.isList.typeIs,λa e=>?_⟩;cases e;obtain⟨o,n,e,c,hd,_⟩:=pl;exact⟨o,e,hd⟩
  .refine⟨⟨o,I.kIn p o hk,hc⟩,λa e=>?_⟩;cases e;exact⟨o,I.kIn _ o hk,hd⟩
  .have z:∃o,s.heap.get? p=some o/\o.ExactDict:=by
    rcases hk with⟨de,hk⟩|⟨de,hk⟩
    .obtain⟨_,_,_,_,o,_,_,e,ex,_⟩:=I.hok p _ hk;exact⟨o,e,ex⟩
    .obtain⟨_,_,_,_,o,_,_,e,ex,_⟩:=I.hok p _ hk;exact⟨o,e,ex⟩
   obtain⟨o,e,ex⟩:=z;refine⟨⟨o,e,ex.1⟩,λa e2=>?_⟩;cases e2;exact⟨o,e,ex.2.1⟩
  .obtain⟨o,_,_,_,e,ex,_⟩:=I.hok p _ hk;refine⟨⟨o,e,ex.1⟩,λa e2=>?_⟩;cases e2;exact⟨o,e,ex.2.1⟩
 |_=>exact SY ty
abbrev Gp(K:Fg)(T:String)(r:V->List V->Hp->VK->Prop)(to:TE):TE:=λσ H Q=>to σ H λx H1=>EE K T x H1/\r x [] H1 Q
abbrev dU(K:Fg)(T:String)(r:V->List V->Hp->VK->Prop)(to:TE)(t:TA):TE:=λσ H Q=>to σ H λx H1=>EE K T x H1/\t σ H1 λxs H2=>r x xs H2 Q
variable{o e:Expr}{es:List Expr}{to:TE}{t:TA}{name:Str}{apos Zo:Pos}{T id:String}{r:V->List V->Hp->VK->Prop}
def KE(pa:PlainAttrs T) (slot:Slot T name id) (hty:typeOf (.builtin id)=pure (.type "method_descriptor")) (hm:ON X id r) (ho:PE X o to)
  (hbase:attributeBase o name X.env (eval o X.env)=eval o X.env:=by rfl) (hline:(apos.endLine == Zo.line)=true:=by rfl):PE X (.Call (.Attribute o name apos) [] [] Zo) (Gp X.K T r to):=by
 intro ξ s σ H Q I h;refine wpAny_Call_method0_late hbase hline (bf (ho ξ s σ H _ I h) λv s1 ω=>?_);obtain⟨x,H1,I1,r1,ty,q1⟩:=ω;obtain⟨h1,h2⟩:=ED I1 r1 ty;exact⟨T,id,pa,slot,hty,h1,h2,Uo rfl (PySem.evalArgs_none (hm ξ s1 σ H1 x [] v [] Q I1 r1 .nil q1))⟩
def HP(pa:PlainAttrs T) (slot:Slot T name id) (hty:typeOf (.builtin id)=pure (.type "method_descriptor")) (hm:ON X id r) (ho:PE X o to) (ha:PA X (e :: es) t)
  (hbase:attributeBase o name X.env (eval o X.env)=eval o X.env:=by rfl)
  (hfew:((backTo Zo (starEach (e :: es) X.env)).all (λx=>!x.1) && (backToKw Zo (keywordEach [] X.env)).all (λx=>x.1.isSome)
   && decide ((e :: es).length+([]:List YE).length+(if ([]:List YE).isEmpty then 0 else 1)<30))=true:=by rfl)
  (hline:(apos.endLine == Zo.line)=true:=by rfl) (hs:starEach (e :: es) X.env=(false,eval e X.env) :: starEach es X.env:=by rfl) (hplain:(backTo Zo (starEach es X.env)).any (·.1)=false:=by rfl) :
  PE X (.Call (.Attribute o name apos) (e :: es) [] Zo) (dU X.K T r to t):=by
 intro ξ s σ H Q I h;refine wpAny_Call_method_late hbase hfew hline rfl (bf (ho ξ s σ H _ I h) λv s1 ω=>?_);obtain⟨x,H1,I1,r1,ty,q1⟩:=ω;obtain⟨h1,h2⟩:=ED I1 r1 ty;refine⟨T,id,pa,slot,hty,h1,h2,?_⟩;have hA:=ha Zo ξ s1 σ H1 _ I1 q1;rw[hs] at hA ⊢;refine Uo (by show(false || (backTo Zo (starEach es X.env)).any (·.1))=false;rw[hplain] <;> rfl) (WQ ?_);exact bf hA (by rintro us s2 ⟨vs,H2,I2,r2,q2⟩;exact hm ξ s2 σ H2 x vs v us Q I2 r1 r2 q2)
end
abbrev M2(X:Cx)(id:String)(r:V->List V->Hp->VK->Prop):Prop :=
 ∀(ξ:List (Addr×Obj)) (s:Pe) (σ:St) (H:Hp) (x:V) (xs:List V) (v:O6) (us:List O6) (Q:VK),Inv X ξ σ H s->RelV x v->Vals xs us->r x xs H Q ->
  wpAny (model X.prog X.w) X.A (call (.builtin id) (v :: us)) (EP X ξ σ Q) X.xe s
def Vals.one:∀{x:V} {us:List O6},Vals [x] us->∃u,us=[u]/\RelV x u
 |_,_,.cons r .nil=>⟨_,rfl,r⟩
def Vals.zero:∀{us:List O6},Vals [] us->us=[]
 |_,.nil=>rfl
def Vals.dropLast(h:Vals xs us):Vals xs.dropLast us.dropLast:=by
 induction h with
 |nil=>exact .nil
 |cons r t ih =>
  cases t with
  |nil=>exact .nil
  |cons q t'=>exact .cons r ih
def Vals.eraseIdx:∀{xs:List V} {us:List O6} (i:Nat),Vals xs us->Vals (xs.eraseIdx i) (us.eraseIdx i)
 |_,_,_,.nil=>.nil
 |_,_,0,.cons _ t=>t
 |_,_,i+1,.cons r t=>.cons r (Vals.eraseIdx i t)
def Vals.rep{xs:List V}{us:List O6}(h:Vals xs us):∀k:Nat,Vals (PV k xs).flatten (PV k us).flatten
 |0=>.nil
 |k+1=>by
  rw[SM,SM,Up,Up];exact Vals.append h (Vals.rep h k)
def vx{α:Type}(l:List α):l.eraseIdx (l.length-1)=l.dropLast:=by
 induction l with
 |nil=>rfl
 |cons a r ih =>
  cases r with
  |nil=>rfl
  |cons b r =>
   have e:(a :: b :: r).length-1=((b :: r).length-1)+1:=by
    have h1:(a :: b :: r).length=r.length+2:=rfl;have h2:(b :: r).length=r.length+1:=rfl;lia
   rw[e,List.eraseIdx_cons_succ,ih]
   all_goals rfl
def o5{α:Type}:∀(l:List α) (i:Nat),(l.eraseIdx i).length<=l.length
 |[],_=>Pa _
 |_ :: _,0=>WR _
 |_ :: r,i+1=>UD (o5 r i)
def foldl_rep(gV:List O6):∀(k:Nat) (acc:List O6),
  YL (λx1 x2=>x1++x2) acc.toArray (PV k gV.toArray)=(acc++(PV k gV).flatten).toArray
 |0,acc=>by simp
 |k+1,acc=>by
  have e:acc.toArray++gV.toArray=(acc++gV).toArray:=by simp
  have e2:(acc++gV)++(PV k gV).flatten=acc++(PV (k+1) gV).flatten:=by
   rw[SM,Up,QF]
  rw[<- e2,<- foldl_rep gV k (acc++gV),<- e,SM,U2]
section
variable{X:Cx}{ξ:List (Addr×Obj)}{σ:St}{H:Hp}{s:Pe}{l b:Addr}{xs ys zs:List V}
def Inv.lset{gV its':List O6}{f:Array O6->Array O6}{t':Nat}(I:Inv X ξ σ H s)(hH:H l=some (.lst xs))
  (e:s.heap.get? l=some {cls:=.type "list",data:=.seq gV.toArray n}) (hf:f gV.toArray=its'.toArray) (hv:Vals ys its') (hz:ys.length<=sizeLine) :
  Inv X ξ σ (upd H l (.lst ys)) {s with heap:=s.heap.update l (Ua f),toks:=t'}:=by
 have q:=PySem.IsL.update e f;rw[hf] at q;refine I.write (x:=l) (e:=l) (by rw[hH];exact trivial) (.inl rfl) (λb' u hb hu=>(Wr s.heap (Ua f) (Vd hb)).trans hu) ⟨_,q⟩ ?_;exact⟨hz,its',_,hv,q⟩
def Inv.lnew{t':Nat}(I:Inv X ξ σ H s)(hv:Vals ys gV)(hz:ys.length<=sizeLine) :
  Inv X ξ σ (upd H s.heap.objs.size (.lst ys)) {s with heap:=s.heap.push {cls:=.type "list",data:=.seq gV.toArray},toks:=t'} :=
 I.laid (λ_ _ q=>Pf _ q) (Pa _) ⟨hz,gV,0,hv,PR _ rfl⟩
def Inv.fresh(I:Inv X ξ σ H s):H s.heap.objs.size=none:=I.hok.fresh (Pa _)
def Inv.lstM(I:Inv X ξ σ H s) (hH:H l=some (.lst xs)):xs.length<=sizeLine/\∃(gV:List O6) (n:Nat),Vals xs gV/\xs.length=gV.length/\s.heap.get? l=some {cls:=.type "list",data:=.seq gV.toArray n}:=by
 obtain⟨z,gV,n,r,e⟩:=I.hok l _ hH;exact⟨z,gV,n,r,r.length,e⟩
def tS{n:Nat}(h:n<=sizeLine):SJ n=false:=by
 unfold SJ;exact decide_eq_false (by lia)
end
section
variable{X:Cx}
abbrev aN:V->List V->Hp->VK->Prop:=λx vs H Q=>∃l xs y,x=.ref l/\vs=[y]/\H l=some (.lst xs)/\xs.length<sizeLine/\Q .non (upd H l (.lst (xs++[y])))
def oW:M2 X "list.append" aN:=by
 intro ξ s σ H x vs v us Q I rx rv h;obtain⟨l,xs,y,rfl,rfl,hH,hz,q⟩:=h;cases rx;obtain⟨u,rfl,ru⟩:=rv.one;obtain⟨z,gV,n,r,hl,e⟩:=I.lstM hH;refine Vw F.slot_list_append ⟨_,e,rfl⟩ F.entry_list_append (F.args_list_append_2 _ _) (PySem.list_append l gV.toArray n u (by rw[PM];lia)) ⟨e,?_⟩;refine⟨.non,_,I.lset (its':=gV++[u]) hH e (by simp) (r.append (.cons ru .nil)) ?_,rfl,q⟩;rw[Pm,Rj];lia
abbrev i_:V->List V->Hp->VK->Prop:=λx vs H Q=>∃l b xs zs,x=.ref l/\vs=[.ref b]/\H l=some (.lst xs)/\H b=some (.lst zs)/\xs.length+zs.length<=sizeLine/\Q .non (upd H l (.lst (xs++zs)))
def y9:M2 X "list.extend" i_:=by
 intro ξ s σ H x vs v us Q I rx rv h;obtain⟨l,b,xs,zs,rfl,rfl,hH,hB,hz,q⟩:=h;cases rx;obtain⟨u,rfl,ru⟩:=rv.one;cases ru;obtain⟨z,gV,n,r,hl,e⟩:=I.lstM hH;obtain⟨z2,its2,n2,r2,hl2,e2⟩:=I.lstM hB;have hsz:gV.toArray.size+its2.toArray.size<=sizeLine:=by rw[PM,PM];lia
 have hlong : ¬ (!gV.toArray.isEmpty && SJ (gV.toArray.size+its2.toArray.size))=true:=by
  rw[tS hsz,Bool.and_false];exact PZ
 refine Vw F.slot_list_extend ⟨_,e,rfl⟩ F.entry_list_extend (F.args_list_extend_2 _ _)
  (AutoSeq1.list_extend_list_list_0 l gV.toArray n b its2.toArray n2 hlong (by rw[PM];lia) (by lia)) ⟨e,e2,?_⟩
 refine⟨.non,_,I.lset (its':=gV++its2) hH e (by simp) (r.append r2) ?_,rfl,q⟩;rw[Pm];lia
abbrev Hj:V->List V->Hp->VK->Prop:=λx vs H Q=>∃l xs y,x=.ref l/\vs=[]/\H l=some (.lst xs)/\xs[xs.length-1]?=some y/\Q y (upd H l (.lst xs.dropLast))
def K2:M2 X "list.pop" Hj:=by
 intro ξ s σ H x vs v us Q I rx rv h;obtain⟨l,xs,y,rfl,rfl,hH,hy,q⟩:=h;cases rx;have hus:=rv.zero;subst hus;obtain⟨z,gV,n,r,hl,e⟩:=I.lstM hH;obtain⟨u,hu,ru⟩:=r.get hy
 have hy':gV.toArray[gV.toArray.size-1]?=some u:=by
  show gV.toArray[gV.length-1]?=some u;rw[<- P3,<- hl];exact hu
 refine Vw F.slot_list_pop ⟨_,e,rfl⟩ Ye (F.args_list_pop_1 _) (MeetsSeq.list_pop_last l gV.toArray n u hy' (by rw[PM];lia)) ⟨e,?_⟩;refine⟨y,_,I.lset (its':=gV.dropLast) hH e ?_ r.dropLast ?_,ru,q⟩
 .show gV.toArray.eraseIdxIfInBounds (gV.toArray.size-1)=gV.dropLast.toArray;rw[PM,Uv,vx]
 .rw[List.length_dropLast];lia
abbrev ym:V->List V->Hp->VK->Prop:=λx vs H Q=>∃l xs i k y,x=.ref l/\vs=[.int i]/\H l=some (.lst xs)/\-(2 ^ 63)<=i/\i<2 ^ 63/\seqIndex? i xs.length=some k/\xs[k]?=some y/\Q y (upd H l (.lst (xs.eraseIdx k)))
def Dz:M2 X "list.pop" ym:=by
 intro ξ s σ H x vs v us Q I rx rv h;obtain⟨l,xs,i,k,y,rfl,rfl,hH,h1,h2,hk,hy,q⟩:=h;cases rx;obtain⟨u,rfl,ru⟩:=rv.one;obtain⟨t,rfl⟩:=ru;obtain⟨z,gV,n,r,hl,e⟩:=I.lstM hH;obtain⟨w,hw,rw'⟩:=r.get hy
 refine Vw F.slot_list_pop ⟨_,e,rfl⟩ Ye (F.args_list_pop_2 _ _)
  (MeetsSeq.list_pop_at l gV.toArray n i t k w (fitsIndex_both h1 h2) (by rw[PM,<- hl];exact hk) (by rw[<- P3];exact hw) (by rw[PM];lia)) ⟨e,?_⟩
 refine⟨y,_,I.lset (its':=gV.eraseIdx k) hH e ?_ (r.eraseIdx k) ?_,rw',q⟩
 .show gV.toArray.eraseIdxIfInBounds k=(gV.eraseIdx k).toArray;rw[Uv]
 .have:=o5 xs k
  lia
abbrev yp:R2:=λx y H Q=>∃l b xs zs,x=.ref l/\y=.ref b/\H l=some (.lst xs)/\H b=some (.lst zs)/\xs.length+zs.length<=sizeLine/\∀p,H p=none->Q (.ref p) (upd H p (.lst (xs++zs)))
def KU:eJ X (binaryOp .Add) yp:=by
 intro ξ s σ H x y v u Q I rx ry h;obtain⟨l,b,xs,zs,rfl,rfl,hH,hB,hz,q⟩:=h;cases rx;cases ry;obtain⟨z,gV,n,r,hl,e⟩:=I.lstM hH;obtain⟨z2,its2,n2,r2,hl2,e2⟩:=I.lstM hB;refine PySem.P.add_list e e2 ?_ (by rw[PM,PM];lia);have ea:gV.toArray++its2.toArray=(gV++its2).toArray:=by simp
 rw[ea];exact⟨.ref _,_,I.lnew (t':=s.toks) (r.append r2) (by rw[Pm];lia),rfl,q _ I.fresh⟩
abbrev Hi:R2:=λx y H Q=>∃l k xs,x=.ref l/\y=.int k/\H l=some (.lst xs)/\-(2 ^ 63)<=k/\k<2 ^ 63/\xs.length*k.toNat<=sizeLine /\
 ∀p,H p=none->Q (.ref p) (upd H p (.lst (PV k.toNat xs).flatten))
def DF{α:Type}(xs:List α)(k:Nat):(PV k xs).flatten.length=k*xs.length:=by
 induction k with
 |zero=>simp
 |succ k ih=>rw[SM,Up,Pm,ih,Sx,Vg]
def KM:eJ X (binaryOp .Mult) Hi:=by
 intro ξ s σ H x y v u Q I rx ry h;obtain⟨l,k,xs,rfl,rfl,hH,h1,h2,hz,q⟩:=h;cases rx;obtain⟨t,rfl⟩:=ry;obtain⟨z,gV,n,r,hl,e⟩:=I.lstM hH;have hlen:gV.toArray.size*k.toNat<=sizeLine:=by rw[PM,<- hl];exact hz
 have hcap : ¬ gV.toArray.size*k.toNat > (2 ^ 63-1) / 8:=by
  have:(sizeLine:Nat)<=(2 ^ 63-1) / 8:=by decide
  lia
 have hfit : ¬ (!Builtin.List.listFitsIndex k)=true:=by
  rw[fitsIndex_both h1 h2];exact PZ
 have hlong : ¬ SJ (gV.toArray.size*k.toNat)=true:=by
  rw[tS hlen];exact PZ
 have hnew:YL (λx1 x2=>x1++x2) #[] (PV (if gV.toArray.isEmpty=true then 0 else k.toNat) gV.toArray)=(PV k.toNat gV).flatten.toArray:=by
  have f0:∀m:Nat,YL (λx1 x2=>x1++x2) #[] (PV m gV.toArray)=(PV m gV).flatten.toArray:=λm=>by
   have:=foldl_rep gV m []
   rw[So] at this;exact this
  rw[f0];cases gV with
  |nil=>simp
  |cons a r'=>rw[if_neg (by simp)]
 refine wpAny_binaryOp_repeat_ref (T:="list") (U:="int") (by decide) ⟨_,e,rfl⟩ (λs'=>typeIs_int s' k t) noFill_list_mul F.fills_int_mul F.slot_int_rmul repeat_list F.slot_int_index.lookup
  (Vw F.slot_int_rmul (typeIs_int s k t) F.entry_int_rmul (F.args_int_rmul_2 _ _) (int___rmul___int_list k t l gV.toArray n)
   ⟨e,rfl,⟨_,e,rfl⟩,Vw F.slot_list_mul ⟨_,e,rfl⟩ F.entry_list_mul (F.args_list_mul_2 _ _) (AutoListH.list___mul___list_int_3 l gV.toArray n k t hfit hcap hlong) ⟨e,?_⟩⟩)
 rw[hnew];exact⟨.ref _,_,I.lnew (t':=s.toks) (r.rep k.toNat) (by rw[DF,Qv];exact hz),rfl,q _ I.fresh⟩
end
end L2
namespace Att
open PySem PySem.W PySem.Calls PyProof.Rows
def jt:∀(ns:List Int) (vs:List O6),WellAll P h vs (ns.map WData.int)->To vs ns:=by
 intro ns
 induction ns with
 |nil =>
  intro vs w;rw[Vf] at w;cases w;exact .nil
 |cons n ns ih =>
  intro vs w;rw[Qn] at w;cases w with
  |cons a b =>
   cases a;exact .cons _ _ (ih _ b)
def xX{l:OpenLaw}{n:Nat}(hn:l.most=some n)
  (hpre:l.row.toRowW.claim.pre args=true) (hwl:WellAll P h vals args) :
  ∃a vs ns,vals=[Qi a]/\args=[WData.list (ns.map WData.int)]/\h.get? a=some {cls:=.type "list",data:=.seq vs.toArray}/\To vs ns/\ns.length<=n:=by
 have hsh:WShape.hasAll [] args [.list .int]=true:=(pre_splitW hpre).1;have hc:l.pre.holds [] {args:=args}=true:=(pre_splitW hpre).2;obtain⟨d,r,rfl,h1,h2⟩:=hasAllW_cons hsh;obtain rfl:=hasAllW_nil h2;obtain⟨xs,rfl,h3⟩:=hasW_list h1;obtain⟨ns,rfl⟩:=items_int h3
 have hlen:ns.length<=n:=by
  unfold OpenLaw.pre at hc
  have h4:(WTm.not (.lt (.lit (.int (n:Int))) (.len (.arg 0)))).holds [] {args:=[.list (ns.map .int)]}=true:=by
   have h4:=(holds_andW hc).1;rw[hn] at h4;exact h4
  have h5:=condW_of h4 (w_not (w_lt w_lit (w_len_list (w_arg rfl))));rw[O0] at h5;refine Nat.le_of_not_lt λq=>?_
  have q':(n:Int)<((ns.length:Nat):Int):=by lia
  first
   |(rw[decide_eq_true q'] at h5;exact absurd h5 (by decide))
   |(simp at h5;omega)
 cases hwl with
 |cons w1 w2 =>
  cases w2;cases w1 with
  |list ho hall=>exact⟨_,_,ns,rfl,rfl,ho,jt ns _ hall,hlen⟩
def yC(l:OpenLaw)(args:List WData):l.row.toRowW.claim.post args (.bool true) args=true :=
 postW_of (r:=l.row.toRowW) (X:=(true == true))
  (show WShape.has [] (.bool true) .bool=true by first|rfl|decide|simp[WShape.has,WShape.arms,WShape.armsAll])
  (show(WTm.eq .res (.lit (.bool true))).value [] {args:=args,res:=some (.bool true),after:=args}=some (.bool (true == true)) from w_eq_bool (w_res rfl) w_lit) rfl
def sr{l:OpenLaw}{n:Nat}{XP:(Str->Option O6)->Heap->Prop}{YP:Qp->Heap->Prop}{d:DefRec}
  (hn:l.most=some n) (hdf:d.params.defaults=[])
  (call:∀(w:Qp) (s₀ s₁:Pe) (mg mb:Str->Option O6) (fa:Addr) (o:Obj) (pm cd doc:O6) (a:Addr) (vs:List O6) (ns:List Int),
   Ground q loose [] XP w s₀ mg mb s₁.heap->YP w s₁.heap ->
   s₁.heap.get? fa=some o->o.data=.func (docDef d.name d.params d.body d.scope pm cd doc)->s₁.heap.CodeRec cd d.name->mg d.name=⇑fa ->
   s₁.heap.get? a=some {cls:=.type "list",data:=.seq vs.toArray}->To vs ns->ns.length<=n->s₁.gens = #[] ->
   codeAny (model l.prog w) callerA (.call (.ref fa) ⟨[.ref a],[]⟩) (λr s'=>r=.ok (.ret (.bool true))/\OldK s₁.heap s'.heap/\s'.os=s₁.os/\VL s'.gens) s₁) :
  WalkO q loose XP YP l.row.toRowW d [] (λf vs=>Xs f vs):=by
 intro w s₀ s₁ mg mb G Y fa o pm cd doc dV kV ho hd hcd hD hmg hg args vals as hpre hlay hrd hwl hlo;obtain rfl:dV=.none:=Dflts.none hD hdf;obtain rfl:kV=.none:=Dflts.noKw hD;obtain⟨a,vs,ns,rfl,rfl,hobj,hints,hlen⟩:=xX hn hpre hwl;refine enter_call (Ve (call w s₀ s₁ mg mb fa o pm cd doc a vs ns G Y ho (fd_plain hd) hcd hmg hobj hints hlen hg) λr s' hq=>?_);obtain⟨rfl,h2,h3,h4⟩:=hq;exact⟨.inl ⟨.bool true,.bool true,[],rfl,λ_=>rfl,.bool true,yC l _,λ_=>⟨XO,λ_ hm=>(nomatch hm)⟩⟩,h2,h3,h4⟩
end Att
namespace L2
open PySem PySem.Spec PyProof.Rows
def nK:∀{vs:List O6} {ns:List Int},To vs ns->Vals (ns.map V.int) vs
 |_,_,.nil=>.nil
 |_,_,.cons n t h=>.cons ⟨t,rfl⟩ (nK h)
abbrev Jc(H:Hp):Prop:=∀b,H b=none\/∃o xs,H b=some (.frz o (.lst xs))
def DG{K:Fg}{CX:nH}{a:Addr}{x:Str}{sp:Sp}{s₁:Pe}{vs:List O6}
  (KX:K.In s₁.heap) (hns:s₁.heap.Ns mainGlobals mg) (hb:s₁.heap.Ns builtinsNs mb) (hbb:∀x:Str,x≠"__name__"->mb x=bootBuiltins x) (hlim:s₁.heap.NoLimit) (hg:s₁.gens = #[])
  (ha:s₁.heap.get? a=some {cls:=.type "list",data:=.seq vs.toArray}) (hi:To vs ns) (hl:ns.length<=sizeLine) (hr:Room k callerA)
  (F:∀base:Heap,K.In base->base.Ns mainGlobals mg->FnOk P w K mg base CX k fa fd [x] sp) (hbind:∀(s:Pe) (u:O6),XM s fd ⟨[u],[]⟩ [(x,u)])
  (hsp:∀H:Hp,Jc H->SqL K H a (ns.map V.int)->sp [.ref a] H (λv _=>v=.bl true) λ_ _ _=>False)
  (hCX:∀H e s',CX [] H s₁ (λ_ _ _=>False) e s'->False) :
  codeAny (model P w) callerA (.call (.ref fa) ⟨[.ref a],[]⟩) (λr s'=>r=.ok (.ret (.bool true))/\OldK s₁.heap s'.heap/\s'.os=s₁.os/\VL s'.gens) s₁:=by
 have rv:=nK hi;have lenV:=hi.length
 have core:∀H:Hp,Jc H->SqL K H a (ns.map V.int)->HOk P w H s₁.heap->(∀b,H b≠none->b=a)->(H a≠none->K.lookup a=none) ->
   codeAny (model P w) callerA (.call (.ref fa) ⟨[.ref a],[]⟩) (λr s'=>r=.ok (.ret (.bool true))/\OldK s₁.heap s'.heap/\s'.os=s₁.os/\VL s'.gens) s₁:=by
  intro H hO hS hok hA hK;have base_of:∀{b:Addr} {o:Obj},s₁.heap.get? b=some o->H b=none->(mN s₁.heap H).get? b=some o:=λe n=>DY e n
  have noA:∀{b:Addr} {o:Obj} {es:Array Vo} {ep:Nat},s₁.heap.get? b=some o->o.data=.dict es ep->H b=none:=λ{b o es ep} e d=>by
   cases q:H b with
   |none=>rfl
   |some u =>
    have e':b=a:=hA b (by rw[q];simp);subst e';rw[ha] at e;cases e;have d':Y6 vs.toArray _=Data.dict es ep:=d;cases d'
  have nsK:∀{b:Addr} {m:Str->Option O6},s₁.heap.Ns b m->(mN s₁.heap H).Ns b m:=λ{b m} ⟨o,es,ep,e,d,r⟩=>⟨o,es,ep,base_of e (noA e d),d,r⟩
  have hKb:K.In (mN s₁.heap H):=λb o e=>base_of (KX b o e) (by
   cases q:H b with
   |none=>rfl
   |some u =>
    have e':b=a:=hA b (by rw[q];simp)
    subst e'
    rw[hK (by rw[q];simp)] at e;cases e)
  have hM:Mod K mg (mN s₁.heap H):=⟨hKb,nsK hns,⟨mb,nsK hb,hbb⟩,let ⟨mc,h1,h2⟩:=hlim;⟨mc,nsK h1,h2⟩⟩
  have e0:Ey P w K mg (mN s₁.heap H) callerA [] s₁ H:=⟨rfl,hM,λb o e=>Ih e,Ws (zH _ _),trivial,λb hb=>absurd (show b∈([]:List Addr) from hb) (by simp),hok,.of_eq hg⟩
  refine Ve ((F _ hKb (nsK hns)).run callerA [] s₁ H ⟨[.ref a],[]⟩ [.ref a] [.ref a] _ _ hr e0 (hbind s₁ (.ref a)) (.cons rfl .nil) (hsp H hO hS)) λr s' h=>?_
  cases r with
  |error e=>exact(hCX H e s' h).elim
  |ok fl =>
   cases fl with
   |next=>exact SY h
   |brk=>exact SY h
   |cont=>exact SY h
   |ret u =>
    obtain⟨v,H',os,bare,un,hok',r',q⟩:=h;have q':v=.bl true:=q;subst q';obtain rfl:u=Wk true:=r';refine⟨rfl,OldK.of_keep λb o e=>?_,os,bare⟩;cases q:H b with
    |none=>exact un.keep b o e q (by intro z;exact absurd (show b∈([]:List Addr) from z) (by simp)) (by simp)
    |some u =>
     rcases hO b with z|⟨ob,xs,z⟩
     .rw[q] at z;cases z
     .have z2:=un.frzs b ob _ z;obtain⟨e1,_⟩:=hok b _ z;obtain⟨e2,_⟩:=hok' b _ z2;rw[e] at e1;cases e1;exact e2
 cases hk:K.lookup a with
 |some o =>
  have e:=KX a o hk;rw[ha] at e;cases e;refine core (λ_=>none) (λ_=>.inl rfl) (.inr ⟨_,vs.toArray,_,hk,rfl,rfl,rfl,by rw[PM,lenV];exact hl,by simpa using rv⟩) (λb u z=>by have z':(none:Option HO)=some u:=z;cases z') (λb z=>absurd rfl z) λz=>absurd rfl z
 |none =>
  refine core (λb=>if b=a then some (.frz {cls:=.type "list",data:=.seq vs.toArray} (.lst (ns.map V.int))) else none) (λb=>?_) (.inl (.inr ⟨{cls:=.type "list",data:=.seq vs.toArray},if_pos rfl⟩)) (λb u z=>?_) (λb z=>?_) λ_=>hk
  .by_cases hb:b=a
   .exact .inr ⟨_,_,if_pos hb⟩
   .exact .inl (if_neg hb)
  .by_cases hb:b=a
   .have z':=(if_pos hb).symm.trans z;cases z';subst hb;exact⟨ha,by rw[O0];exact hl,vs,_,rv,ha⟩
   .have z':=(if_neg hb).symm.trans z;cases z'
  .by_cases hb:b=a
   .exact hb
   .exact absurd (if_neg hb) z
def FU{l:Yv}{n:Nat}{XP:(Str->Option O6)->Heap->Prop}{YP:Qp->Heap->Prop}{d:DefRec}{K:Params->XD}{CX:Qp->nH}{sp:Qp->Sp}{x:Str}
  (hn:l.most=some n) (hn2:n<=sizeLine) (hdf:d.params.defaults=[]) (hr:Room k callerA)
  (hY:∀(w:Qp) (h:Heap),YP w h->(K w.params).In h)
  (F:∀(w:Qp) (mg:Str->Option O6) (fa:Addr) (h:Heap),(K w.params).In h->h.Ns mainGlobals mg->mg d.name=⇑fa ->
   ∃fd:Se,(∀(s:Pe) (u:O6),XM s fd ⟨[u],[]⟩ [(x,u)]) /\
    ∀base:Heap,(K w.params).In base->base.Ns mainGlobals mg->FnOk l.prog w (K w.params) mg base (CX w) k fa fd [x] (sp w))
  (hsp:∀(w:Qp) (H:Hp) (a:Addr) (ns:List Int),ns.length<=n->Jc H->SqL (K w.params) H a (ns.map V.int)->sp w [.ref a] H (λv _=>v=.bl true) λ_ _ _=>False)
  (hCX:∀(w:Qp) (H:Hp) (s:Pe) (e:O6) (s':Pe),CX w [] H s (λ_ _ _=>False) e s'->False) :
  Xf q loose XP YP l.row.toRowW d [] (λf vs=>Xs f vs):=by
 refine Att.sr hn hdf λw s₀ s₁ mg mb fa o pm cd doc a vs ns G Y ho hd hcd hmg hobj hints hlen hg=>?_
 have KX:=hY w _ Y;obtain⟨fd,hb,hF⟩:=F w mg fa _ KX G.T.g hmg;exact DG KX G.T.g G.T.b G.T.builtins G.T.nolimit hg hobj hints (Pj hlen hn2) hr hF hb (λH hO hS=>hsp w H a ns hlen hO hS) λH e s'=>hCX w H s₁ e s'
abbrev c5(s:Stmt):Arguments:=match s with
 |.FunctionDef _ a _ _ _ _ _ _ _ _=>a
 |_=>{posonlyargs:=[],args:=[],vararg:=none,kwonlyargs:=[],kw_defaults:=[],kwarg:=none,defaults:=[]}
abbrev cj(s:Stmt):List Stmt:=match s with
 |.FunctionDef _ _ b _ _ _ _ _ _ _=>b
 |_=>[]
abbrev ao(s:Stmt):Scope:=match s with
 |.FunctionDef _ _ _ _ _ _ sc _ _ _=>sc
 |_=>{kind:=.function,names:=[],isGenerator:=false,isCoroutine:=false}
nonrec abbrev bh:nH:=λ_ _ _ _ _ _=>False
nonrec abbrev E0:XK:=λ_ _ _=>False
def Nm:nu bh X E0:=λ_ _ _ _ _ _ _ h=>h.elim
structure Fun (K:Fg) (x qual:Str) (st:Stmt) (f:Addr) (fd:Se):Prop where
 ex:∃(oc:O6) (od:Option Addr) (kV doc pm:O6) (an:Option Addr) (cdv ct:O6) (osl:Array (Option O6)),
  fd=RA x qual (c5 st) (cj st) (ao st) .none kV doc pm an cdv ct/\K.lookup f=some ⟨oc,od,.func fd,osl⟩/\Tv K cdv qual=true
 kp:SQ K (.ref f)=true
section
variable{P:P6}{w:Qp}{K:Fg}{mg:Str->Option O6}{base:Heap}
def Fun.ok{st:Stmt}{sp:Sp}(F:Fun K x qual st f fd)(S:ay N ps (ao st))(len:∀vs H Q E,sp vs H Q E->vs.length=ps.length)
  (hbody:∀(cdv:O6) (A:Qt) (outer:List Env) (s:Pe) (H:Hp) (vs:List V) (Q:VK) (E:XK),Room k (A.deeper (envOfC qual (ao st) s.heap.objs.size f cdv))->sp vs H Q E ->
   ∃t,PSs (mV bh P w K mg base N qual (ao st) f cdv A outer s H E).nox (cj st) t/\t {nx:=λ_ H'=>Q .non H',rt:=Q} (start N vs) H):FnOk P w K mg base bh (k+1) f fd ps sp:=by
 obtain⟨oc,od,kV,doc,pm,an,cdv,ct,osl,rfl,lk,hcd⟩:=F.ex;refine Oo lk hcd S len λA outer s H vs Q E hr hsp=>?_
 obtain⟨t,h,q⟩:=hbody cdv A outer s H vs Q E hr hsp;exact⟨t,h.nox,q⟩
def Fun.binds{st:Stmt}{ps:List Str}(F:Fun K x qual st f fd)
  (h:∀(kV doc pm:O6) (an:Option Addr) (cdv ct:O6) (us:List O6),us.length=ps.length->bindArgs (RA x qual (c5 st) (cj st) (ao st) .none kV doc pm an cdv ct) ⟨us,[]⟩=pure (ps.zip us)):Binds K fd ps []:=by
 obtain⟨oc,od,kV,doc,pm,an,cdv,ct,osl,rfl,lk,hcd⟩:=F.ex;exact .all (h kV doc pm an cdv ct)
def Fm{st:Stmt}{oc:O6}{od:Option Addr}{osl:Array (Option O6)}{kV:O6}(l:K.lookup f=some ⟨oc,od,.func (RA x qual (c5 st) (cj st) (ao st) .none kV doc pm an cdv ct),osl⟩)
  (c:Tv K cdv qual=true) (k:SQ K (.ref f)=true):Fun K x qual st f (RA x qual (c5 st) (cj st) (ao st) .none kV doc pm an cdv ct):=⟨⟨oc,od,kV,doc,pm,an,cdv,ct,osl,rfl,l,c⟩,k⟩
end
def Od(hr:Room k A):A.units+1<cLine:=Pk (W9 (by decide:1<=64) _) hr.units
def au{n:Nat}(h:n<=1000):n<sizeLine:=Pk h (by decide)
section
variable{X:Cx}
def pv(i:Nat) {x:Str}  (hN:X.N[i]?=some x:=by rfl) (hv:MW X.env.scope x:=by first|exact Or.inl rfl|exact Or.inr (Or.inl rfl)|exact Or.inr (Or.inr rfl)) (hd:(x == ("__debug__":Str))=false:=by decide)
  (hcd:(x == ("__classdict__":Str))=false:=by decide):PE X (.Name x pos) (aa i):=Ks hN hv hd hcd
end
def zC{A B:Prop}(h:B):if false=true then A else B:=by
 rw[if_neg PZ];exact h
def vj{A B:Prop}(h:A):if true=true then A else B:=by
 rw[if_pos rfl];exact h
abbrev Same(H H':Hp):Prop:=∀b o,H b=some o->H' b=some o
def Same.refl(H:Hp):Same H H:=λ_ _ h=>h
def Same.trans(a:Same H H1)(b:Same H1 H2):Same H H2:=λc o h=>b c o (a c o h)
def Same.free(e:Same H H')(h:H' l=Option.none):H l=Option.none:=by
 cases q:H l with
 |none=>rfl
 |some o =>
  rw[e l o q] at h;cases h
def Same.seq{K:Fg}(e:Same H H')(h:SqL K H a xs):SqL K H' a xs:=by
 rcases h with(h|⟨o,h⟩)|h
 .exact .inl (.inl (e _ _ h))
 .exact .inl (.inr ⟨o,e _ _ h⟩)
 .exact .inr h
section
variable{κ:Type}[DecidableEq κ]
abbrev bK(de:List (κ×V))(k:κ):Option V:=(de.find? λkv=>decide (kv.1=k)).map (·.2)
abbrev cc(de:List (κ×V))(k:κ)(v:V):List (κ×V) :=
 if (de.any λkv=>decide (kv.1=k))=true then de.map (λkv=>if kv.1=k then (kv.1,v) else kv) else de++[(k,v)]
def sO{k:κ}:bK ([]:List (κ×V)) k=none:=rfl
def bD{p:κ×V}{r:List (κ×V)}{k:κ}(e:p.1=k):bK (p :: r) k=some p.2:=by simp[bK,RG,e]
def bj{p:κ×V}{r:List (κ×V)}{k:κ}(e : ¬ p.1=k):bK (p :: r) k=bK r k:=by simp[bK,RG,e]
def eT(k:κ):∀de:List (κ×V),(de.any λkv=>decide (kv.1=k))=(bK de k).isSome
 |[]=>rfl
 |p :: r=>by
  rw[Xi];by_cases e:p.1=k
  .simp only[bD e,decide_eq_true e,Bool.true_or,Option.isSome_some]
  .rw[bj e,decide_eq_false e,YZ];exact eT k r
def sP(k j:κ)(y:V):∀de:List (κ×V),bK (de.map λkv=>if kv.1=k then (kv.1,y) else kv) j=(bK de j).map λx=>if j=k then y else x
 |[]=>rfl
 |p :: r=>by
  have ih:=sP k j y r;rw[Qn];by_cases h:p.1=k
  .rw[if_pos h];by_cases e:p.1=j
   .rw[bD (p:=(p.1,y)) e,bD e,U3,if_pos (e.symm.trans h)]
   .rw[bj (p:=(p.1,y)) e,bj e,ih]
  .rw[if_neg h];by_cases e:p.1=j
   .rw[bD (p:=p) e,bD e,U3,if_neg (λz=>h (e.trans z))]
   .rw[bj (p:=p) e,bj e,ih]
def nL(k j:κ)(y:V):∀de:List (κ×V),bK de k=none->bK (de++[(k,y)]) j=if j=k then some y else bK de j
 |[],_=>by
  by_cases e:k=j
  .rw[if_pos e.symm];exact bD (p:=(k,y)) e
  .rw[if_neg (λz=>e z.symm)];exact bj (p:=(k,y)) e
 |p :: r,hn=>by
  rw[V4];have hk : ¬ p.1=k:=λz=>by rw[bD z] at hn;cases hn
  rw[bj hk] at hn;have ih:=nL k j y r hn;by_cases e:p.1=j
  .rw[bD e,bD e,if_neg (λz=>hk (e.trans z))]
  .rw[bj e,bj e,ih]
def kT(de:List (κ×V))(k j:κ)(y:V):bK (cc de k y) j=if j=k then some y else bK de j:=by
 unfold cc;by_cases a:(de.any λkv=>decide (kv.1=k))=true
 .rw[if_pos a,sP];rw[eT] at a;by_cases e:j=k
  .obtain⟨x,hx⟩:=T6.mp a;rw[if_pos e,e,hx,U3,if_pos rfl]
  .rw[if_neg e];cases bK de j with
   |none=>rfl
   |some x=>rw[U3,if_neg e]
 .rw[if_neg a];refine nL k j y de ?_;rw[eT] at a;cases q:bK de k with
  |none=>rfl
  |some x=>rw[q] at a;exact(a rfl).elim
def ce(de:List (κ×V))(k:κ)(v:V):(cc de k v).length<=de.length+1:=by
 unfold cc;split
 .rw[O0];lia
 .rw[Pm,P7,T_];lia
def RelO.js(r:RelO o u):o.isSome=u.isSome:=by
 cases o with
 |none=>cases u with
  |none=>rfl
  |some _=>exact(show False from r).elim
 |some _=>cases u with
  |none=>exact(show False from r).elim
  |some _=>rfl
def RelO.getD(r:RelO o u)(rd:RelV d d'):RelV (o.getD d) (u.getD d'):=by
 cases o with
 |none=>cases u with
  |none=>exact rd
  |some _=>exact(show False from r).elim
 |some _=>cases u with
  |none=>exact(show False from r).elim
  |some _=>exact r
def KV.val{de:List (κ×V)}{vs:List (κ×O6)}(r:KV de vs)(k:κ):RelO (bK de k) (valueAt vs k):=by
 unfold KV at r
 induction r with
 |nil=>exact SG
 |@cons p q ps qs h t ih =>
  obtain⟨h1,h2⟩:=h;by_cases e:p.1=k
  .have e':q.1=k:=h1.symm.trans e;have b:valueAt (q :: qs) k=some q.2:=by simp[valueAt,RG,e']
   rw[bD e,b];exact h2
  .have e' : ¬ q.1=k:=λz=>e (h1.trans z)
   have b:valueAt (q :: qs) k=valueAt qs k:=by simp[valueAt,RG,e']
   rw[bj e,b];exact ih
def KV.any{de:List (κ×V)}{vs:List (κ×O6)}(r:KV de vs)(k:κ):(de.any λkv=>decide (kv.1=k))=vs.any λkv=>decide (kv.1=k):=by
 unfold KV at r
 induction r with
 |nil=>rfl
 |cons h t ih=>rw[Xi,Xi,ih,h.1]
def KV.repl{de:List (κ×V)}{vs:List (κ×O6)}(r:KV de vs)(k:κ)(ry:RelV y u) :
  KV (de.map λkv=>if kv.1=k then (kv.1,y) else kv) (vs.map λkv=>if kv.1=k then (kv.1,u) else kv):=by
 unfold KV at r ⊢
 induction r with
 |nil=>exact .nil
 |@cons p q ps qs h t ih =>
  rw[Qn,Qn];refine .cons ?_ ih;obtain⟨h1,h2⟩:=h;by_cases e:p.1=k
  .rw[if_pos e,if_pos (h1.symm.trans e)];exact⟨h1,ry⟩
  .rw[if_neg e,if_neg (λz=>e (h1.trans z))];exact⟨h1,h2⟩
def KV.put{de:List (κ×V)}{vs:List (κ×O6)}(r:KV de vs)(k:κ)(ry:RelV y u):KV (cc de k y) (stored vs k u):=by
 unfold cc stored;rw[r.any k];by_cases e:(vs.any λkv=>decide (kv.1=k))=true
 .rw[if_pos e,if_pos e];exact r.repl k ry
 .rw[if_neg e,if_neg e];exact Paired.snoc r ⟨rfl,ry⟩
def KV.keys{de:List (κ×V)}{vs:List (κ×O6)}(r:KV de vs):de.map (·.1)=vs.map (·.1):=by
 unfold KV at r
 induction r with
 |nil=>rfl
 |cons h t ih=>rw[Qn,Qn,ih,h.1]
def KV.length{de:List (κ×V)}{vs:List (κ×O6)}(r:KV de vs):de.length=vs.length:=T0 r
end
def vi{k:a7}(r:RelV (kV k) u):(bF P w).is k u=true:=by
 cases k with
 |inl i=>obtain⟨t,e⟩:=(show ∃t,u=Tf i t from r);subst e;exact rL P w i t
 |inr x=>obtain⟨t,e⟩:=(show ∃t,u=W4 x t from r);subst e;exact rK P w x t
def pi{P:P6}{w:Qp}:∀{ks:List a7} {us:List O6},Vals (ks.map kV) us->ItemsAre (bF P w) ks us
 |[],_,r=>by rw[Vf] at r;cases r;exact .nil
 |k :: ks,_,r=>by
  rw[Qn] at r;cases r with
  |cons h t=>exact .cons (vi h) (pi t)
nonrec abbrev KT(H:Hp):List (List a7×V)->List (List a7×Addr×O6)->Prop:=Paired λp q=>p.1=q.1/\H q.2.1=some (.tup (p.1.map kV))/\RelV p.2 q.2.2
def KT.val{de:List (List a7×V)}{xs:List (List a7×Addr×O6)}(r:KT H de xs)(k:List a7):RelO (bK de k) ((atKey xs k).map (·.2)):=by
 induction r with
 |nil=>exact SG
 |@cons p q ps qs h t ih =>
  obtain⟨h1,_,h2⟩:=h;by_cases e:p.1=k
  .have e':q.1=k:=h1.symm.trans e;have b:atKey (q :: qs) k=some q.2:=by simp[atKey,RG,e']
   rw[bD e,b];exact h2
  .have e' : ¬ q.1=k:=λz=>e (h1.trans z)
   have b:atKey (q :: qs) k=atKey qs k:=by simp[atKey,RG,e']
   rw[bj e,b];exact ih
def KT.repl{de:List (List a7×V)}{xs:List (List a7×Addr×O6)}(r:KT H de xs)(k:List a7)(ry:RelV y u) :
  KT H (de.map λkv=>if kv.1=k then (kv.1,y) else kv) (xs.map (putAt k u)):=by
 induction r with
 |nil=>exact .nil
 |@cons p q ps qs h t ih =>
  rw[Qn,Qn];refine .cons ?_ ih;obtain⟨h1,h2,h3⟩:=h;unfold putAt;by_cases e:p.1=k
  .rw[if_pos e,if_pos (h1.symm.trans e)];exact⟨h1,h2,ry⟩
  .rw[if_neg e,if_neg (λz=>e (h1.trans z))];exact⟨h1,h2,h3⟩
def KT.put{de:List (List a7×V)}{xs:List (List a7×Addr×O6)}(r:KT H de xs)(k:List a7)(hb:H b=some (.tup (k.map kV)))(ry:RelV y u) :
  KT H (cc de k y) (storedH xs k b u):=by
 have e:(de.any λkv=>decide (kv.1=k))=(atKey xs k).isSome:=by
  rw[eT,(r.val k).js,XQ]
 unfold cc storedH;rw[e];by_cases q:(atKey xs k).isSome=true
 .rw[if_pos q,if_pos q];exact r.repl k ry
 .rw[if_neg q,if_neg q];exact Paired.snoc r ⟨rfl,hb,ry⟩
def KT.keeps{H':Hp}{de:List (List a7×V)}{xs:List (List a7×Addr×O6)}(r:KT H de xs)(ht:∀b ys,H b=some (.tup ys)->H' b=some (.tup ys)):KT H' de xs :=
 Paired.mapP r λ_ _ z=>⟨z.1,ht _ _ z.2.1,z.2.2⟩
section
variable{P:P6}{w:Qp}{H:Hp}{h:Heap}{a:Addr}
def JQ(ok:HOk P w H h)(e:Rd H a u):b5 P w H h a u:=e.ok ok
def r_{de:List (a7×V)}(ok:HOk P w H h)(e:Rd H a (.dK de)):de.length<=sizeLine/\(a == sysModules)=false/\∃vs,KV de vs/\h.DictOf (bF P w) a vs :=
 show b5 P w H h a (.dK de) from JQ ok e
def IR{de:List (a7×V)}(ok:HOk P w H h)(e:H a=some (.dK de)):de.length<=sizeLine/\(a == sysModules)=false/\∃vs,KV de vs/\h.DictOf (bF P w) a vs:=r_ ok (.inl e)
def o9{ks:List a7}(ok:HOk P w H h)(e:H a=some (.tup (ks.map kV))):(tupleKind (bF P w)).is h ks a:=by
 obtain⟨_,gV,r,o,h1,⟨h2,n,h3⟩,_⟩:=(show b5 P w H h a (.tup (ks.map kV)) from ok a _ e)
 exact⟨o,gV.toArray,n,h1,h2,h3,by simpa using pi r⟩
def vz{de:List (List a7×V)}(ok:HOk P w H h)(e:Rd H a (.dT de)):de.length<=sizeLine/\(a == sysModules)=false /\
  ∃xs,KT H de xs/\h.DictOfH (tupleKind (bF P w)) a xs:=by
 obtain⟨z,y,xs,r,o,es,ep,h1,h2,h3,h4,h5⟩:=(show b5 P w H h a (.dT de) from JQ ok e)
 refine⟨z,y,xs,r,o,es,ep,h1,h2,h3,h4,λx hx=>?_,h5⟩
 have all:∀{l:List (List a7×V)} {m:List (List a7×Addr×O6)},KT H l m->∀x∈m,(tupleKind (bF P w)).is h x.1 x.2.1:=by
  intro l m q
  induction q with
  |nil=>intro x hx;exact nomatch hx
  |@cons p q ps qs hq t ih =>
   intro x hx;rcases Py.mp hx with e|hx
   .subst e;exact o9 ok (by rw[<- hq.1];exact hq.2.1)
   .exact ih x hx
 exact all r x hx
def L4{de:List (List a7×V)}(ok:HOk P w H h)(e:H a=some (.dT de)):de.length<=sizeLine/\(a == sysModules)=false /\
  ∃xs,KT H de xs/\h.DictOfH (tupleKind (bF P w)) a xs:=vz ok (.inl e)
end
abbrev DGet(H:Hp)(a:Addr)(y:V)(r:Option V):Prop :=
 (∃de k,Rd H a (.dK de)/\y=kV k/\r=bK de k)\/∃de k b,Rd H a (.dT de)/\y=.ref b/\H b=some (.tup (k.map kV))/\r=bK de k
abbrev DPut(H:Hp)(a:Addr)(y v:V)(H':Hp):Prop :=
 (∃de k,H a=some (.dK de)/\y=kV k/\de.length<sizeLine/\H'=upd H a (.dK (cc de k v))) \/
 ∃de k b,H a=some (.dT de)/\y=.ref b/\H b=some (.tup (k.map kV))/\de.length<sizeLine/\H'=upd H a (.dT (cc de k v))
def DGet.k{H:Hp}{de:List (a7×V)}{k:a7}(e:H a=some (.dK de)):DGet H a (kV k) (bK de k):=.inl ⟨de,k,.inl e,rfl,rfl⟩
def DGet.t{H:Hp}{de:List (List a7×V)}{k:List a7}(e:H a=some (.dT de))(eb:H b=some (.tup (k.map kV))):DGet H a (.ref b) (bK de k):=.inr ⟨de,k,b,.inl e,rfl,eb,rfl⟩
def DPut.k{H:Hp}{de:List (a7×V)}{k:a7}(e:H a=some (.dK de))(hl:de.length<sizeLine):DPut H a (kV k) v (upd H a (.dK (cc de k v))):=.inl ⟨de,k,e,rfl,hl,rfl⟩
def DPut.t{H:Hp}{de:List (List a7×V)}{k:List a7}(e:H a=some (.dT de))(eb:H b=some (.tup (k.map kV)))(hl:de.length<sizeLine) :
  DPut H a (.ref b) v (upd H a (.dT (cc de k v))):=.inr ⟨de,k,b,e,rfl,eb,hl,rfl⟩
section
variable{X:Cx}{ξ:List (Addr×Obj)}{σ:St}{H:Hp}{s:Pe}{a:Addr}{y v:V}{u r:O6}{o:Option V}{A:Qt}{E:O6->Pe->Prop}
def Inv.big(I:Inv X ξ σ H s):sysModules<s.heap.objs.size:=by
 have h:mainGlobals<s.heap.objs.size:=(I.mod.glob.keeps I.bk).lt;exact Qo (by decide) h
def Am{Q:O6->Pe->Prop}(hu:A.units+1<cLine)(I:Inv X ξ σ H s)(g:DGet H a y (some v))(ry:RelV y u)(h:∀w' s',Inv X ξ σ H s'->RelV v w'->Q w' s') :
  wpAny (model X.prog X.w) A (getItem (.ref a) u) Q E s:=by
 rcases g with⟨de,k,e,ey,l⟩|⟨de,k,b,e,ey,eb,l⟩
 .subst ey;obtain⟨z,hd,vs,rel,dd⟩:=r_ I.hok e;obtain⟨w',hw,rw'⟩:=RelO.some_of (v:=v) (o:=valueAt vs k) (by rw[l];exact rel.val k);exact wpAny_getItem_of (vi ry) dd.mapOf hw (h w' _ (I.tok _) rw')
 .subst ey;cases (show u=Qi b from ry);obtain⟨z,hd,xs,rel,dd⟩:=vz I.hok e;obtain⟨w',hw,rw'⟩:=RelO.some_of (v:=v) (o:=(atKey xs k).map (·.2)) (by rw[l];exact rel.val k);obtain⟨p,hp,hp2⟩:=Pb.mp hw;refine wpAny_getItem_heap (Ub hu) (o9 I.hok eb) dd hp ?_;rw[hp2];exact h w' _ (I.tok _) rw'
def IS{Q:O6->Pe->Prop}(hu:A.units+1<cLine)(I:Inv X ξ σ H s)(g:DGet H a y o)(ry:RelV y u)(h:∀s',Inv X ξ σ H s'->Q (.bool (!o.isSome)) s') :
  wpAny (model X.prog X.w) A (compareOp .NotIn u (.ref a)) Q E s:=by
 rcases g with⟨de,k,e,ey,l⟩|⟨de,k,b,e,ey,eb,l⟩
 .subst ey;obtain⟨z,hd,vs,rel,dd⟩:=r_ I.hok e;refine wpAny_notIn_of (vi ry) hd dd.mapOf ?_;rw[<- (rel.val k).js,<- l];exact h _ (I.tok _)
 .subst ey;cases (show u=Qi b from ry);obtain⟨z,hd,xs,rel,dd⟩:=vz I.hok e;refine wpAny_notIn_heap (Ub hu) (o9 I.hok eb) hd dd ?_;have q:=(rel.val k).js;rw[XQ] at q;rw[<- q,<- l];exact h _ (I.tok _)
def sg{t':Nat}(I:Inv X ξ σ H s)(mu:MH (H a))(hs:RX a s.heap h')(he:∃q,h'.get? a=some q)(new:b5 X.prog X.w (upd H a ob) h' a ob) :
  Inv X ξ σ (upd H a ob) {s with heap:=h',toks:=t'} :=
 I.write (x:=a) (e:=a) mu (.inl rfl) (λb q hb z=>(hs.2 b hb).trans z) he new
def Ft{h':Heap}{de:List (a7×V)}{vs:List (a7×O6)}(z:de.length<=sizeLine)(hd:(a == sysModules)=false)(rel:KV de vs)(dd:h'.DictOf (bF P w) a vs) :
  b5 P w H' h' a (.dK de):=⟨z,hd,vs,rel,dd⟩
def Al{Q:Unit->Pe->Prop}(hu:A.units+1<cLine)(I:Inv X ξ σ H s)(g:DPut H a y v H')(ry:RelV y u)(rv:RelV v r)(h:∀s',Inv X ξ σ H' s'->Q () s') :
  wpAny (model X.prog X.w) A (setItem (.ref a) u r) Q E s:=by
 rcases g with⟨de,k,e,ey,l,eH⟩|⟨de,k,b,e,ey,eb,l,eH⟩
 .subst ey eH;obtain⟨z,hd,vs,rel,dd⟩:=IR I.hok e;have hz:vs.length<=sizeLine:=by rw[<- rel.length];exact z
  have hl:(cc de k v).length<=sizeLine:=by have:=ce de k v;lia
  refine wpAny_setItem_pairs (hsz:=hz) (vi ry) dd λh' dd' hs=>h _ ?_
  have he:∃q,h'.get? a=some q:=let ⟨q,_,_,hq,_⟩:=dd';⟨q,hq⟩
  exact sg I (by rw[e];exact SG) hs he (Ft hl hd (rel.put k rv) dd')
 .subst ey eH;cases (show u=Qi b from ry);obtain⟨z,hd,xs,rel,dd⟩:=L4 I.hok e;have hz:xs.length<=sizeLine:=by rw[<- T0 rel];exact z
  have hl:(cc de k v).length<=sizeLine:=by have:=ce de k v;lia
  refine wpAny_setItem_heap (hsz:=hz) (Ub hu) (o9 I.hok eb) dd λh' dd' hs=>h _ ?_
  obtain⟨q,es,ep,hq,h2,h3,h4,_,h5⟩:=dd';refine sg I (by rw[e];exact SG) hs ⟨q,hq⟩ ⟨hl,hd,_,(rel.put k eb rv).keeps λc ys ec=>?_,q,es,ep,hq,h2,h3,h4,h5⟩;rw[aE (j9 ec e (λz=>nomatch z))];exact ec
end
section
variable{X:Cx}{ξ:List (Addr×Obj)}{σ:St}{H:Hp}{s:Pe}{a:Addr}{de:List (a7×V)}{k:a7}{u:O6}{A:Qt}{E:O6->Pe->Prop}
def Oq{Q:O6->Pe->Prop} (I:Inv X ξ σ H s) (e:Rd H a (.dK de)) (h:∀t s',Inv X ξ σ H s'->Q (.int de.length t) s'):wpAny (model X.prog X.w) A (call (.builtin "len") [.ref a]) Q E s:=by
 obtain⟨z,hd,vs,rel,dd⟩:=r_ I.hok e;refine call_len_dict hd dd (by rw[<- rel.length];rw[Sv] at z;lia) ?_;rw[<- rel.length];exact h _ _ (I.tok _)
end
abbrev MG(i:Expr):Prop:=∀ov iv,subscripted i false ov iv=operate [ov,iv] (getItem ov iv)
def Gq{T id:String}
  (hl:typeLookup (.type T) "__getitem__"=pure (some (.builtin id))) (hs:MG slice)
  (h:wpAny (model prog w) A (eval value env) (λo s₁=>wpAny (model prog w) A (eval slice env) (λi s₂=>s₂.TypeIs o T/\wpAny (model prog w) A (getItem o i) Q E s₂) E s₁) E s) :
  wpAny (model prog w) A (eval (.Subscript value slice pos) env) Q E s:=by
 refine Subscript_ (Rf h (λo s₁ h₁=>Rf h₁ (λi s₂ h₂=>?_) λ_ _ x=>x) λ_ _ x=>x);obtain⟨hT,h₂⟩:=h₂;unfold subscriptTail;refine O5 ?_;rw[getitemInPython_of_ne hT.not_modules];refine O5 (wpAny_specialOf hT hl ?_)
 have fin:wpAny (model prog w) A (subscripted slice false o i) (λr s₃=>wpAny (model prog w) A (letTemporaryGo value o r >>= λ_=>pure r) Q E s₃) E s₂:=by
  rw[hs o i];exact wpAny_operating (Rf h₂ (λr s₃ h₃=>O5 (wpAny_letTemporaryGo (Pt h₃))) λ_ _ x=>x)
 first
  |exact Pt (O5 fin)
  |exact O5 (Pt (O5 fin))
  |exact O5 fin
def sd{H:Hp}     (I:Inv X ξ σ H s) (g:DGet H a y o):s.TypeIs (.ref a) "dict":=by
 rcases g with⟨de,k,e,_,_⟩|⟨de,k,b,e,_,_,_⟩
 .obtain⟨_,_,vs,_,dd⟩:=r_ I.hok e;exact dd.typeIs
 .obtain⟨_,_,xs,_,dd⟩:=vz I.hok e;exact dd.typeIs
abbrev qH(td ty:TE):TE:=λσ H Q=>td σ H λx H1=>ty σ H1 λy H2=>∃a v,x=.ref a/\DGet H2 a y (some v)/\Q v H2
abbrev qG(ty td:TE):TE:=λσ H Q=>ty σ H λy H1=>td σ H1 λx H2=>∃a o,x=.ref a/\DGet H2 a y o/\Q (.bl (!o.isSome)) H2
abbrev oz(td ty tv:TE):TS:=λD σ H=>tv σ H λv H1=>td σ H1 λx H2=>ty σ H2 λy H3=>∃a H4,x=.ref a/\DPut H3 a y v H4/\D.nx σ H4
section
variable{X:Cx}{o i e value:Expr}{pos pos' tpos:Pos}{td ty tv:TE}
def HL(hu:X.A.units+1<cLine)(ho:PE X o td)(hi:PE X i ty)(hs:MG i):PE X (.Subscript o i pos) (qH td ty):=by
 intro ξ s σ H Q I h;refine Gq PySem.F.slot_dict_getitem.lookup hs (bf (ho ξ s σ H _ I h) λu s1 ⟨x,H1,I1,rx,q1⟩=>bf (hi ξ s1 σ H1 _ I1 q1) λiv s2 ω=>?_);obtain⟨y,H2,I2,ry,a,v,ex,g,q2⟩:=ω;subst ex;obtain rfl:u=Qi a:=rx;exact⟨sd I2 g,Am hu I2 g ry λw' s3 I3 rw'=>⟨v,H2,I3,rw',q2⟩⟩
def yM(hu:X.A.units+1<cLine)(hi:PE X i ty)(ho:PE X o td):PC X .NotIn i o (qG ty td):=by
 intro ξ s σ H Q I h;refine bf (hi ξ s σ H _ I h) λiv s1 ⟨y,H1,I1,ry,q1⟩=>bf (ho ξ s1 σ H1 _ I1 q1) λu s2 ω=>?_;obtain⟨x,H2,I2,rx,a,ov,ex,g,q2⟩:=ω
 subst ex;obtain rfl:u=Qi a:=rx;exact IS hu I2 g ry λs3 I3=>⟨.bl (!ov.isSome),H2,I3,rfl,q2⟩
def Hx(hu:X.A.units+1<cLine)(ho:PE X o td)(hi:PE X i ty)(hv:PE X value tv)(hs:swapsWith value (some (.Subscript o i pos')) pos.line X.env=pure false) :
  PS X (.Assign [.Subscript o i pos'] value pos) (oz td ty tv):=by
 intro ξ s σ H D I h;refine wpAny_Assign_Subscript (bf (hv ξ s σ H _ I h) λr s1 ⟨v,H1,I1,rv,q1⟩=>bf (ho ξ s1 σ H1 _ I1 q1) λu s2 ⟨x,H2,I2,rx,q2⟩=>bf (hi ξ s2 σ H2 _ I2 q2) λiv s3 ω=>?_) hs;obtain⟨y,H3,I3,ry,a,H4,ex,g,q3⟩:=ω;subst ex;obtain rfl:u=Qi a:=rx;exact Al hu I3 g ry rv λs4 I4=>⟨σ,H4,I4,q3⟩
end
def ul(h:Heap) (hb:sysModules<h.objs.size):b5 P w H (h.push {cls:=.type "dict",data:=.dict #[]}) h.objs.size (.dK []) :=
 ⟨Ql _,beq_eq_false_iff_ne.mpr (Vd (Qb hb)),[],.nil,Heap.DictOf.new h⟩
def Ee(h:Heap) (hb:sysModules<h.objs.size):b5 P w H (h.push {cls:=.type "dict",data:=.dict #[]}) h.objs.size (.dT []) :=
 ⟨Ql _,beq_eq_false_iff_ne.mpr (Vd (Qb hb)),[],.nil,_,#[],0,PR _ rfl,⟨rfl,rfl,rfl⟩,rfl,rfl,RB⟩
abbrev EG:TE:=λ_ H Q=>∀p,H p=none->Q (.ref p) (upd H p (.dK []))
abbrev xk:TE:=λ_ H Q=>∀p,H p=none->Q (.ref p) (upd H p (.dT []))
section
variable{X:Cx}{pos:Pos}
def Dd:PE X (.Dict [] [] pos) EG:=λξ s σ H Q I h =>
 wpAny_Dict_empty ⟨.ref s.heap.objs.size,_,I.laid (a:=s.heap.objs.size) (o:=.dK []) (t':=s.toks) (λ_ _ q=>Pf _ q) (Pa _) (ul s.heap I.big),rfl,h _ (I.hok.fresh (Pa _))⟩
def Dc:PE X (.Dict [] [] pos) xk:=λξ s σ H Q I h =>
 wpAny_Dict_empty ⟨.ref s.heap.objs.size,_,I.laid (a:=s.heap.objs.size) (o:=.dT []) (t':=s.toks) (λ_ _ q=>Pf _ q) (Pa _) (Ee s.heap I.big),rfl,h _ (I.hok.fresh (Pa _))⟩
end
abbrev iK:List (TE×TE)->St->Hp->(List (V×V)->Hp->Prop)->Prop
 |[],_,H,Q=>Q [] H
 |(tk,tv) :: r,σ,H,Q=>tk σ H λx H1=>tv σ H1 λy H2=>iK r σ H2 λps H3=>Q ((x,y) :: ps) H3
nonrec abbrev VV:List (V×V)->List (O6×O6)->Prop:=Paired λp q=>RelV p.1 q.1/\RelV p.2 q.2
abbrev MF(X:Cx)(pos:Pos)(keys:List (Option Expr))(values:List Expr)(trs:List (TE×TE)):Prop :=
 ∀(ξ:List (Addr×Obj)) (s:Pe) (σ:St) (H:Hp) (Q:List (V×V)->Hp->Prop),Inv X ξ σ H s->iK trs σ H Q ->
  wpAny (model X.prog X.w) X.A (evalPairs (pairTrees keys values X.env pos)) (λvs s'=>∃ps H',Inv X ξ σ H' s'/\VV ps vs/\Q ps H') X.xe s
def HA:MF X pos [] [] []:=λξ s σ H Q I h=>pairTrees_nil_walk ⟨[],H,I,.nil,h⟩
def C7{vs:List Expr}{tk:TE}(hk:PE X k tk)(hv:PE X v tv)(hr:MF X pos ks vs trs) :
  MF X pos (some k :: ks) (v :: vs) ((tk,tv) :: trs):=λξ s σ H Q I h =>
 pairTrees_cons_walk (bf (hk ξ s σ H _ I h) λu s1 ⟨x,H1,I1,rx,q1⟩=>bf (hv ξ s1 σ H1 _ I1 q1) λw2 s2 ⟨y,H2,I2,ry,q2⟩ =>
  bf (hr ξ s2 σ H2 _ I2 q2) (by rintro ws s3 ⟨ps,H3,I3,rel,q3⟩;exact ⟨(x,y) :: ps,H3,I3,.cons ⟨rx,ry⟩ rel,q3⟩))
abbrev dF(de more:List (a7×V)):List (a7×V):=more.foldl (λacc kv=>cc acc kv.1 kv.2) de
def KV.merge:∀{more:List (a7×V)} {rs:List (a7×O6)} {de:List (a7×V)} {vs:List (a7×O6)},KV more rs->KV de vs->KV (dF de more) (merged vs rs):=by
 intro more rs de vs r;unfold KV at r
 induction r generalizing de vs with
 |nil=>intro q;exact q
 |@cons p q ps qs h t ih =>
  intro r0
  have e:KV (cc de p.1 p.2) (stored vs q.1 q.2):=by
   have:=r0.put p.1 h.2
   rw[<- h.1];exact this
  exact ih e
def fZ:∀(more de:List (a7×V)),(dF de more).length<=de.length+more.length
 |[],de=>by show de.length<=de.length+0;lia
 |p :: r,de=>by
  have h1:=fZ r (cc de p.1 p.2);have h2:=ce de p.1 p.2;show(dF (cc de p.1 p.2) r).length<=_;rw[P7];lia
def kH{P:P6}{w:Qp}:∀{de:List (a7×V)} {ws:List (O6×O6)},VV (de.map λkv=>(kV kv.1,kv.2)) ws->∃rs,Carries (bF P w) ws rs/\KV de rs
 |[],_,r=>by rw[Vf] at r;cases r;exact⟨[],SG,.nil⟩
 |p :: de,_,r=>by
  rw[Qn] at r;cases r with
  |@cons a b as bs h t =>
   obtain⟨rs,c,q⟩:=kH (P:=P) (w:=w) t;obtain⟨b1,b2⟩:=b;exact⟨(p.1,b2) :: rs,⟨vi h.1,rfl,c⟩,.cons ⟨rfl,h.2⟩ q⟩
abbrev Go(trs:List (TE×TE)):TE:=λσ H Q=>∀p,H p=none->iK trs σ (upd H p (.dK [])) λps H2=>H2 p=some (.dK [])/\∃de:List (a7×V),ps=de.map (λkv=>(kV kv.1,kv.2))/\de.length<=15/\Q (.ref p) (upd H2 p (.dK (dF [] de)))
def HK(h:MF X pos keys values trs)(hall:keys.all (·.isSome)=true)(hl:keys.length=values.length)(h0:keys≠[])
  (h15:keys.length<=15):PE X (.Dict keys values pos) (Go trs):=by
 intro ξ s σ H Q I q;have hn:=I.hok.fresh (Pa s.heap.objs.size);have I1:=I.laid (a:=s.heap.objs.size) (o:=.dK []) (h':=s.heap.push {cls:=.type "dict",data:=.dict #[]}) (t':=s.toks) (λ_ _ q=>Pf _ q) (Pa _) (ul s.heap I.big);refine wpAny_Dict_walk (knd:=bF X.prog X.w) hall hl h0 h15 (bf (h ξ _ σ _ _ I1 (q _ hn)) λws s2 ω=>?_);obtain⟨ps,H2,I2,rel,e,de,ep,lk,q2⟩:=ω;subst ep;obtain⟨rs,c,rk⟩:=kH (P:=X.prog) (w:=X.w) rel;obtain⟨z,hd,vs0,r0,dd⟩:=IR I2.hok e;cases r0;refine⟨rs,c,dd,λh' dd' hs=>⟨.ref s.heap.objs.size,_,?_,rfl,q2⟩⟩
 have hz:(dF [] de).length<=sizeLine:=by
  have h1:=fZ de [];rw[T_] at h1;rw[Sv];lia
 have he:∃q,h'.get? s.heap.objs.size=some q:=let ⟨q,_,_,hq,_⟩:=dd';⟨q,hq⟩
 exact sg I2 (by rw[e];exact SG) hs he (Ft hz hd (rk.merge .nil) dd')
structure M1 (X:Cx) (o:Expr) (m:Str) (apos:Pos) (e:Expr) (Zo:Pos):Prop where
 base:attributeBase o m X.env (eval o X.env)=eval o X.env
 few:((backTo Zo (starEach [e] X.env)).all (λx=>!x.1) && (backToKw Zo (keywordEach [] X.env)).all (λx=>x.1.isSome)
  && decide (([e]:List Expr).length+([]:List YE).length+(if ([]:List YE).isEmpty then 0 else 1)<30))=true
 line:(apos.endLine == Zo.line)=true
 trees:backTo Zo (starEach [e] X.env)=[(false,eval e X.env)]
abbrev OB(H:Hp)(a:Addr):Prop:=(∃de,Rd H a (.dK de))\/∃de,Rd H a (.dT de)
def LS{H:Hp}(I:Inv X ξ σ H s)(d:OB H a) :
  s.TypeIs (.ref a) "dict"/\(∀b,Qi a=.ref b->∃ob,s.heap.get? b=some ob/\ob.dict=none)/\(a == sysModules)=false:=by
 rcases d with⟨de,e⟩|⟨de,e⟩
 .obtain⟨_,hd,vs,_,dd⟩:=r_ I.hok e;refine⟨dd.typeIs,λb q=>?_,hd⟩;cases q;obtain⟨ob,_,_,h1,h2,_⟩:=dd;exact⟨ob,h1,h2.2.1⟩
 .obtain⟨_,hd,xs,_,dd⟩:=vz I.hok e;refine⟨dd.typeIs,λb q=>?_,hd⟩;cases q;obtain⟨ob,_,_,h1,h2,_⟩:=dd;exact⟨ob,h1,h2.2.1⟩
section
variable{X:Cx}{ξ:List (Addr×Obj)}{σ:St}{H:Hp}{s:Pe}{a:Addr}{y d:V}{u r:O6}{o:Option V}{A:Qt}{E:O6->Pe->Prop}
def L7{Q:O6->Pe->Prop}(hu:A.units+1<cLine)(I:Inv X ξ σ H s)(g:DGet H a y o)(ry:RelV y u)(h:∀w' s',Inv X ξ σ H s'->RelV (o.getD .non) w'->Q w' s') :
  wpAny (model X.prog X.w) A (call (.builtin "dict.get") [.ref a,u]) Q E s:=by
 rcases g with⟨de,k,e,ey,l⟩|⟨de,k,b,e,ey,eb,l⟩
 .subst ey;obtain⟨z,hd,vs,rel,dd⟩:=r_ I.hok e;refine call_meetsIn Ux dd.typeIs Wu (V8 _ _) (meets_dict_get (bF X.prog X.w) a (vi ry) hd) ⟨_,dd.mapOf,h _ _ (I.tok _) ?_⟩;rw[l];exact(rel.val k).getD rfl
 .subst ey;cases (show u=Qi b from ry);obtain⟨z,hd,xs,rel,dd⟩:=vz I.hok e;refine call_meetsIn Ux dd.typeIs Wu (V8 _ _) (meetsH_dict_get (tupleKind (bF X.prog X.w)) a b hd) ⟨Ub hu,k,xs,o9 I.hok eb,dd,h _ _ (I.tok _) ?_⟩;rw[l];exact(rel.val k).getD rfl
end
abbrev xl(td ty:TE):TE:=λσ H Q=>td σ H λx H1=>∃a,x=.ref a/\OB H1 a/\ty σ H1 λy H2=>∃o,DGet H2 a y o/\Q (o.getD .non) H2
section
variable{X:Cx}{o e f:Expr}{apos Zo:Pos}{td ty tx:TE}
def De(hu:X.A.units+1<cLine) (ho:PE X o td) (he:PE X e ty) (m:M1 X o "get" apos e Zo):PE X (.Call (.Attribute o "get" apos) [e] [] Zo) (xl td ty):=by
 intro ξ s σ H Q I h;refine wpAny_Call_method m.base m.few m.line PySem.F.plainAttrs_dict Ux PySem.F.type_dict_get (bf (ho ξ s σ H _ I h) λu s1 ω=>?_);obtain⟨x,H1,I1,rx,a,ex,d,q1⟩:=ω;subst ex;obtain rfl:u=Qi a:=rx;obtain⟨t1,t2,_⟩:=LS I1 d;refine⟨t1,t2,?_⟩;rw[m.trees];refine Uo rfl (WQ (Sd (bf (he ξ s1 σ H1 _ I1 q1) λiv s2 ⟨y,H2,I2,ry,ov,g,q2⟩=>Sw ?_)));exact L7 hu I2 g ry λw' s3 I3 rw'=>⟨_,H2,I3,rw',q2⟩
end
section
variable{X:Cx}
def AD:e_ X (.builtin "len") (λxs H Q=>∃a de,xs=[V.ref a]/\H a=some (.dK de)/\Q (.int de.length) H):=by
 intro ξ s σ H xs us Q I r h;obtain⟨a,de,rfl,ha,q⟩:=h;obtain⟨u,rfl,ru⟩:=vals1 r;cases ru;exact Oq I (.inl ha) λt s' I'=>⟨.int de.length,H,I',⟨t,rfl⟩,q⟩
end
open PySem PySem.W
abbrev OL(K:Frag):List Str->Prop
 |[]=>True
 |n :: r=>nsIn K mainGlobals n=some none/\OL K r
end L2
namespace K89H
open PySem PySem.Spec PyProof.Rows L2
abbrev top(i:Nat):Stmt:=PW89.main.body.getD i (.Pass ⟨0,0,0,0⟩)
abbrev spLaw(K:Fg):Sp:=λvs H Q _=>∃(a:Addr) (ns:List Int),vs=[.ref a]/\SqL K H a (ns.map V.int)/\ns.length<=63/\∀H',Q (.bl true) H'
abbrev Je(K:Fg)(n:Str)(st:Stmt):Prop:=∃(f:Addr) (od an:Option Addr) (sl:Array (Option O6)) (oc kV dc pm cd ct:O6),Vh K mainGlobals n=some (⇑f)/\K.lookup f=some ⟨oc,od,.func (RA n n (c5 st) (cj st) (ao st) .none kV dc pm an cd ct),sl⟩/\Tv K cd n=true/\SQ K (.ref f)=true
def fnIn{K:Fg}{st:Stmt}{od:Option Addr}{sl:Array (Option O6)}{oc kV:O6}(a:Vh K mainGlobals n=some (⇑f))(l:K.lookup f=some ⟨oc,od,.func (RA n n (c5 st) (cj st) (ao st) .none kV dc pm an cd ct),sl⟩)(c:Tv K cd n=true)(k:SQ K (.ref f)=true):Je K n st:=⟨f,od,an,sl,oc,kV,dc,pm,cd,ct,a,l,c,k⟩
local macro_rules | `(tactic| fail "f")=>`(tactic| (refine' fnIn ?a ?l ?c ?k;(case a=>k_is);(case l=>k_is);(case c=>k_is);(case k=>k_is)))
abbrev AV(K:Fg):List (Str×Nat)->Prop
 |[]=>True
 |(n,i) :: r=>Je K n (top i)/\AV K r
local macro_rules | `(tactic| walk_at "all")=>`(tactic| repeat' first|exact trivial|(refine And.intro ?_ ?_)|k_is|k_exc|fail "f"|exact rfl|decide)
def walk{l:Yv}{XP:(Str->Option O6)->Heap->Prop}{YP:Qp->Heap->Prop}{d:DefRec}{K:Params->XD}(hn:l.most=some 63)(hdf:d.params.defaults=[])
  (hY:∀(w:Qp) (h:Heap),YP w h->(K w.params).In h)
  (F:∀(w:Qp) (mg:Str->Option O6) (fa:Addr) (h:Heap),(K w.params).In h->h.Ns mainGlobals mg->mg d.name=⇑fa ->
   ∃fd:Se,(∀(s:Pe) (u:O6),XM s fd ⟨[u],[]⟩ [("_law_script",u)])/\∀base:Heap,(K w.params).In base->base.Ns mainGlobals mg->FnOk l.prog w (K w.params) mg base bh 12 fa fd ["_law_script"] (spLaw (K w.params))) :
  Xf q loose XP YP l.row.toRowW d [] (λf vs=>Xs f vs) :=
 L2.FU (n:=63) (k:=12) (x:="_law_script") (CX:=λ_=>bh) (sp:=λw=>spLaw (K w.params)) hn (by decide) hdf ⟨rfl,by decide,by decide⟩ hY F (λ_ _ a ns hl _ hS=>⟨a,ns,rfl,hS,hl,λ_=>rfl⟩) λ_ _ _ _ _ z=>z
open PySem.W in
def headed(hW:∀{w:Qp} {K:Fg} {h:Heap} {mg:Str->Option O6} {fa:Addr} (X:K.In h) (G:h.Ns mainGlobals mg) (hfa:mg "law"=⇑fa)
  (P0:AV K [("whole",8),("greatest_divisor",9),("fraction",10),("plus",11),("times",12),("first_place",14),("unit_row",15),("unit_rows",16),("common_divisor",17),("lowest",18),("cleared",19),("sifted",20),("nought_makers",21),("heaps_of",24),("heaps",25),("turning_at",26),("heap_numbers",28),("places_of",29),("lots",30),("check_heap",31)]) (P20:AV K [("road",32),("first_astray",33),("lot_marks",35),("lack_rows",36),("taken_out",38),("split",39),("place_with_divisor",40),("apart",41),("raised",42),("multiplied",43),("turnings_from",46),("picks",47),("is_tree",48),("pace_product",49),("tree_weight",50),("tree_weights",51),("falling",53),("ways",54),("can_be_made",55),("count_behind",56)]) (P40:AV K [("walked",57),("weight_powers",59),("even",60),("even_weights",61),("heaps_come_to",62),("gain_between",63),("gain",64),("_law_cell_at",66),("_law_mixed",67),("_law_divisor",68),("_law_lowest",69),("_law_words",70),("_law_heap",71),("_law_pool",72),("_law_pairs",73),("_law_pace",74),("_law_vessel",75),("_law_plus",78),("_law_times",79),("_law_even_vessel",80)]) (P60:AV K [("_law_zero_lack",81),("_law_balanced",82),("_law_count",83),("_law_can",84),("_law_some_count",86),("_law_balance",87),("law",88)]) (Z:OL K ["len","abs","range","isinstance","int","bool","tuple","list","str","zip","set","all","any","min","max","sum","sorted","enumerate","reversed","dict","ord","divmod"])
  {tn0 tn1 to0 to1:Tok} {nq oq:Addr} {nqd oqd:Option Addr} {nqn oqn:Nat} {nqs oqs:Array (Option O6)}
  (hcnN:Vh K mainGlobals "NOUGHT"=some (⇑nq))
  (hcnL:K.lookup nq=some ⟨.type "tuple",nqd,.seq #[.int 0 tn0,.int 1 tn1] nqn,nqs⟩)
  (hcnO:Vh K mainGlobals "ONE"=some (⇑oq))
  (hcnM:K.lookup oq=some ⟨.type "tuple",oqd,.seq #[.int 1 to0,.int 1 to1] oqn,oqs⟩)
  ,∃fd:Se,(∀(s:Pe) (v:O6),XM s fd ⟨[v],[]⟩ [("_law_script",v)])/\∀base:Heap,K.In base->base.Ns mainGlobals mg->FnOk PySem.Challenge.rw_vesselhall_k89_as_much_comes_as_goes.prog w K mg base bh 12 fa fd ["_law_script"] (spLaw K)):PySem.Challenge.rw_vesselhall_k89_as_much_comes_as_goes.Holds:=by
 refine said ?_
 w_on
 refine Xq (q:=qv) (loose:=[]) (Xt:=λs=>Uk qv [] s && TY [] s) (XP:=YG qv []) (Yf:=X8 (UM pre.heap_1 asl asl_ok)) (Ya:=X9 (UM pre.heap_1 asl asl_ok)) (YP:=XF (UM pre.heap_1 asl asl_ok)) (N:=7186) hooks (Yu (UM pre.heap_1 asl asl_ok)) (Xr (UM pre.heap_1 asl asl_ok)) (λs e=>YY s (Tu.mp e).1) X_ (by rfl) (by rfl) (by rfl) (λs e=>W8 (Tu.mp e).2) (by rfl) (by first|assumption|decide +kernel) (by decide +kernel) ⟨rfl,rfl,rfl,rfl,rfl,by decide +kernel⟩ ?_ ?_
 .clear hW;w_witness2
 k_fill
 refine walk (l:=PySem.Challenge.rw_vesselhall_k89_as_much_comes_as_goes) rfl rfl (λw h Y=>PySem.W.kIn_of Y) ?F
 case F =>
  intro w mg fa h KX G hmg;refine' hW KX G hmg ?_ ?_ ?_ ?_ ?_ ?_ ?_ ?_ ?_
  all_goals try walk_at "all"
end K89H
namespace L2
open PySem PySem.Spec PyProof.Rows
section
variable{X:Cx}{a b c:Expr}{ta tb tc:TE}{pos:Pos}
abbrev MR(_ j:Int):Prop:=j≠0/\j.natAbs<2 ^ 9000
def Dm:eJ X (binaryOp .FloorDiv) (rI MR λi j=>.int (i.fdiv j)):=E2 λi j _ _ _ _ _ hc q=>by
 have h0:j.natAbs≠0:=by have:=hc.1;lia
 exact XH hc.1 q (.inl (PyProof.noPylong_of_log2 ((WS h0).mpr hc.2)))
abbrev iu(i j:Int):Prop:=i.natAbs<2 ^ 20000/\j.natAbs<2 ^ 20000
def iu.ok(h:iu i j):IntMulOk i j:=by
 have h1:=V9 h.1;have h2:=V9 h.2;unfold IntMulOk
 have e:WI ((W_ i:Int)+(W_ j:Int))=false:=by
  unfold WI;refine decide_eq_false ?_
  have:(40000:Int)<=bitsLine:=by decide
  lia
 intro q;rw[e] at q;simp at q
def HV:eJ X (binaryOp .Mult) (rI iu λi j=>.int (i*j)):=E2 λ_ _ _ _ _ _ _ hc q=>mul_int q hc.ok
def Ei:e_ X (.builtin "isinstance") (λxs H Q=>∃x n t b,xs=[x,.ty n]/\TyOf X.K H x t/\Ul X.K t (.type n)=some b/\Q (.bl b) H):=by
 intro ξ s σ H xs us Q I r h;obtain⟨x,n,t,b,rfl,ty,e,q⟩:=h;obtain⟨u,u',rfl,rx,ry⟩:=vals2 r;obtain rfl:u'=Vp n:=ry;exact zD I rx ty e λtk=>⟨.bl b,H,I.tok tk,rfl,q⟩
end
structure FnC (P:P6) (w:Qp) (K:Fg) (mg:Str->Option O6) (base:Heap) (CX:nH) (k:Nat) (x:Str) (ps:List Str) (sp:Sp):Prop where
 ex:∃(f:Addr) (fd:Se),FnOk P w K mg base CX k f fd ps sp/\mg x=⇑f/\SQ K (.ref f)=true/\Binds K fd ps []
structure aK (K:Fg) (mg:Str->Option O6) (x:Str) (st:Stmt) (ps:List Str):Prop where
 ex:∃(f:Addr) (fd:Se),Fun K x x st f fd/\mg x=⇑f/\Binds K fd ps []
section
variable{P:P6}{w:Qp}{K:Fg}{mg:Str->Option O6}{base:Heap}{CX:nH}
def D7{st:Stmt}{ps:List Str}{oc:O6}{od:Option Addr}{osl:Array (Option O6)}{kV:O6}(X:K.In h)(G:h.Ns mainGlobals mg)
  (a:Vh K mainGlobals x=some (⇑f)) (l:K.lookup f=some ⟨oc,od,.func (RA x x (c5 st) (cj st) (ao st) .none kV doc pm an cdv ct),osl⟩)
  (c:Tv K cdv x=true) (k:SQ K (.ref f)=true)
  (hb:∀(kV doc pm:O6) (an:Option Addr) (cdv ct:O6) (us:List O6),us.length=ps.length->bindArgs (RA x x (c5 st) (cj st) (ao st) .none kV doc pm an cdv ct) ⟨us,[]⟩=pure (ps.zip us)) :
  aK K mg x st ps:=by
 have F:=Fm (K:=K) (x:=x) (qual:=x) (st:=st) l c k;exact⟨f,_,F,VY X G a,F.binds hb⟩
def FnC.mono{k:Nat}(F:FnC P w K mg base CX j x ps sp)(h:j<=k):FnC P w K mg base CX k x ps sp :=
 let ⟨f,fd,G,r⟩:=F.ex
 ⟨f,fd,G.mono h,r⟩
def FnC.imp{sp':Sp}(F:FnC P w K mg base CX k x ps sp)(h:∀vs H Q E,sp' vs H Q E->sp vs H Q E):FnC P w K mg base CX k x ps sp' :=
 let ⟨f,fd,G,r⟩:=F.ex
 ⟨f,fd,G.imp h,r⟩
def aK.ok{st:Stmt}{sp:Sp}(F:aK K mg x st ps)(S:ay N ps (ao st))(len:∀vs H Q E,sp vs H Q E->vs.length=ps.length)
  (hbody:∀(f:Addr) (cdv:O6) (A:Qt) (outer:List Env) (s:Pe) (H:Hp) (vs:List V) (Q:VK) (E:XK),Room k (A.deeper (envOfC x (ao st) s.heap.objs.size f cdv))->sp vs H Q E ->
   ∃t,PSs (mV bh P w K mg base N x (ao st) f cdv A outer s H E).nox (cj st) t/\t {nx:=λ_ H'=>Q .non H',rt:=Q} (start N vs) H):FnC P w K mg base bh (k+1) x ps sp:=by
 obtain⟨f,fd,G,hm,hb⟩:=F.ex;exact⟨f,fd,G.ok S len (hbody f),hm,G.kp,hb⟩
end
section
variable{X:Cx}{CX:nH}{k:Nat}{ps:List Str}{sp:Sp}{E:XK}{x:Str}{p pos:Pos}{e:Expr}{es:List Expr}{t:TA}
def Df(F:FnC X.prog X.w X.K X.mg X.base CX k x ps sp)(hr:Room k X.A)(hg:Gl X x)(hx:nu CX X E)(ha:PA X (e :: es) t)
  (hdb:(x == ("__debug__":Str))=false:=by decide) (he:starEach (e :: es) X.env=(false,eval e X.env) :: starEach es X.env:=by rfl) (hpl:(backTo pos (starEach es X.env)).any (·.1)=false:=by rfl) :
  PE X (.Call (.Name x p) (e :: es) [] pos) (aC sp [] E t):=by
 obtain⟨f,fd,G,hm,kp,hb⟩:=F.ex;exact HN G hr hg hm kp hb .nil hx ha hdb he hpl
def Dg(F:FnC X.prog X.w X.K X.mg X.base bh k x ps sp)(hr:Room k X.A)(hg:Gl X x)(ha:PA X (e :: es) t)
  (hdb:(x == ("__debug__":Str))=false:=by decide) (he:starEach (e :: es) X.env=(false,eval e X.env) :: starEach es X.env:=by rfl) (hpl:(backTo pos (starEach es X.env)).any (·.1)=false:=by rfl) :
  PE X (.Call (.Name x p) (e :: es) [] pos) (aC sp [] E0 t):=Df F hr hg Nm ha hdb he hpl
end
def ak{H:Hp}(h:H p=none)(o:HO):Same H (upd H p o):=λb u q=>by rw[aE (aw q h)];exact q
def Same.seqT{K:Fg}(e:Same H H')(h:SqT K H a xs):SqT K H' a xs:=by
 rcases h with(h|⟨o,h⟩)|h
 .exact .inl (.inl (e _ _ h))
 .exact .inl (.inr ⟨o,e _ _ h⟩)
 .exact .inr h
structure bP (mg:Str->Option O6):Prop where
 len:mg "len"=none
 abs:mg "abs"=none
 range:mg "range"=none
 isinstance:mg "isinstance"=none
 int:mg "int"=none
 bool:mg "bool"=none
 tuple:mg "tuple"=none
 list:mg "list"=none
 str:mg "str"=none
 zip:mg "zip"=none
 set:mg "set"=none
 all:mg "all"=none
 any:mg "any"=none
 min:mg "min"=none
 max:mg "max"=none
 sum:mg "sum"=none
 sorted:mg "sorted"=none
 enumerate:mg "enumerate"=none
 reversed:mg "reversed"=none
 dict:mg "dict"=none
 ord:mg "ord"=none
 divmod:mg "divmod"=none
def Mm:bootBuiltins "len"=some (.builtin "len"):=by decide +kernel
def Mo:bootBuiltins "abs"=some (.builtin "abs"):=by decide +kernel
def m8:bootBuiltins "isinstance"=some (.builtin "isinstance"):=by decide +kernel
def FE:bootBuiltins "int"=some (.type "int"):=by decide +kernel
def IV:bootBuiltins "bool"=some (.type "bool"):=by decide +kernel
def Eo:bootBuiltins "tuple"=some (.type "tuple"):=by decide +kernel
def AK:bootBuiltins "list"=some (.type "list"):=by decide +kernel
def LQ{y z:Int}{A B:Prop}(h1:y≠z->A)(h2:y=z->B):if (!decide (V.int y=V.int z))=true then A else B:=by
 by_cases h:y=z
 .subst h;rw[decide_eq_true rfl];exact zC (h2 rfl)
 .rw[decide_eq_false (λq=>h (V.int.inj q))];exact vj (h1 h)
def LR[Decidable c]{A B:Prop}(h1:c->A)(h2 : ¬ c->B):if decide c=true then A else B:=by
 by_cases h:c
 .rw[decide_eq_true h];exact vj (h1 h)
 .rw[decide_eq_false h];exact zC (h2 h)
nonrec abbrev aX:R2:=rB λi j=>.int (i+j)
nonrec abbrev hX:R2:=rB λi j=>.int (i-j)
nonrec abbrev cV:R2:=rI iu λi j=>.int (i*j)
nonrec abbrev b9:R2:=rI Jh λi j=>.int (i / j)
nonrec abbrev CW:R2:=rI MR λi j=>.int (i.fdiv j)
nonrec abbrev aS:R2:=rI (λ_ j=>0<j) λi j=>.int (i % j)
nonrec abbrev Hk:R2:=rI (λ_ j=>j≠0) λi j=>.int (i.fmod j)
nonrec abbrev rA:R2:=rI MP λi j=>.int (i ^ j.toNat)
nonrec abbrev yn:R2:=rB λi j=>.bl (decide (i<j))
nonrec abbrev Nd:R2:=rB λi j=>.bl (decide (i<=j))
nonrec abbrev CV:R2:=rB λi j=>.bl (decide (j<i))
nonrec abbrev OS:R2:=rB λi j=>.bl (decide (j<=i))
nonrec abbrev CU:R2:=λx y H Q=>y=.non/\Q (.bl (decide (x=.non))) H
nonrec abbrev J4:R2:=λx y H Q=>y=.non/\Q (.bl (!decide (x=.non))) H
nonrec abbrev Hr:R2:=λx y H Q=>∃i j,x=.str i/\y=.str j/\i.length+j.length<=sizeLine/\Q (.str (i++j)) H
nonrec abbrev J8:List V->Hp->VK->Prop:=λxs H Q=>∃i,xs=[.int i]/\Q (.int (if i<0 then -i else i)) H
nonrec abbrev cH(K:Fg):List V->Hp->VK->Prop:=λxs H Q=>∃p ys,xs=[.ref p]/\(SqL K H p ys\/SqT K H p ys)/\Q (.int ys.length) H
nonrec abbrev J7(K:Fg):List V->Hp->VK->Prop:=λxs H Q=>∃x n t b,xs=[x,.ty n]/\TyOf K H x t/\Ul K t (.type n)=some b/\Q (.bl b) H
nonrec abbrev Hm:List V->Hp->VK->Prop:=λxs H Q=>(∃i,xs=[.int i]/\Q (.int i) H)\/∃k,xs=[.bl k]/\Q (.int (if k then 1 else 0)) H
nonrec abbrev cz(K:Fg):List V->Hp->VK->Prop:=λxs H Q=>∃p ys,xs=[.ref p]/\((SqL K H p ys/\∀l,H l=none->Q (.ref l) (upd H l (.tup ys)))\/(SqT K H p ys/\Q (.ref p) H))
nonrec abbrev fJ(K:Fg):List V->Hp->VK->Prop:=λxs H Q=>∃p ys,xs=[.ref p]/\(SqL K H p ys\/SqT K H p ys)/\∀l,H l=none->Q (.ref l) (upd H l (.lst ys))
def Le{K:Fg}:Ul K (.type "int") (.type "int")=some true:=by rfl
def Lf{K:Fg}:Ul K (.type "int") (.type "bool")=some false:=by
 show YM K (.type "int") (.type "bool")=some false;unfold YM
 kernel_rfl
structure OA (X:Cx):Prop where
 stk:X.stack=X.env :: X.outer
 dR:X.env.frame=some X.env.locals
 exs:X.ex=[]
section
variable{P:P6}{w:Qp}{K:Fg}{mg:Str->Option O6}{base:Heap}{x:Str}{st:Stmt}{N ps:List Str}{k:Nat}{sp:Sp}
def gA:1<=sizeLine:=by decide
def aM:2<=sizeLine:=by decide
def fG:3<=sizeLine:=by decide
def GD:4<=sizeLine:=by decide
def aP{N:List Str}{n:Nat}(hN:N.length=n)(vs:List V):L2.start N vs=vs.map some++PV (n-vs.length) none:=by
 subst hN;rfl
def aK.okN(F:aK K mg x st ps)(S:ay N ps (ao st))(len:∀vs H Q E,sp vs H Q E->vs.length=ps.length)
  (hbody:∀(f:Addr) (cdv:O6) (A:Qt) (outer:List Env) (s:Pe) (H:Hp) (vs:List V) (Q:VK) (E:XK),N.Nodup->Room k (A.deeper (envOfC x (ao st) s.heap.objs.size f cdv))->(A.deeper (envOfC x (ao st) s.heap.objs.size f cdv)).units+64<cLine->(A.deeper (envOfC x (ao st) s.heap.objs.size f cdv)).units+1<cLine->(∀{M:Model} {A:Qt} {env:Env},PassesOwn M A env λ_ _=>False)->OA (mV bh P w K mg base N x (ao st) f cdv A outer s H E).nox->sp vs H Q E ->
   ∃t,PSs (mV bh P w K mg base N x (ao st) f cdv A outer s H E).nox (cj st) t/\t {nx:=λ_ H'=>Q .non H',rt:=Q} (start N vs) H):FnC P w K mg base bh (k+1) x ps sp :=
 F.ok S len λf cdv A outer s H vs Q E hr h=>hbody f cdv A outer s H vs Q E S.nd hr hr.units (Pk (W9 (by decide:1<=64) _) hr.units) Yw ⟨rfl,rfl,rfl⟩ h
end
open PySem PySem.Spec PyProof.Rows PySem.W Builtin Builtin.ObjectAttr Builtin.Getset_descriptor
open PySem PySem.Spec PyProof.Rows PySem.W
open PySem.W (Dat kqdP kqdPs kqdOk)
mutual
inductive Rep (K:Fg) (H:Hp):V->Dat->Prop
 |non:Rep K H .non .none
 |bl (b:Bool):Rep K H (.bl b) (.bool b)
 |int (i:Int):Rep K H (.int i) (.int i)
 |str (x:Str):Rep K H (.str x) (.str x)
 |tup {a:Addr} {xs:List V} {ds:List Dat}:SqT K H a xs->RepL K H xs ds->Rep K H (.ref a) (.tuple ds)
 |lst {a:Addr} {xs:List V} {ds:List Dat}:SqL K H a xs->RepL K H xs ds->Rep K H (.ref a) (.list ds)
inductive RepL (K:Fg) (H:Hp):List V->List Dat->Prop
 |nil:RepL K H [] []
 |cons {v:V} {d:Dat} {vs:List V} {ds:List Dat}:Rep K H v d->RepL K H vs ds->RepL K H (v :: vs) (d :: ds)
end
section
variable{X:Cx}{ξ:List (Addr×Obj)}{σ:St}{H:Hp}{s:Pe}
mutual
def Rep.reads(I:Inv X ξ σ H s):∀{v:V} {d:Dat} {u:O6},Rep X.K H v d->RelV v u->∃as,Reads s.heap u (kqdP d) as
 |_,_,u,.non,r=>by
  cases (show u=Rs from r);exact⟨_,Reads.none⟩
 |_,_,u,.bl b,r=>by
  cases (show u=Wk b from r);exact⟨_,Reads.bool b⟩
 |_,_,u,.int i,r=>by
  obtain⟨t,e⟩:=(show ∃t,u=Tf i t from r)
  cases e;exact⟨_,Reads.int i t⟩
 |_,_,u,.str x,r=>by
  obtain⟨t,e⟩:=(show ∃t,u=W4 x t from r)
  cases e;exact⟨_,Reads.str x t⟩
 |_,_,u,@Rep.tup _ _ a xs ds h q,r=>by
  cases (show u=Qi a from r);obtain⟨gV,rv,⟨o,e,c,n,dd⟩,_⟩:=I.tuple h;obtain⟨as,p⟩:=RepL.reads I q rv;rw[kqdP];exact⟨_,Reads.tuple e c dd (by simpa using p)⟩
 |_,_,u,@Rep.lst _ _ a xs ds h q,r=>by
  cases (show u=Qi a from r);obtain⟨gV,rv,⟨o,n,e,c,_,dd⟩,_⟩:=I.list h;obtain⟨as,p⟩:=RepL.reads I q rv;rw[kqdP];exact⟨_,Reads.list e c dd (by simpa using p)⟩
def RepL.reads(I:Inv X ξ σ H s):∀{vs:List V} {ds:List Dat} {us:List O6},RepL X.K H vs ds->Vals vs us->∃as,ReadsAll s.heap us (kqdPs ds) as
 |_,_,_,.nil,.nil=>by
  rw[kqdPs];exact⟨_,ReadsAll.nil⟩
 |_,_,_,.cons h q,.cons r rr=>by
  obtain⟨as,p⟩:=Rep.reads I h r;obtain⟨bs,p'⟩:=RepL.reads I q rr;rw[kqdPs];exact⟨_,ReadsAll.cons p p'⟩
end
open Classical in
def IM(hd:kqdOk 8 d=true)(he:kqdOk 8 e=true):PyData.eqv (kqdP d) (kqdP e)=decide (d=e):=by
 have q:=PySem.W.kqd_eqv 8 d e 8 hd he;by_cases z:d=e
 .rw[decide_eq_true z];exact q.mpr z
 .rw[decide_eq_false z];exact XR.mpr λy=>z (q.mp y)
def nV(h:kqdOk 8 d=true):SeqAt.shaped (kqdP d)=true:=by
 have l:=U4 8 d h;unfold SeqAt.shaped;rw[l.1,Bool.true_and];exact decide_eq_true (Pj l.2 (by decide))
open Classical in
abbrev Ho(K:Fg):R2:=λx y H Q=>∃d e,Rep K H x d/\Rep K H y e/\kqdOk 8 d=true/\kqdOk 8 e=true/\Q (.bl (decide (d=e))) H
def KS(hu:X.A.units+64<cLine):eJ X (compareOp .Eq) (Ho X.K):=by
 intro ξ s σ H x y v u Q I rx ry h;obtain⟨d,e,hd,he,kd,ke,q⟩:=h;obtain⟨as,ra⟩:=Rep.reads I hd rx;obtain⟨bs,rb⟩:=Rep.reads I he ry;exact eq_dataH ra rb (nV kd) (nV ke) hu ⟨_,H,I,(by rw[IM kd ke];rfl),q⟩
open Classical in
def AO{ds:List Dat}(ha:∀e∈ds,kqdOk 8 e=true)(hd:kqdOk 8 d=true):((kqdPs ds).any λy=>PyData.eqv y (kqdP d))=decide (d∈ds):=by
 by_cases z:d∈ds
 .rw[decide_eq_true z];exact(Yx ds d ha hd).mpr z
 .rw[decide_eq_false z];exact XR.mpr λy=>z ((Yx ds d ha hd).mp y)
open Classical in
abbrev oC(K:Fg)(neg:Bool):R2:=λx y H Q=>∃d ds,Rep K H x d/\Rep K H y (.list ds)/\(∀e∈ds,kqdOk 8 e=true)/\kqdOk 8 d=true/\Q (.bl (if neg then !decide (d∈ds) else decide (d∈ds))) H
def zG{A:Qt}(hd:kqdOk 8 d=true)(hu:A.units+64<cLine):A.units+1+min (Yy (kqdPs ds)) (kqdP d).depth<cLine:=by
 have l:=(U4 8 d hd).2
 have:=V_ (Yy (kqdPs ds)) (kqdP d).depth
 lia
def KR(hu:X.A.units+64<cLine):eJ X (compareOp .In) (oC X.K false):=by
 intro ξ s σ H x y v u Q I rx ry h;obtain⟨d,ds,hd,he,ka,kd,q⟩:=h;obtain⟨as,ra⟩:=Rep.reads I hd rx;obtain⟨bs,rb⟩:=Rep.reads I he ry;rw[kqdP] at rb;exact SeqAt.in_list_reads rb ra (Yg ka).1 (U4 8 d kd).1 (zG kd hu) ⟨_,H,I,(by rw[AO ka kd];rfl),q⟩
def yQ(hu:X.A.units+64<cLine):eJ X (compareOp .NotIn) (oC X.K true):=by
 intro ξ s σ H x y v u Q I rx ry h;obtain⟨d,ds,hd,he,ka,kd,q⟩:=h;obtain⟨as,ra⟩:=Rep.reads I hd rx;obtain⟨bs,rb⟩:=Rep.reads I he ry;rw[kqdP] at rb;exact SeqAt.notIn_list_reads rb ra (Yg ka).1 (U4 8 d kd).1 (zG kd hu) ⟨_,H,I,(by rw[AO ka kd];rfl),q⟩
end
abbrev bq(X:Cx)(ys M:List Str)(scope:Scope)(cl:List (Str×Addr))(C:Addr)(s:Pe)(H:Hp)(fp:List Addr)(ξ:List (Addr×Obj)):Cx where
 prog:=X.prog
 w:=X.w
 K:=X.K
 mg:=X.mg
 base:=X.base
 A:=X.A
 N:=ys++M
 s₀:=s
 H₀:=H
 env:=compEnvC scope cl C X.env
 outer:=X.stack
 stack:=X.stack
 ex:=fp
 fn:=λ_=>false
 calm:=X.calm
 pn:=X.pn++ξ
 xe:=λ_ _=>False
structure kM (X:Cx) (ys M:List Str) (scope:Scope) (cl:List (Str×Addr)):Prop where
 kind:scope.kind=.function
 nocell:∀y∈scope.names,y.2≠.cell
 names:∀y∈scope.names,y.2=.local->scope.names.lookup y.1=some .local
 own:∀y∈ys,scope.names.lookup y=some .local
 clos:closureFor scope X.env=pure cl
 nd:(ys++M).Nodup
 len:M.length=X.N.length
 same:∀p∈M.zip X.N,p.1=p.2\/(relabel scope X.env).names.lookup p.1=none
 apart:∀y∈M,(relabel scope X.env).names.lookup y≠some .local
 cells:∀y c,cl.lookup y=some c->X.env.cells.lookup y=some c/\(X.env.scope.names.lookup y=some .cell\/X.env.scope.names.lookup y=some .free)
 has:∀y,((relabel scope X.env).names.lookup y=some .cell\/(relabel scope X.env).names.lookup y=some .free)->∃c,cl.lookup y=some c
section
variable{X:Cx}{ys M:List Str}{scope:Scope}{cl:List (Str×Addr)}{C:Addr}{s:Pe}{H:Hp}{fp:List Addr}{ξ:List (Addr×Obj)}{σ:St}
def DS{h1:Heap}{tk:Nat}(I:Inv X ξ σ H s)(c:kM X ys M scope cl)(eC:C=s.heap.objs.size)(hns:h1.Ns C (λ_=>none))(hsb:RX C (s.heap.push o) h1)
  (fk:∀b∈fp,ir X ξ H b/\∃o,s.heap.get? b=some o):Inv (bq X ys M scope cl C s H fp ξ) [] (PV ys.length none ++ σ) H {s with heap:=h1,toks:=tk}:=by
 have keep:∀b u,s.heap.get? b=some u->h1.get? b=some u:=λb u e=>hsb.extBut b u (by rw[eC];exact Qb (PF e)) (Pf _ e)
 have neC:∀b u,s.heap.get? b=some u->b≠C:=λb u e=>by rw[eC];exact Qb (PF e)
 have out:∀{b:Addr},b≠X.env.locals->b∉X.fs->b∉vK X.stack:=λh1 h2 z=>(Py.mp (I.xt _ z)).elim h1 h2
 refine⟨⟨I.ok.mod,c.kind,I.ok.glob,I.ok.blt,by rw[eC];exact Pa _,λy z a h1 h2=>I.ok.inj y z a (c.cells y a h1).1 (c.cells z a h2).1,c.has,λy a z _=>Bool.noConfusion z,I.ok.hd,I.ok.frames,.inl rfl,λb hb=>?_,I.bs,Pj I.ok.bsz I.sz,λb u e hb=>?_,λb hb=>?_,I.stack,I.xu⟩,
  rfl,I.bare,Un.kept keep,⟨_,hns,λi y v e1 e2 e3=>?_⟩,λy a e=>?_,I.hok.fresh (by rw[eC];exact Pa _),λy a e=>I.freeC y a (c.cells y a e).1,λp hp=>?_,I.hok.kept keep,?_⟩
 .obtain⟨⟨_,_,_,_,f5,_⟩,u,e⟩:=fk b hb;exact⟨neC b u e,λy a q=>f5 y a (c.cells y a q).1⟩
 .obtain⟨⟨_,_,_,f4,_,_⟩,_⟩:=fk b hb;rcases f4 with z|z
  .exact I.ok.noex b u e z
  .exact absurd (PL (PF (I.ok.bs b u e).1) z) (R5 _)
 .obtain⟨⟨_,f2,f3,_,_,_⟩,_⟩:=fk b hb;exact out f2 f3
 .by_cases lt:i<ys.length
  .have e2':(PV ys.length (none:Option V) ++ σ)[i]?=some (some v):=e2;rw[Qu (by simpa using lt),List.getElem?_replicate_of_lt lt] at e2';cases e2'
  .have e0:M[i-ys.length]?=some y:=by
    have e1':(ys++M)[i]?=some y:=e1
    rwa [QG (by lia)] at e1'
   have e2':σ[i-ys.length]?=some (some v):=by
    have e2':(PV ys.length (none:Option V) ++ σ)[i]?=some (some v):=e2
    rwa [QG (by simpa using lt),Si] at e2'
   have hy:y∈M:=O7 e0
   have vis0:(relabel scope X.env).names.lookup y≠none:=by
    rcases e3 with z|z|z <;> (intro q;have q':=(show(relabel scope X.env).names.lookup y=some _ from z).symm.trans q;cases q')
   have e1':X.N[i-ys.length]?=some y:=by
    have Ad:i-ys.length<X.N.length:=by rw[<- c.len];exact(O3.mp e0).1
    have hz:(y,X.N[i-ys.length])∈M.zip X.N:=by
     refine O7 (i:=i-ys.length) ?_;rw[RJ];exact⟨e0,O1 Ad⟩
    rcases c.same _ hz with q|q
    .rw[O1 Ad];exact congrArg some q.symm
    .exact absurd q vis0
   have e3':(relabel scope X.env).names.lookup y=some .cell\/(relabel scope X.env).names.lookup y=some .free:=by
    rcases e3 with z|z|z
    .exact absurd z (c.apart y hy)
    .exact .inl z
    .exact .inr z
   obtain⟨a,ea⟩:=c.has y e3';obtain⟨q1,q2⟩:=c.cells y a ea;obtain⟨m,_,hl⟩:=I.loc;have vis:MW X.env.scope y:=.inr q2;obtain⟨u,ru,lu⟩:=hl (i-ys.length) y v e1' e2' vis;refine⟨u,ru,.inr ⟨e3',a,ea,?_⟩⟩;rcases lu with⟨z,_⟩|⟨_,a',ea',⟨oc,hoc,hd⟩⟩
   .have z':X.env.scope.names.lookup y=some .local:=z;rcases q2 with q2|q2 <;> (rw[z'] at q2;cases q2)
   .rw[q1] at ea';cases ea';exact⟨oc,keep _ _ hoc,hd⟩
 .obtain⟨v,oc,hoc,hd⟩:=I.cell y a (c.cells y a e).1;exact⟨v,oc,keep _ _ hoc,hd⟩
 .have hp':p∈X.pn++ξ:=by simpa[bq] using hp
  obtain⟨q1,q2,q3,q4,q5⟩:=I.pin p hp';exact⟨keep _ _ q1,q2,neC _ _ q1,out q3 q4,q5⟩
 .show(PV ys.length none ++ σ).length=(ys++M).length;rw[Pm,Pm,Si,I.len,c.len]
def vk(I:Inv X ξ σ H s)(fk:∀b∈fp,ir X ξ H b/\∃o,s.heap.get? b=some o)(I':Inv (bq X ys M scope cl C s H fp ξ) pins' σ' H' s1):Inv X ξ σ H' s1 :=
 I.call' (ch:=fp) I'.os I'.base I'.hok I'.bare λb hb=>let ⟨⟨_,f2,_,f4,f5,f6⟩,_⟩:=fk b hb;⟨f4,f2,f5,f6⟩
abbrev sF(J:It)(n:Nat)(g:TG)(te:TE)(σ:St)(Q:VK)(H1:Hp):Prop:=∀D,H1 D=none->∃W:Nat->Nat->Hp->Prop,(∃m,W 0 m (upd H1 D (.lst [])))/\∀i m H,W i m H ->
 (J.stop i H/\Q (.ref D) H)\/(J.go i H/\∀v H',J.yld i H v H'->∀us:St,us.length=n->g v (us ++ σ) H' λσ2 H2=>(∃us':St,us'.length=n/\σ2=us' ++ σ)/\te σ2 H2 λy H3=>∃xs,H3 D=some (.lst xs)/\xs.length<sizeLine/\∃m',m'<m/\W (i+1) m' (upd H3 D (.lst (xs++[y]))))
abbrev fS(wi:TI)(n:Nat)(g:TG)(te:TE):TE:=λσ H Q=>wi σ H λJ H1=>sF J n g te σ Q H1
abbrev cS(J:It)(te:TE)(σ:St)(Q:VK)(H1:Hp):Prop:=∀D,H1 D=none->∃W:Nat->Nat->Hp->Prop,(∃m,W 0 m (upd H1 D (.lst [])))/\∀i m H,W i m H ->
 (J.stop i H/\Q (.ref D) H)\/(J.go i H/\∀v H',J.yld i H v H'->te (some v :: σ) H' λy H2=>∃xs,H2 D=some (.lst xs)/\xs.length<sizeLine/\∃m',m'<m/\W (i+1) m' (upd H2 D (.lst (xs++[y]))))
abbrev fE(wi:TI)(te:TE):TE:=λσ H Q=>wi σ H λJ H1=>cS J te σ Q H1
def Eg{σ:St}{Q:VK}(h:cS J te σ Q H1):sF J 1 (al 0) te σ Q H1:=by
 intro D nD;obtain⟨W,h0,hs⟩:=h D nD;refine⟨W,h0,λi m H w=>?_⟩;rcases hs i m H w with q|⟨go,st⟩
 .exact .inl q
 .refine .inr ⟨go,λv H' y us hu=>?_⟩;obtain⟨u,rfl⟩:∃u,us=[u]:=RY.mp hu;exact⟨⟨[some v],rfl,rfl⟩,st v H' y⟩
abbrev MO(J:It)(n:Nat)(g:TG)(tc:TT)(te:TE)(σ:St)(QQ:Addr->Hp->Prop)(H1:Hp):Prop:=∀D,H1 D=none->∃W:Nat->Nat->Hp->Prop,(∃m,W 0 m (upd H1 D (.lst [])))/\∀i m H,W i m H ->
 (J.stop i H/\QQ D H)\/(J.go i H/\∀v H',J.yld i H v H'->∀us:St,us.length=n->g v (us ++ σ) H' λσ2 H2=>(∃us':St,us'.length=n/\σ2=us' ++ σ)/\tc σ2 H2 λb H3 =>
  if b=true then te σ2 H3 λy H4=>∃xs,H4 D=some (.lst xs)/\xs.length<sizeLine/\∃m',m'<m/\W (i+1) m' (upd H4 D (.lst (xs++[y]))) else ∃m',m'<m/\W (i+1) m' H3)
nonrec abbrev AW(J:It)(n:Nat)(g:TG)(tc:TT)(te:TE)(σ:St)(Q:VK)(H1:Hp):Prop:=MO J n g tc te σ (λD H=>Q (.ref D) H) H1
abbrev iN(wi:TI)(n:Nat)(g:TG)(tc:TT)(te:TE):TE:=λσ H Q=>wi σ H λJ H1=>AW J n g tc te σ Q H1
nonrec abbrev Jv(ifs:List Expr)(env:Env):Sem Bool:=forIn ifs true λc r=>if r=true then (do let ok <- isTrue c env (eval c env);pure (U5 ok)) else pure (U5 r)
abbrev M0(X:Cx)(ifs:List Expr)(tc:TT):Prop:=∀(ξ:List (Addr×Obj)) (s:Pe) (σ:St) (H:Hp) (Q:Bool->Hp->Prop),Inv X ξ σ H s->tc σ H Q->wpAny (model X.prog X.w) X.A (Jv ifs X.env) (λb s'=>∃H',Inv X ξ σ H' s'/\Q b H') X.xe s
nonrec abbrev JF:TT:=λ_ H Q=>Q true H
def Ht{X:Cx}:M0 X [] JF:=λ_ _ _ H _ I h=>wpAny_tests_nil ⟨H,I,h⟩
def Hs{X:Cx}(h:PT X c tc):M0 X [c] tc:=λξ s σ H Q I q=>wpAny_tests_one (h ξ s σ H Q I q)
def Ar{R:Yc->Pe->Prop}{s:Pe}{iter:Expr}{scope:Scope}{acc:O6}(I:Nat->Pe->Prop)
  (turn:∀n s,I n s->wpAny (model prog w) A (pyNext it) (λr s1=>match r with
   |none=>R (.ok .next) s1
   |some v=>wpAny (model prog w) A (letOwnedTupleGo target it v) (λ_ s2=>wpAny (model prog w) A (assign target env v) (λ_ s3=>wpAny (model prog w) A (Jv ifs env) (λok s4 =>
     if ok=true then wpAny (model prog w) A (eval elt env) (λx s5=>wpAny (model prog w) A (call (.builtin "list.append") [acc,x]) (λ_ s6=>∃m,m<n/\I m s6) (λ_ _=>False) s5) (λ_ _=>False) s4
     else ∃m,m<n/\I m s4) (λ_ _=>False) s3) (λ_ _=>False) s2) (λ_ _=>False) s1) (λ_ _=>False) s) (n:Nat) (h:I n s) :
  codeAny (model prog w) A (.compLoop (.ListComp elt [⟨target,iter,ifs,0⟩] scope pos) 0 it acc env) R s:=by
 refine codeAny_loop rfl I (λk s1 hI=>?_) n h;have no:∀{α:Type} {t:Sem α} {P:α->Pe->Prop} {E:O6->Pe->Prop} {z:Pe},wpAny (model prog w) A t P (λ_ _=>False) z->wpAny (model prog w) A t P E z:=λq=>Rf q (λ_ _ z=>z) λ_ _ z=>z.elim
 show wpAny _ _ ((compTurn (.ListComp elt [⟨target,iter,ifs,0⟩] scope pos) 0 it acc env).onRaise _) _ _ s1;refine wpAny_noted ?_;rw[compTurn_list];refine O5 (Xh (O5 (no (Rf (turn k s1 hI) (λr s2 h2=>?_) λ_ _ z=>z))));cases r with
 |none=>exact Pt h2
 |some v =>
  refine O5 (no (Rf h2 (λ_ s3 h3=>?_) λ_ _ z=>z));refine O5 (no (Rf h3 (λ_ s4 h4=>?_) λ_ _ z=>z));refine O5 (no (Rf h4 (λok s5 h5=>?_) λ_ _ z=>z));cases ok with
  |true =>
   rw[if_pos rfl] at h5;refine O5 (O5 (no (Rf h5 (λx s6 h6=>?_) λ_ _ z=>z)));exact O5 (no (Rf h6 (λ_ s7 h7=>Pt (Pt ⟨rfl,h7⟩)) λ_ _ z=>z))
  |false =>
   rw[if_neg PZ] at h5;exact Pt ⟨rfl,h5⟩
def Au{iter:Expr}{E:O6->Pe->Prop}{QQ:Addr->Hp->Prop}{RR:O6->Addr->Yc->Pe->Prop}(I:Inv X ξ σ H s)(c:kM X ys M scope cl)(hc:X.calm=true)
  (hg:∀C s₀ H₀ fp ξ,PG (bq X ys M scope cl C s₀ H₀ fp ξ) tg g) (ht:∀C s₀ H₀ fp ξ,M0 (bq X ys M scope cl C s₀ H₀ fp ξ) ifs tc) (he:∀C s₀ H₀ fp ξ,PE (bq X ys M scope cl C s₀ H₀ fp ξ) elt te) (T:sD X.prog X.w X.K tg J fp it tn) (st:tn 0 s.heap) (fk:∀b∈fp,ir X ξ H b)
  (h:MO J ys.length g tc te σ QQ H)
  (fin:∀D C H' s',s.heap.objs.size<=C->s'.heap.get? C≠none->(∃m,s'.heap.Ns C m)->H' C=none->Inv X ξ σ H' s'->QQ D H'->RR (.ref D) C (.ok .next) s') :
  wpAny (model X.prog X.w) X.A (newList []) (λacc s₃=>wpAny (model X.prog X.w) X.A (newFunctionEnv scope X.env.globals cl [] X.env.qual none .none (some X.env)) (λcenv s₄ =>
   codeAny (model X.prog X.w) X.A (.compStart (.ListComp elt [⟨tg,iter,ifs,0⟩] scope pos) 0 (.ref it) acc {cenv with scope:=relabel scope X.env}) (RR acc cenv.locals) s₄) E s₃) E s:=by
 refine Q7 (wpAny_newFunctionEnv c.nocell (by intro y hy;simp at hy) (λh1 hns hsb=>?_) c.kind);dsimp only at hns hsb ⊢;have hf:H s.heap.objs.size=none:=I.hok.fresh (Pa _)
 have I3:Inv X ξ σ (upd H s.heap.objs.size (.lst [])) {s with heap:=s.heap.push {cls:=.type "list",dict:=none,data:=.seq ([]:List O6).toArray}} :=
  I.laid (t':=s.toks) (λb u e=>Pf _ e) (Pa _) ⟨by decide,[],_,.nil,PR _ rfl⟩
 have eD:∀b u,s.heap.get? b=some u->b≠s.heap.objs.size:=λb u e=>Qb (PF e)
 have fk3:∀b∈fp,ir X ξ (upd H s.heap.objs.size (.lst [])) b/\∃o,(s.heap.push {cls:=.type "list",dict:=none,data:=.seq ([]:List O6).toArray}).get? b=some o:=λb hb=>by
  obtain⟨o,eo,_⟩:=T.obj 0 _ st b hb;obtain⟨f1,f2⟩:=fk b hb;exact⟨⟨by rw[aE (eD b o eo)];exact f1,f2⟩,o,Pf _ eo⟩
 have I4:=DS (tk:=s.toks+([]:List (Str×O6)).length) I3 c rfl hns hsb fk3;obtain⟨W,⟨m0,w0⟩,turn⟩:=h _ hf
 have st4:tn 0 h1:=T.keep 0 _ _ st λb hb o e=>by
  have e2:=Pf {cls:=.type "list",dict:=none,data:=.seq ([]:List O6).toArray} e;exact hsb.extBut b o (Qb (PF e2)) (Pf _ e2)
 have stat:∀{H':Hp},(∀b∈fp,H' b=none)->∀b∈fp,ir (bq X ys M scope cl (s.heap.push {cls:=.type "list",dict:=none,data:=.seq ([]:List O6).toArray}).objs.size {s with heap:=s.heap.push {cls:=.type "list",dict:=none,data:=.seq ([]:List O6).toArray}} (upd H s.heap.objs.size (.lst [])) fp ξ) [] H' b :=
  λhn b hb=>⟨hn b hb,(I4.ok.exf b hb).1,I4.ok.exfs b hb,.inl hb,(I4.ok.exf b hb).2,λp hp=>(fk3 b hb).1.2.2.2.2.2 p (by simpa[bq] using hp)⟩
 have loop:∀s4:Pe,s4 = {s with heap:=h1,toks:=s.toks+([]:List (Str×O6)).length} ->
   codeAny (model X.prog X.w) X.A (.compLoop (.ListComp elt [⟨tg,iter,ifs,0⟩] scope pos) 0 (.ref it) (.ref s.heap.objs.size) (compEnvC scope cl (s.heap.push {cls:=.type "list",dict:=none,data:=.seq ([]:List O6).toArray}).objs.size X.env))
    (RR (.ref s.heap.objs.size) (s.heap.push {cls:=.type "list",dict:=none,data:=.seq ([]:List O6).toArray}).objs.size) s4:=by
  rintro s4 rfl
  refine Ar (λn s'=>∃(i:Nat) (us:St) (H':Hp),us.length=ys.length/\Inv (bq X ys M scope cl (s.heap.push {cls:=.type "list",dict:=none,data:=.seq ([]:List O6).toArray}).objs.size {s with heap:=s.heap.push {cls:=.type "list",dict:=none,data:=.seq ([]:List O6).toArray}} (upd H s.heap.objs.size (.lst [])) fp ξ) [] (us ++ σ) H' s'/\tn i s'.heap/\(∀b∈fp,H' b=none)/\W i n H')
   ?_ m0 ⟨0,_,_,Si,I4,st4,λb hb=>(fk3 b hb).1.1,w0⟩
  rintro n s5 ⟨i,us,H5,lu,I5,st5,fr5,w5⟩;rcases turn i n H5 w5 with⟨stop,q⟩|⟨go,step⟩
  .refine bf (T.done (bq X ys M scope cl _ _ _ _ _) rfl rfl rfl hc i [] s5 _ H5 _ I5 (stat fr5) st5 stop) λr s6 ω=>?_;obtain⟨er,I6⟩:=ω
   subst er;obtain⟨m,hn6,_⟩:=id I6.loc;obtain⟨o6,_,_,ho6,_⟩:=id hn6;exact fin _ _ H5 s6 (by rw[RP];exact WR _) (λz=>by have z':=ho6.symm.trans z;cases z') ⟨m,hn6⟩ I6.free (vk I3 fk3 I6) q
  .refine bf (T.item (bq X ys M scope cl _ _ _ _ _) rfl rfl rfl hc i [] s5 _ H5 _ I5 (stat fr5) st5 go) λr s6 ω=>?_;obtain⟨u,er,h6⟩:=ω
   subst er;refine bf h6 λ_ s7 ω=>?_;obtain⟨v',H7,I7,r7,y7,st7,fr7⟩:=ω
   have I7':=I7.pinned (stat fr7) (T.obj _ _ st7);refine Rf (hg _ _ _ _ _ _ s7 _ H7 v' u _ I7' r7 (step v' H7 y7 us lu)) (λ_ s8 ω=>?_) λ_ _ z=>z.elim;obtain⟨σ8,H8,I8,⟨us',lu',e8⟩,q8⟩:=ω
   refine Rf (ht _ _ _ _ _ _ s8 _ H8 _ I8 q8) (λok s9 ω=>?_) λ_ _ z=>z.elim;obtain⟨H9,I9,q9⟩:=ω
   subst e8;cases ok with
   |true =>
    rw[if_pos rfl] at q9 ⊢;refine Rf (he _ _ _ _ _ _ s9 _ H9 _ I9 q9) (λy s10 ω=>?_) λ_ _ z=>z.elim;obtain⟨yv,H10,I10,ry,xs,hxs,hlen,m',hm,w10⟩:=ω
    refine Rf (oW (X:=bq X ys M scope cl _ _ _ _ _) _ s10 _ H10 (.ref s.heap.objs.size) [yv] (.ref s.heap.objs.size) [y] (λ_ Z9=>Z9=upd H10 s.heap.objs.size (.lst (xs++[yv]))) I10 rfl (.cons ry .nil) ⟨_,xs,yv,rfl,rfl,hxs,hlen,rfl⟩) (λ_ s11 ω=>?_) λ_ _ z=>z.elim;obtain⟨z,Z9,I11,rz,q11⟩:=ω
    subst q11;refine⟨m',hm,i+1,us',_,lu',I11.fR (ξ:=[]),T.keep _ _ _ st7 λb hb o e=>(I11.pin (b,o) (PB _ (PB _ (cE hb e)))).1,λb hb=>?_,w10⟩;obtain⟨o,e,_⟩:=T.obj _ _ st7 b hb;exact(I11.pin (b,o) (PB _ (PB _ (cE hb e)))).2.1
   |false =>
    rw[if_neg PZ] at q9 ⊢;obtain⟨m',hm,w9⟩:=q9;refine⟨m',hm,i+1,us',_,lu',I9.fR (ξ:=[]),T.keep _ _ _ st7 λb hb o e=>(I9.pin (b,o) (PB _ (PB _ (cE hb e)))).1,λb hb=>?_,w9⟩;obtain⟨o,e,_⟩:=T.obj _ _ st7 b hb;exact(I9.pin (b,o) (PB _ (PB _ (cE hb e)))).2.1
 exact codeAny_compStart_list (loop _ rfl) (T.self _ 0 _ _ _ st4 (loop _ rfl))
end
section
variable{X:Cx}{ys M:List Str}{x:Str}{scope:Scope}{cl:List (Str×Addr)}
def tN{iter:Expr}(c:kM X ys M scope cl)(hc:X.calm=true)(hi:PI X tg iter wi)(hg:∀C s₀ H₀ fp ξ,PG (bq X ys M scope cl C s₀ H₀ fp ξ) tg g)(ht:∀C s₀ H₀ fp ξ,M0 (bq X ys M scope cl C s₀ H₀ fp ξ) ifs tc)(he:∀C s₀ H₀ fp ξ,PE (bq X ys M scope cl C s₀ H₀ fp ξ) elt te)
  (hs:∀v,foldedSetIterable iter X.env v=pure v:=by intro _;rfl):PE X (.ListComp elt [⟨tg,iter,ifs,0⟩] scope pos) (iN wi ys.length g tc te):=by
 intro ξ s σ H Q I h;rw[eval_ListComp];refine wpAny_comprehension_free (use:=none) rfl hs c.clos c.kind c.names (bf (hi ξ s σ H _ I h) λv s1 h1=>bf h1 λitv s2 h2=>?_);obtain⟨it,fp,tn,J,H2,rfl,I2,T,st2,fk2,h3⟩:=h2;refine Au (E:=X.xe) (QQ:=λD H'=>Q (.ref D) H') I2 c hc hg ht he T st2 fk2 h3 λD C H' s' hC hl ns fr I' q=>?_
 obtain⟨m,hn⟩:=ns;refine⟨m,hn,λh' hs'=>?_⟩;have sz:=I2.sz;exact⟨.ref D,H',I'.turned (t':=s'.toks) (λb o hb e=>(hs'.2 b hb).trans e) fr (I2.fpOk hC fr).2.1 (I2.fpOk hC fr).2.2.2.1 (I2.fpOk hC fr).2.2.2.2.1 (I2.fpOk hC fr).2.2.2.2.2,rfl,q⟩
def tM{iter:Expr}(c:kM X ys M scope cl)(hc:X.calm=true)(hi:PI X tg iter wi)(hg:∀C s₀ H₀ fp ξ,PG (bq X ys M scope cl C s₀ H₀ fp ξ) tg g)(he:∀C s₀ H₀ fp ξ,PE (bq X ys M scope cl C s₀ H₀ fp ξ) elt te)
  (hs:∀v,foldedSetIterable iter X.env v=pure v:=by intro _;rfl):PE X (.ListComp elt [⟨tg,iter,[],0⟩] scope pos) (fS wi ys.length g te):=tN (tc:=JF) c hc hi hg (λ_ _ _ _ _=>Ht) he hs
def KJ(c:kM X [x] M scope cl)(C:Addr)(s₀:Pe)(H₀:Hp)(fp:List Addr)(ξ:List (Addr×Obj)):PG (bq X [x] M scope cl C s₀ H₀ fp ξ) (.Name x px) (al 0):=by
 have hx:(relabel scope X.env).names.lookup x=some .local:=lookup_relabel_local (c.own x (by simp));exact yJ (X:=bq X [x] M scope cl C s₀ H₀ fp ξ) (i:=0) c.nd rfl (.inl hx) (.inr hx)
end
abbrev Cs(scope sc:Scope):List (Str×V7):=scope.names.map λ(n,k)=>if (k == .free && sc.kind == .function && sc.names.lookup n == some .cell) then (n,.cell) else (n,k)
abbrev jA(scope:Scope)(cells:List (Str×Addr)):List (Str×Addr):=((scope.names.filter λn=>n.2 == .free).map λn=>(n.1,(cells.lookup n.1).getD 0)).reverse
structure pX (sc:Scope) (N M ys:List Str) (scope:Scope):Prop where
 kind:scope.kind=.function
 nocell:∀y∈scope.names,y.2≠.cell
 names:∀y∈scope.names,y.2=.local->scope.names.lookup y.1=some .local
 own:∀y∈ys,scope.names.lookup y=some .local
 nd:(ys++M).Nodup
 len:M.length=N.length
 same:∀p∈M.zip N,p.1=p.2\/(Cs scope sc).lookup p.1=none
 apart:∀y∈M,(Cs scope sc).lookup y≠some .local
 free:∀n∈scope.names,n.2=.free->sc.names.lookup n.1=some .cell
def gU{g:Str->Addr}:∀{l:List (Str×Addr)} {y:Str},(∀n∈l,n.2=g n.1)->∀{c:Addr},l.lookup y=some c->c=g y/\∃n∈l,n.1=y
 |[],_,_,_,h=>by simp at h
 |(n,a) :: r,y,hg,c,h=>by
  by_cases e:y=n
  .subst e;rw[Sb,beq_self_eq_true] at h;have h':a=c:=PD h;exact⟨by rw[<- h'];exact hg (y,a) O8,_,O8,rfl⟩
  .have e':(y == n)=false:=beq_eq_false_iff_ne.mpr e;rw[Sb,e'] at h;obtain⟨h1,m,hm,h2⟩:=gU (λn hn=>hg n (O9 _ hn)) h;exact⟨h1,m,O9 _ hm,h2⟩
def rO{l:List (Str×Addr)}{y:Str}:(∃n∈l,n.1=y)->∃c,l.lookup y=some c:=by
 induction l with
 |nil=>rintro⟨n,hn,_⟩;cases hn
 |cons a r ih =>
  rintro⟨n,hn,e⟩;obtain⟨m,b⟩:=a;by_cases e':y=m
  .subst e';exact⟨b,by rw[Sb,beq_self_eq_true]⟩
  .have e2:(y == m)=false:=beq_eq_false_iff_ne.mpr e';rw[Sb,e2];refine ih ?_;rcases Py.mp hn with z|z
   .rw[z] at e;exact absurd e.symm e'
   .exact⟨n,z,e⟩
def mY{n:Str×Addr}:n∈jA scope cells↔∃m∈scope.names,m.2=.free/\n=(m.1,(cells.lookup m.1).getD 0):=by
 unfold jA;rw[List.mem_reverse,Pl];constructor
 .rintro⟨m,hm,rfl⟩;rw[PQ] at hm;exact⟨m,hm.1,beq_iff_eq.mp hm.2,rfl⟩
 .rintro⟨m,hm,hk,rfl⟩;exact⟨m,PQ.mpr ⟨hm,beq_iff_eq.mpr hk⟩,rfl⟩
def kG{env:Env}:∀(names:List (Str×V7)) (acc:List (Str×Addr)),(∀n∈names,n.2=.free->∃c,env.cells.lookup n.1=some c) ->
  (forIn names acc λx r=>do
   let (name,kind):=x
   if kind == .free then do
    let c <- cellOf env name
    pure (U5 ((name,c) :: r))
   else pure (U5 r):Sem (List (Str×Addr)))=pure (((names.filter λn=>n.2 == .free).map λn=>(n.1,(env.cells.lookup n.1).getD 0)).reverse++acc)
 |[],acc,_=>rfl
 |(n,k) :: r,acc,h=>by
  have ih:=λacc=>kG r acc λm hm=>h m (O9 _ hm)
  rw[List.forIn_cons];by_cases hk:k=.free
  .subst hk;obtain⟨c,hc⟩:=h (n,.free) O8 rfl;have e1:cellOf env n=pure c:=by unfold cellOf;rw[hc]
   simp only[beq_self_eq_true,if_true,e1,pure_bind,Wa,Qn,XS,QF,Uy];rw[hc];exact ih _
  .have hb:(k == Y0)=false:=beq_eq_false_iff_ne.mpr hk;simp only[hb,S_,if_false,pure_bind,Wa];exact ih _
def pX.sc{X:Cx}(c:pX X.env.scope X.N M ys scope)(ok:X.Ok):kM X ys M scope (jA scope X.env.cells):=by
 have hfc:∀n∈scope.names,n.2=.free->∃a,X.env.cells.lookup n.1=some a:=λn hn hk=>ok.has n.1 (.inl (c.free n hn hk))
 refine⟨c.kind,c.nocell,c.names,c.own,?_,c.nd,c.len,c.same,c.apart,λy a h=>?_,λy h=>?_⟩
 .have z:=kG (env:=X.env) scope.names [] hfc;rw[RW] at z;exact(congrArg (λm:Sem (List (Str×Addr))=>m >>= λcs=>pure cs) z).trans rfl
 .obtain⟨h1,n,hn,e⟩:=gU (g:=λz=>(X.env.cells.lookup z).getD 0) (λn hn=>by obtain⟨m,_,_,rfl⟩:=mY.mp hn;rfl) h;obtain⟨m,hm,hk,e2⟩:=mY.mp hn;have ey:m.1=y:=by rw[<- e,e2]
  obtain⟨a',ha'⟩:=hfc m hm hk;rw[ey] at ha';refine⟨?_,.inl (by rw[<- ey];exact c.free m hm hk)⟩;rw[h1,ha'];rfl
 .have hm:∃m∈scope.names,m.1=y/\m.2=.free:=by
   have go:∀names:List (Str×V7),(∀z∈names,z.2≠.cell)->((names.map λ(n,k)=>if (k == .free && X.env.scope.kind == .function && X.env.kindOf n == some .cell) then (n,VZ) else (n,k)).lookup y=some .cell\/(names.map λ(n,k)=>if (k == .free && X.env.scope.kind == .function && X.env.kindOf n == some .cell) then (n,VZ) else (n,k)).lookup y=some .free)->∃m∈names,m.1=y/\m.2=.free:=by
    intro names
    induction names with
    |nil=>intro _ h;simp at h
    |cons a r ih =>
     intro nc h;obtain⟨n,k⟩:=a;by_cases e:y=n
     .subst e;refine⟨_,O8,rfl,?_⟩;have nk:k≠.cell:=nc (y,k) O8;by_cases hk:k=.free
      .exact hk
      .have hb:(k == Y0)=false:=beq_eq_false_iff_ne.mpr hk;simp only[Qn,hb,YI,S_,if_false,Sb,beq_self_eq_true] at h;rcases h with z|z
       .exact absurd (PD z) nk
       .exact absurd (PD z) hk
     .have e':(y == n)=false:=beq_eq_false_iff_ne.mpr e
      have h':(r.map λ(n,k)=>if (k == .free && X.env.scope.kind == .function && X.env.kindOf n == some .cell) then (n,VZ) else (n,k)).lookup y=some .cell\/(r.map λ(n,k)=>if (k == .free && X.env.scope.kind == .function && X.env.kindOf n == some .cell) then (n,VZ) else (n,k)).lookup y=some .free:=by
       by_cases hb:(k == .free && X.env.scope.kind == .function && X.env.kindOf n == some .cell)=true
       .simpa only[Qn,hb,if_true,Sb,e'] using h
       .simpa only[Qn,hb,S_,if_false,Sb,e'] using h
      obtain⟨m,hm,r1⟩:=ih (λz hz=>nc z (O9 _ hz)) h';exact⟨m,O9 _ hm,r1⟩
   exact go scope.names c.nocell h
  obtain⟨m,hm,e,hk⟩:=hm;exact rO ⟨_,mY.mpr ⟨m,hm,hk,rfl⟩,e⟩
section
variable{X:Cx}{x:Str}{ys M:List Str}{scope:Scope}
def KA{iter:Expr}(c:pX X.env.scope X.N M ys scope)(hc:X.calm=true)(hi:PI X tg iter wi)(hg:∀C s₀ H₀ fp ξ,PG (bq X ys M scope (jA scope X.env.cells) C s₀ H₀ fp ξ) tg g)(he:∀C s₀ H₀ fp ξ,PE (bq X ys M scope (jA scope X.env.cells) C s₀ H₀ fp ξ) elt te)
  (hs:∀v,foldedSetIterable iter X.env v=pure v:=by intro _;rfl):PE X (.ListComp elt [⟨tg,iter,[],0⟩] scope pos) (fS wi ys.length g te):=λξ s σ H Q I h=>tM (c.sc I.ok) hc hi hg he hs ξ s σ H Q I h
def KC{elt iter:Expr}{px pos:Pos}{wi:TI}{te:TE}(c:pX X.env.scope X.N M [x] scope)(hN:X.N.Nodup)(hc:X.calm=true)(hi:PI X (.Name x px) iter wi)(he:∀C s₀ H₀ fp ξ,PE (bq X [x] M scope (jA scope X.env.cells) C s₀ H₀ fp ξ) elt te)
  (hs:∀v,foldedSetIterable iter X.env v=pure v:=by intro _;rfl):PE X (.ListComp elt [⟨.Name x px,iter,[],0⟩] scope pos) (fE wi te):=by
 intro ξ s σ H Q I h
 have hi':PI X (.Name x px) iter (λσ H R=>∃R',(∀J H1,R' J H1->R J H1)/\wi σ H R'):=by
  intro ξ s σ H R I ⟨R',hR,hw⟩;refine bf (hi ξ s σ H R' I hw) λv s1 h1=>bf h1 (by rintro itv s2 ⟨it,fp,tn,J,H',e,I',T,t0,fk,r⟩;exact ⟨it,fp,tn,J,H',e,I',T,t0,fk,hR J H' r⟩)
 exact tM (c.sc I.ok) hc hi' (λC s₀ H₀ fp ξ=>KJ (c.sc I.ok) C s₀ H₀ fp ξ) he hs ξ s σ H Q I ⟨_,λJ H1 q=>Eg q,h⟩
end
abbrev I_(D:Addr)(Pv:Hp->Prop):VK:=λy H2=>∃xs,H2 D=some (.lst xs)/\xs.length<sizeLine/\Pv (upd H2 D (.lst (xs++[y])))
section
variable{K:Fg}{te:TE}{σ:St}{Q:VK}{H:Hp}
abbrev nB(D:Addr)(n i:Nat)(Pv:Nat->Hp->Prop):VK:=λy H2=>∃xs,H2 D=some (.lst xs)/\xs.length<sizeLine/\∃m',m'<n-i/\m'=n-(i+1)/\i+1<=n/\Pv (i+1) (upd H2 D (.lst (xs++[y])))
abbrev M4(te:TE)(σ:St)(v:V)(H:Hp)(D:Addr)(n i:Nat)(Pv:Nat->Hp->Prop):Prop:=te (some v :: σ) H (nB D n i Pv)
def a6{n i:Nat}{Pv:Nat->Hp->Prop}(hi:i<n)(h:I_ D (Pv (i+1)) y H2):nB D n i Pv y H2:=by
 obtain⟨xs,h1,h2,h3⟩:=h;exact⟨xs,h1,h2,n-(i+1),by lia,rfl,hi,h3⟩
def c_{lo:Int}{n:Nat}(h:∀D,H D=none->∃Pv:Nat->Hp->Prop,Pv 0 (upd H D (.lst []))/\(∀i H2,i<n->Pv i H2->M4 te σ (.int (lo+i)) H2 D n i Pv)/\∀H2,Pv n H2->Q (.ref D) H2):cS (vI lo n) te σ Q H:=by
 intro D nD;obtain⟨Pv,h0,hs,hd⟩:=h D nD;refine⟨λi m H=>m=n-i/\i<=n/\Pv i H,⟨n,by simp,Ql _,h0⟩,?_⟩;rintro i m H ⟨rfl,hi,p⟩;by_cases Ad:i<n
 .refine .inr ⟨Ad,λv H' y=>?_⟩;obtain⟨e,y⟩:=y;subst e y;exact hs i _ Ad p
 .have e:i=n:=by lia
  subst e;exact .inl ⟨Pa _,hd H p⟩
def df{xs:List V}(h:∀D,H D=none->∃Pv:Nat->Hp->Prop,Pv 0 (upd H D (.lst []))/\(∀i H2,i<=xs.length->Pv i H2->SqL K H2 a xs)/\(∀i x H2,xs[i]?=some x->Pv i H2->M4 te σ x H2 D xs.length i Pv)/\∀H2,Pv xs.length H2->Q (.ref D) H2):cS (uz K a) te σ Q H:=by
 intro D nD;obtain⟨Pv,h0,hl,hs,hd⟩:=h D nD;refine⟨λi m H=>m=xs.length-i/\i<=xs.length/\Pv i H,⟨xs.length,by simp,Ql _,h0⟩,?_⟩;rintro i m H ⟨rfl,hi,p⟩;have q:=hl i H hi p;by_cases Ad:i<xs.length
 .refine .inr ⟨⟨xs,xs[i],q,by simp[Ad]⟩,λv H' y=>?_⟩;obtain⟨e,y⟩:=y;subst e;exact hs i v _ (y xs q) p
 .have e:i=xs.length:=by lia
  subst e;exact .inl ⟨⟨xs,q,Pa _⟩,hd H p⟩
def uo{xs:List V}(h:∀D,H D=none->∃Pv:Nat->Hp->Prop,Pv 0 (upd H D (.lst []))/\(∀i H2,i<=xs.length->Pv i H2->SqT K H2 a xs)/\(∀i x H2,xs[i]?=some x->Pv i H2->M4 te σ x H2 D xs.length i Pv)/\∀H2,Pv xs.length H2->Q (.ref D) H2):cS (vH K a) te σ Q H:=by
 intro D nD;obtain⟨Pv,h0,hl,hs,hd⟩:=h D nD;refine⟨λi m H=>m=xs.length-i/\i<=xs.length/\Pv i H,⟨xs.length,by simp,Ql _,h0⟩,?_⟩;rintro i m H ⟨rfl,hi,p⟩;have q:=hl i H hi p;by_cases Ad:i<xs.length
 .refine .inr ⟨⟨xs,xs[i],q,by simp[Ad]⟩,λv H' y=>?_⟩;obtain⟨e,y⟩:=y;subst e;exact hs i v _ (y xs q) p
 .have e:i=xs.length:=by lia
  subst e;exact .inl ⟨⟨xs,q,Pa _⟩,hd H p⟩
end
open PySem.W (Dat kqdOk)
section
variable{K:Fg}{σ:St}{H:Hp}{Q:VK}{D:cu}{ta tb tc te:TE}{t u:TS}{c:TT}{QB:Bool->Hp->Prop}{QA:List V->Hp->Prop}{QS:St->Hp->Prop}
def NI(h:t {D with nx:=u D} σ H):aq t u D σ H:=h
def Lx(h:D.nx σ H):bw D σ H:=h
def Iy(h:te σ H λ_ H1=>D.nx σ H1):bM te D σ H:=h
def NL(h:te σ H D.rt):aI te D σ H:=h
def NZ(h:c σ H λb H1=>if b=true then t D σ H1 else u D σ H1):a8 c t u D σ H:=h
def LJ{g:TG}(h:te σ H λx H1=>g x σ H1 D.nx):av te g D σ H:=h
def zA{v:V}(h:QS (σ.set i (some v)) H):al i v σ H QS:=h
def vf{i:Nat}{v:V}(e:σ[i]?=some (some v))(h:Q v H):aa i σ H Q:=⟨v,e,h⟩
def OW(h:Q v H):tC v σ H Q:=h
def NS{r:R2}(h:ta σ H λx H1=>tb σ H1 λy H2=>r x y H2 Q):ar r ta tb σ H Q:=h
def NE{r:V->Hp->VK->Prop}(h:ta σ H λx H1=>r x H1 Q):Jk r ta σ H Q:=h
def Lr{g:Int->V}(h:Q (g i) H):rU g (.int i) H Q:=⟨i,rfl,h⟩
def NO{g:Int->Int->V}(h:Q (g i j) H):rB g (.int i) (.int j) H Q:=⟨i,j,rfl,rfl,h⟩
def cP{C:Int->Int->Prop}{g:Int->Int->V}(hc:C i j)(h:Q (g i j) H):rI C g (.int i) (.int j) H Q:=⟨i,j,rfl,rfl,hc,h⟩
def N3{i j:Int}(h:Q (.bl (decide (i=j))) H):hJ (.int i) (.int j) H Q:=⟨rfl,by
 have e:decide (V.int i=V.int j)=decide (i=j):=by
  by_cases z:i=j
  .subst z;simp
  .simp[z]
 rw[e];exact h⟩
def NT{i j:Int}(h:Q (.bl (!decide (i=j))) H):EK (.int i) (.int j) H Q:=⟨rfl,by
 have e:decide (V.int i=V.int j)=decide (i=j):=by
  by_cases z:i=j
  .subst z;simp
  .simp[z]
 rw[e];exact h⟩
def NW{x:V}(h:Q (.bl (decide (x=.non))) H):CU x .non H Q:=⟨rfl,h⟩
def Lv{x:V}(h:Q (.bl (!decide (x=.non))) H):J4 x .non H Q:=⟨rfl,h⟩
def Ln(h:te σ H λx H'=>∃k,x=.bl k/\QB k H'):aR te σ H QB:=h
def NG(h:te σ H λx H'=>∃k,x=.bl k/\QB k H'):tB te σ H QB:=h
def N9{P:Bool->Prop}(h:P b):∃k,V.bl b=.bl k/\P k:=⟨b,rfl,h⟩
def Lw(h:c σ H λb H1=>QB (!b) H1):iL c σ H QB:=h
def N_{c':TT}(h:c σ H λb H1=>if b=true then c' σ H1 QB else QB false H1):jR c c' σ H QB:=h
def NR{c':TT}(h:c σ H λb H1=>if b=true then QB true H1 else c' σ H1 QB):Jl c c' σ H QB:=h
def LK(h:ta σ H λx H1=>∃k,x=.bl k/\if k=true then tb σ H1 Q else Q (.bl false) H1):BX ta tb σ H Q:=h
def N1(h:c σ H λb H1=>if b=true then ta σ H1 Q else tb σ H1 Q):JC c ta tb σ H Q:=h
def IC{r r':R2}(h:ta σ H λx H1=>tb σ H1 λy H2=>r x y H2 λz H3=>∃k,z=.bl k/\(if k=true then tc σ H3 λw' H4=>r' y w' H4 Q else Q (.bl false) H3)):sS r r' ta tb tc σ H Q:=h
def DM(h:QA [] H):aj σ H QA:=h
def LG{tr:TA}(h:ta σ H λx H1=>tr σ H1 λxs H2=>QA (x :: xs) H2):ae ta tr σ H QA:=h
def LI{sp:Sp}{dJ:List V}{ts:TA}(h:ts σ H λvs H1=>sp (vs++dJ) H1 Q E):aC sp dJ E ts σ H Q:=h
def N6{r:List V->Hp->VK->Prop}{ts:TA}(h:ts σ H λvs H1=>r vs H1 Q):b_ r ts σ H Q:=h
def NF{ts:TA}(h:ts σ H λxs H1=>xs.length<=sizeLine/\∀p,H1 p=none->Q (.ref p) (upd H1 p (.tup xs))):be ts σ H Q:=h
def NU{ts:TA}(h:ts σ H λxs H1=>xs.length<=sizeLine/\∀p,H1 p=none->Q (.ref p) (upd H1 p (.lst xs))):bU ts σ H Q:=h
def NH{r:V->Option Int->Option Int->Hp->VK->Prop}{tl th:TO}(h:te σ H λx H1=>tl σ H1 λl H2=>th σ H2 λu H3=>r x l u H3 Q):MT r te tl th σ H Q:=h
def DL{QO:Option Int->Hp->Prop}(h:QO none H):lE σ H QO:=h
def Lu{QO:Option Int->Hp->Prop}(h:te σ H λx H1=>∃i,x=.int i/\QO (some i) H1):BW te σ H QO:=h
def NX{P:Int->Prop}(h:P i):∃j,V.int i=.int j/\P j:=⟨i,rfl,h⟩
def a9[Decidable p]{A B:Prop}(h1:p->A)(h2 : ¬ p->B):if decide p=true then A else B:=LR h1 h2
def gW[Decidable p]{A B:Prop}(h1 : ¬ p->A)(h2:p->B):if (!decide p)=true then A else B:=by
 by_cases h:p
 .rw[decide_eq_true h];exact zC (h2 h)
 .rw[decide_eq_false h];exact vj (h1 h)
def Iv{A B:Prop}(h:A):if (!false)=true then A else B:=vj h
def Iu{A B:Prop}(h:B):if (!true)=true then A else B:=zC h
abbrev vL(J:It)(g:TG)(tb:TS)(D:cu)(σ:St)(H1:Hp):Prop:=∃W:Nat->Nat->St->Hp->Prop,(∃m,W 0 m σ H1)/\∀i m σ H,W i m σ H ->
 (J.stop i H/\D.nx σ H)\/(J.go i H/\∃N:St->Hp->Prop,(∀σ' H',N σ' H'->∃m',m'<m/\W (i+1) m' σ' H')/\∀x H',J.yld i H x H'->g x σ H' λσ2 H2=>tb {D with nx:=N,ct:=N,bk:=D.nx} σ2 H2)
def N2{wi:TI}{tb:TS}(h:wi σ H λJ H1=>vL J g tb D σ H1):a5 wi g tb D σ H:=h
def LH{wi:TI}(h:wi σ H λJ H1=>cS J te σ Q H1):fE wi te σ H Q:=h
def Lp{ts:TA}{R:It->Hp->Prop}(h:ts σ H λvs H1=>∃j:Int,vs=[.int j]/\-(2 ^ 62)<=j/\j<2 ^ 62/\R (vI 0 j.toNat) H1):cw ts σ H R:=h
def NP{tb:TS}{j:Int}(h0 : -(2 ^ 62)<=j/\j<2 ^ 62)(h:vL (vI 0 j.toNat) g tb D σ H):∃i:Int,[V.int j]=[.int i]/\-(2 ^ 62)<=i/\i<2 ^ 62/\vL (vI 0 i.toNat) g tb D σ H:=⟨j,rfl,h0.1,h0.2,h⟩
def NQ{j:Int}(h0 : -(2 ^ 62)<=j/\j<2 ^ 62)(h:cS (vI 0 j.toNat) te σ Q H):∃i:Int,[V.int j]=[.int i]/\-(2 ^ 62)<=i/\i<2 ^ 62/\cS (vI 0 i.toNat) te σ Q H:=⟨j,rfl,h0.1,h0.2,h⟩
def Iw{R:It->Hp->Prop}(h:te σ H λx H1=>∃a,x=.ref a/\(∃xs,SqL K H1 a xs)/\R (uz K a) H1):cx K te σ H R:=h
def Lz{R:It->Hp->Prop}(h:te σ H λx H1=>∃a,x=.ref a/\(∃xs,SqT K H1 a xs)/\R (vH K a) H1):vm K te σ H R:=h
def ig{tb:TS}(e:SqL K H a xs)(h:vL (uz K a) g tb D σ H):∃b,V.ref a=.ref b/\(∃xs,SqL K H b xs)/\vL (uz K b) g tb D σ H:=⟨a,rfl,⟨xs,e⟩,h⟩
def rP(e:SqL K H a xs)(h:cS (uz K a) te σ Q H):∃b,V.ref a=.ref b/\(∃xs,SqL K H b xs)/\cS (uz K b) te σ Q H:=⟨a,rfl,⟨xs,e⟩,h⟩
def NJ{tb:TS}(e:SqT K H a xs)(h:vL (vH K a) g tb D σ H):∃b,V.ref a=.ref b/\(∃xs,SqT K H b xs)/\vL (vH K b) g tb D σ H:=⟨a,rfl,⟨xs,e⟩,h⟩
def NK(e:SqT K H a xs)(h:cS (vH K a) te σ Q H):∃b,V.ref a=.ref b/\(∃xs,SqT K H b xs)/\cS (vH K b) te σ Q H:=⟨a,rfl,⟨xs,e⟩,h⟩
def aW{lo:Int}{n:Nat}{g:TG}{tb:TS}(Pv:Nat->St->Hp->Prop)(h0:Pv 0 σ H)
  (hs:∀i σ H,i<n->Pv i σ H->g (.int (lo+i)) σ H λσ2 H2=>tb {D with nx:=Pv (i+1),ct:=Pv (i+1),bk:=D.nx} σ2 H2) (hd:∀σ H,Pv n σ H->D.nx σ H):vL (vI lo n) g tb D σ H:=Aa Pv h0 hs hd
def bn{xs:List V}{g:TG}{tb:TS}(Pv:Nat->St->Hp->Prop)(h0:Pv 0 σ H)(hl:∀i σ H,i<=xs.length->Pv i σ H->SqL K H a xs)
  (hs:∀i x σ H,xs[i]?=some x->Pv i σ H->g x σ H λσ2 H2=>tb {D with nx:=Pv (i+1),ct:=Pv (i+1),bk:=D.nx} σ2 H2) (hd:∀σ H,Pv xs.length σ H->D.nx σ H):vL (uz K a) g tb D σ H:=D8 Pv h0 hl hs hd
def Ae{xs:List V}{g:TG}{tb:TS}(Pv:Nat->St->Hp->Prop)(h0:Pv 0 σ H)(hl:∀i σ H,i<=xs.length->Pv i σ H->SqT K H a xs)
  (hs:∀i x σ H,xs[i]?=some x->Pv i σ H->g x σ H λσ2 H2=>tb {D with nx:=Pv (i+1),ct:=Pv (i+1),bk:=D.nx} σ2 H2) (hd:∀σ H,Pv xs.length σ H->D.nx σ H):vL (vH K a) g tb D σ H:=IK Pv h0 hl hs hd
def N5{v:V}{D:Addr}(h:te (some v :: σ) H (nB D n i Pv)):M4 te σ v H D n i Pv:=h
def bI{n:Nat}{ts:Ew}(e:SqT K H a xs)(l:xs.length=n)(h:ts xs σ H QS):cg K n ts (.ref a) σ H QS:=⟨a,xs,rfl,e,l,h⟩
def Ix{tg:TG}{ts:Ew}(h:tg v σ H λσ' H'=>ts r σ' H' QS):aT tg ts (v :: r) σ H QS:=⟨v,r,rfl,h⟩
def LA(h:QS σ H):ci [] σ H QS:=⟨rfl,h⟩
def cR(e:SqL K H p xs)(h:Q (.int xs.length) H):cH K [.ref p] H Q:=⟨p,xs,rfl,.inl e,h⟩
def o_(e:SqT K H p xs)(h:Q (.int xs.length) H):cH K [.ref p] H Q:=⟨p,xs,rfl,.inr e,h⟩
def cf{v:V}(e:SqL K H p xs)(a:ur xs i=some v)(h:Q v H):bY K (.ref p) (.int i) H Q:=⟨p,xs,i,v,rfl,rfl,e,a,h⟩
def aG{v:V}(e:SqT K H p xs)(a:ur xs i=some v)(h:Q v H):aD K (.ref p) (.int i) H Q:=⟨p,xs,i,v,rfl,rfl,e,a,h⟩
def NV{z:Str}{c:Nat}(e:z.length<=sizeLine)(a:ur z.cps.toList i=some c)(h:Q (.str ⟨#[c]⟩) H):Hl (.str z) (.int i) H Q:=⟨z,i,c,rfl,rfl,e,a,h⟩
def eG(e:SqL K H p xs)(h:∀l,H l=none->Q (.ref l) (upd H l (.tup xs))):cz K [.ref p] H Q:=⟨p,xs,rfl,.inl ⟨e,h⟩⟩
def Lm(e:SqT K H p xs)(h:Q (.ref p) H):cz K [.ref p] H Q:=⟨p,xs,rfl,.inr ⟨e,h⟩⟩
def rS(e:SqL K H p xs)(h:∀l,H l=none->Q (.ref l) (upd H l (.lst xs))):fJ K [.ref p] H Q:=⟨p,xs,rfl,.inl e,h⟩
def zz(e:SqT K H p xs)(h:∀l,H l=none->Q (.ref l) (upd H l (.lst xs))):fJ K [.ref p] H Q:=⟨p,xs,rfl,.inr e,h⟩
def N8{T:String}{r:V->List V->Hp->VK->Prop}{to:TE}{ts:TA}(h:to σ H λx H1=>EE K T x H1/\ts σ H1 λxs H2=>r x xs H2 Q):dU K T r to ts σ H Q:=h
def N7{T:String}{r:V->List V->Hp->VK->Prop}{to:TE}(h:to σ H λx H1=>EE K T x H1/\r x [] H1 Q):Gp K T r to σ H Q:=h
def vg(e:H p=some (.lst xs)):EE K "list" (.ref p) H:=.inl ⟨rfl,xs,SqL.of e⟩
def DO{y:V}(e:H l=some (.lst xs))(n:xs.length<sizeLine)(h:Q .non (upd H l (.lst (xs++[y])))):aN (.ref l) [y] H Q:=⟨l,xs,y,rfl,rfl,e,n,h⟩
def Ly{b:Bool}(h:Q (.int (if b then 1 else 0)) H):Hm [.bl b] H Q:=.inr ⟨b,rfl,h⟩
def Ff{i j:Str}(n:i.length+j.length<=sizeLine)(h:Q (.str (i++j)) H):Hr (.str i) (.str j) H Q:=⟨i,j,rfl,rfl,n,h⟩
end
mutual
inductive Rp (K:Fg) (S:Addr->Prop) (H:Hp):V->Dat->Prop
 |non:Rp K S H .non .none
 |bl (b:Bool):Rp K S H (.bl b) (.bool b)
 |int (i:Int):Rp K S H (.int i) (.int i)
 |str (x:Str):Rp K S H (.str x) (.str x)
 |tup {a:Addr} {xs:List V} {ds:List Dat}:H a=some (.tup xs)->RpL K S H xs ds->Rp K S H (.ref a) (.tuple ds)
 |lst {a:Addr} {xs:List V} {ds:List Dat}:S a->H a=some (.lst xs)->RpL K S H xs ds->Rp K S H (.ref a) (.list ds)
inductive RpL (K:Fg) (S:Addr->Prop) (H:Hp):List V->List Dat->Prop
 |nil:RpL K S H [] []
 |cons {v:V} {d:Dat} {vs:List V} {ds:List Dat}:Rp K S H v d->RpL K S H vs ds->RpL K S H (v :: vs) (d :: ds)
end
structure Agr (S:Addr->Prop) (H H':Hp):Prop where
 tup:∀a xs,H a=some (.tup xs)->H' a=some (.tup xs)
 lst:∀a xs,S a->H a=some (.lst xs)->H' a=some (.lst xs)
section
variable{K:Fg}{S S':Addr->Prop}{H H':Hp}
def Agr.of_same(e:Same H H'):Agr S H H':=⟨λa xs h=>e _ _ h,λa xs _ h=>e _ _ h⟩
def Agr.d_(hl:H l=some (.lst ys))(ns : ¬ S l):Agr S H (upd H l o):=by
 refine⟨λa xs h=>?_,λa xs s h=>?_⟩
 .have ne:a≠l:=by
   rintro rfl;rw[hl] at h;cases h
  rw[aE ne];exact h
 .have ne:a≠l:=by
   rintro rfl;exact ns s
  rw[aE ne];exact h
mutual
def Rp.agr(e:Agr S H H'):∀{v:V} {d:Dat},Rp K S H v d->Rp K S H' v d
 |_,_,.non=>.non
 |_,_,.bl b=>.bl b
 |_,_,.int i=>.int i
 |_,_,.str x=>.str x
 |_,_,.tup h r=>.tup (e.tup _ _ h) (RpL.agr e r)
 |_,_,.lst s h r=>.lst s (e.lst _ _ s h) (RpL.agr e r)
def RpL.agr(e:Agr S H H'):∀{vs:List V} {ds:List Dat},RpL K S H vs ds->RpL K S H' vs ds
 |_,_,.nil=>.nil
 |_,_,.cons h r=>.cons (Rp.agr e h) (RpL.agr e r)
end
mutual
def Rp.mono(e:∀a,S a->S' a):∀{v:V} {d:Dat},Rp K S H v d->Rp K S' H v d
 |_,_,.non=>.non
 |_,_,.bl b=>.bl b
 |_,_,.int i=>.int i
 |_,_,.str x=>.str x
 |_,_,.tup h r=>.tup h (RpL.mono e r)
 |_,_,.lst s h r=>.lst (e _ s) h (RpL.mono e r)
def RpL.mono(e:∀a,S a->S' a):∀{vs:List V} {ds:List Dat},RpL K S H vs ds->RpL K S' H vs ds
 |_,_,.nil=>.nil
 |_,_,.cons h r=>.cons (Rp.mono e h) (RpL.mono e r)
end
mutual
def Rp.rep:∀{v:V} {d:Dat},Rp K S H v d->Rep K H v d
 |_,_,.non=>.non
 |_,_,.bl b=>.bl b
 |_,_,.int i=>.int i
 |_,_,.str x=>.str x
 |_,_,.tup h r=>.tup (SqT.of h) (RpL.rep r)
 |_,_,.lst _ h r=>.lst (SqL.of h) (RpL.rep r)
def RpL.rep:∀{vs:List V} {ds:List Dat},RpL K S H vs ds->RepL K H vs ds
 |_,_,.nil=>.nil
 |_,_,.cons h r=>.cons (Rp.rep h) (RpL.rep r)
end
def Rp.same(e:Same H H')(h:Rp K S H v d):Rp K S H' v d:=h.agr (Agr.of_same e)
def RpL.same(e:Same H H'){vs:List V}(h:RpL K S H vs ds):RpL K S H' vs ds:=h.agr (Agr.of_same e)
def RpL.length:∀{vs:List V} {ds:List Dat},RpL K S H vs ds->vs.length=ds.length
 |_,_,.nil=>rfl
 |_,_,.cons _ r=>congrArg (· + 1) (RpL.length r)
def RpL.get:∀{vs:List V} {ds:List Dat} {i:Nat} {v:V},RpL K S H vs ds->vs[i]?=some v->∃d,ds[i]?=some d/\Rp K S H v d
 |_,_,_,_,.nil,e=>by simp at e
 |_,_,0,_,.cons h _,e=>by simp at e;subst e;exact⟨_,rfl,h⟩
 |_,_,i+1,v,.cons _ r,e=>by
  obtain⟨d,h1,h2⟩:=RpL.get (i:=i) (v:=v) r (by simpa using e);exact⟨d,by simpa using h1,h2⟩
def RpL.get':∀{vs:List V} {ds:List Dat} {i:Nat} {d:Dat},RpL K S H vs ds->ds[i]?=some d->∃v,vs[i]?=some v/\Rp K S H v d
 |_,_,_,_,.nil,e=>by simp at e
 |_,_,0,_,.cons h _,e=>by simp at e;subst e;exact⟨_,rfl,h⟩
 |_,_,i+1,v,.cons _ r,e=>by
  obtain⟨d,h1,h2⟩:=RpL.get' (i:=i) (d:=v) r (by simpa using e);exact⟨d,by simpa using h1,h2⟩
def RpL.append:∀{vs ws:List V} {ds es:List Dat},RpL K S H vs ds->RpL K S H ws es->RpL K S H (vs++ws) (ds++es)
 |_,_,_,_,.nil,s=>s
 |_,_,_,_,.cons h r,s=>.cons h (RpL.append r s)
def RpL.ints:∀ns:List Int,RpL K S H (ns.map V.int) (ns.map Qm)
 |[]=>.nil
 |n :: ns=>.cons (.int n) (RpL.ints ns)
def RpL.strs:∀ns:List Str,RpL K S H (ns.map V.str) (ns.map Wv)
 |[]=>.nil
 |n :: ns=>.cons (.str n) (RpL.strs ns)
def RpL.ints_of:∀{vs:List V} {ns:List Int},RpL K S H vs (ns.map Qm)->vs=ns.map V.int
 |_,[],.nil=>rfl
 |_,n :: ns,.cons h r=>by cases h;rw[RpL.ints_of r];rfl
def RpL.xp:∀{vs:List V} {ns:List Str},RpL K S H vs (ns.map Wv)->vs=ns.map V.str
 |_,[],.nil=>rfl
 |_,n :: ns,.cons h r=>by cases h;rw[RpL.xp r];rfl
def Rp.Ju(h:Rp K S H v (.tuple ds)):∃a xs,v=.ref a/\SqT K H a xs/\RpL K S H xs ds:=by
 cases h with
 |tup h r=>exact⟨_,_,rfl,SqT.of h,r⟩
def Rp.cF(h:Rp K S H v (.tuple ds)):∃a xs,v=.ref a/\H a=some (.tup xs)/\RpL K S H xs ds:=by
 cases h with
 |tup h r=>exact⟨_,_,rfl,h,r⟩
def Rp.kx(h:Rp K S H v (.list ds)):∃a xs,v=.ref a/\S a/\H a=some (.lst xs)/\RpL K S H xs ds:=by
 cases h with
 |lst s h r=>exact⟨_,_,rfl,s,h,r⟩
end
abbrev F0:Addr->Prop:=λ_=>False
nonrec abbrev Rz(K:Fg)(H:Hp):V->Dat->Prop:=Rp K F0 H
nonrec abbrev RzL(K:Fg)(H:Hp):List V->List Dat->Prop:=RpL K F0 H
section
variable{K:Fg}{S:Addr->Prop}{H H':Hp}
def RpL.z{vs:List V}(h:RzL K H vs ds):RpL K S H vs ds:=h.mono λ_ z=>z.elim
def Rz.upd(h:Rz K H v d)(hl:H l=some (.lst ys)):Rz K (L2.upd H l o) v d:=h.agr (Agr.d_ hl λz=>z)
def RzL.upd(h:RzL K H v d)(hl:H l=some (.lst ys)):RzL K (L2.upd H l o) v d:=h.agr (Agr.d_ hl λz=>z)
end
structure Acc (K:Fg) (H0:Hp) (l:Addr) (H:Hp) (ds:List Dat):Prop where
 same:Same H0 H
 new:H0 l=none
 at_:∃xs,H l=some (.lst xs)/\RpL K (λa=>H0 a=none/\a≠l) H xs ds
section
variable{K:Fg}{H0 H H':Hp}{l:Addr}{ds:List Dat}
def Acc.start(n:H0 l=none):Acc K H0 l (upd H0 l (.lst [])) []:=⟨ak n _,n,[],ag,.nil⟩
def Acc.on(A:Acc K H0 l H ds)(e:Same H H'):Acc K H0 l H' ds:=by
 obtain⟨xs,h1,h2⟩:=A.at_;exact⟨A.same.trans e,A.new,xs,e _ _ h1,h2.same e⟩
def Acc.ref(A:Acc K H0 l H ds):Rp K (λa=>H0 a=none) H (.ref l) (.list ds):=by
 obtain⟨xs,h1,h2⟩:=A.at_;exact .lst A.new h1 (h2.mono λ_ z=>z.1)
def Acc.push(A:Acc K H0 l H ds)(r:Rp K S H y d)(hS:∀a,S a->H0 a=none/\a≠l):∃xs,H l=some (.lst xs)/\xs.length=ds.length/\Acc K H0 l (upd H l (.lst (xs++[y]))) (ds++[d]):=by
 obtain⟨xs,h1,h2⟩:=A.at_;refine⟨xs,h1,h2.length,⟨λb o q=>?_,A.new,xs++[y],ag,?_⟩⟩
 .rw[aE (aw q A.new)];exact A.same b o q
 .exact(h2.append (.cons (r.mono hS) .nil)).agr (Agr.d_ h1 λz=>z.2 rfl)
def Acc.Nf(A:Acc K H0 l H ds)(e:Same H H')(r:Rp K (λa=>H a=none) H' y d):∃xs,H' l=some (.lst xs)/\xs.length=ds.length/\Acc K H0 l (upd H' l (.lst (xs++[y]))) (ds++[d]) :=
 (A.on e).push r λa z=>⟨A.same.free z,λq=>by obtain⟨xs,h1,_⟩:=A.at_;rw[q,h1] at z;cases z⟩
def Acc.cI(A:Acc K H0 l H ds)(e:Same H H')(r:Rp K (λa=>H a=none) H' y d)(n:ds.length<sizeLine){Pv:Hp->Prop}(h:∀H2,Acc K H0 l H2 (ds++[d])->Pv H2):I_ l Pv y H':=by
 obtain⟨xs,h1,h2,h3⟩:=A.Nf e r;exact⟨xs,h1,by rw[h2];exact n,h _ h3⟩
end
def Acc.ty{K:Fg}    (A:Acc K H0 l H ds):EE K "list" (.ref l) H:=by
 obtain⟨xs,h1,_⟩:=A.at_;exact vg h1
structure AccZ (K:Fg) (H0:Hp) (l:Addr) (H:Hp) (ds:List Dat):Prop where
 same:Same H0 H
 new:H0 l=none
 at_:∃xs,H l=some (.lst xs)/\RzL K H xs ds
section
variable{K:Fg}{H0 H H':Hp}{l m:Addr}{ds:List Dat}
def AccZ.start(e:Same H0 H)(n:H l=none):AccZ K H0 l (upd H l (.lst [])) []:=⟨e.trans (ak n _),e.free n,[],ag,.nil⟩
def AccZ.on(A:AccZ K H0 l H ds)(e:Same H H'):AccZ K H0 l H' ds:=by
 obtain⟨xs,h1,h2⟩:=A.at_;exact⟨A.same.trans e,A.new,xs,e _ _ h1,h2.same e⟩
def AccZ.ref(A:AccZ K H0 l H ds):Rp K (λa=>H0 a=none) H (.ref l) (.list ds):=by
 obtain⟨xs,h1,h2⟩:=A.at_;exact .lst A.new h1 h2.z
def AccZ.rep(A:AccZ K H0 l H ds):Rep K H (.ref l) (.list ds):=A.ref.rep
def AccZ.ty(A:AccZ K H0 l H ds):EE K "list" (.ref l) H:=by
 obtain⟨xs,h1,_⟩:=A.at_;exact vg h1
def AccZ.sq(A:AccZ K H0 l H ds):∃xs,SqL K H l xs/\xs.length=ds.length/\RzL K H xs ds:=by
 obtain⟨xs,h1,h2⟩:=A.at_;exact⟨xs,SqL.of h1,h2.length,h2⟩
def AccZ.ag(A:AccZ K H0 l H ds):Same H0 (L2.upd H l o):=λb u q=>by
 rw[L2.aE (aw q A.new)];exact A.same b u q
def AccZ.other(A:AccZ K H0 l H ds)(ne:l≠m)(n:H0 m=none)(h:H m=some (.lst ys)):AccZ K H0 l (upd H m o) ds:=by
 obtain⟨xs,h1,h2⟩:=A.at_;refine⟨λb u q=>?_,A.new,xs,by rw[aE ne];exact h1,h2.upd h⟩;rw[aE (aw q n)];exact A.same b u q
end
def b6{K:Fg}{Q:VK}(A:AccZ K H0 l H ds)(r:Rz K H y d)(n:ds.length<sizeLine)
  (h:∀H2,AccZ K H0 l H2 (ds++[d])->(∀{v:V} {e:Dat},Rz K H v e->Rz K H2 v e)->(∀b,b≠l->H2 b=H b)->(∀{m:Addr} {es:List Dat},m≠l->AccZ K H0 m H es->AccZ K H0 m H2 es)->Q .non H2):aN (.ref l) [y] H Q:=by
 obtain⟨xs,h1,h2⟩:=A.at_;refine⟨l,xs,y,rfl,rfl,h1,by rw[h2.length];exact n,h _ ⟨A.ag,A.new,xs++[y],ag,?_⟩ (λq=>Rz.upd q h1) (λb nb=>aE nb) λne B=>B.other ne A.new h1⟩;exact RzL.upd (h2.append (.cons r .nil)) h1
section
variable{K:Fg}{H:Hp}{Q:VK}{x y:V}{d e:Dat}{ds:List Dat}
open Classical in
def mK(hd:Rep K H x d)(he:Rep K H y (.list ds))(ka:∀e∈ds,kqdOk 8 e=true)(kd:kqdOk 8 d=true)(h1:d∉ds->Q (.bl true) H)(h2:d∈ds->Q (.bl false) H):oC K true x y H Q:=by
 refine⟨d,ds,hd,he,ka,kd,?_⟩;by_cases z:d∈ds
 .have q:=h2 z;simpa[z] using q
 .have q:=h1 z;simpa[z] using q
open Classical in
def NY(hd:Rep K H x d)(he:Rep K H y (.list ds))(ka:∀e∈ds,kqdOk 8 e=true)(kd:kqdOk 8 d=true)(h1:d∈ds->Q (.bl true) H)(h2:d∉ds->Q (.bl false) H):oC K false x y H Q:=by
 refine⟨d,ds,hd,he,ka,kd,?_⟩;by_cases z:d∈ds
 .have q:=h1 z;simpa[z] using q
 .have q:=h2 z;simpa[z] using q
open Classical in
def N4(hd:Rep K H x d)(he:Rep K H y e)(kd:kqdOk 8 d=true)(ke:kqdOk 8 e=true)(h1:d=e->Q (.bl true) H)(h2:d≠e->Q (.bl false) H):Ho K x y H Q:=by
 refine⟨d,e,hd,he,kd,ke,?_⟩;by_cases z:d=e
 .have q:=h1 z;rw[decide_eq_true z];exact q
 .have q:=h2 z;rw[decide_eq_false z];exact q
end
abbrev DZ(n:Nat):Option Int->Nat
 |none=>n
 |some j=>min j.toNat n
abbrev IF(l:List Nat):Option Int->List Nat
 |none=>l
 |some j=>l.take j.toNat
def Fi(n:Nat)(hi:Option Int):DZ n hi<=n:=by
 cases hi with
 |none=>exact Pa _
 |some j=>exact V_ _ _
abbrev jS(z:Str)(lo hi:Option Int):Str:=⟨((IF z.cps.toList hi).drop (lo.getD 0).toNat).toArray⟩
abbrev NN:Option Int->Prop
 |none=>True
 |some i=>0<=i
def M9{lo:Option Int}(n:Nat)(hl:NN lo)(hh:NN hi):Qw lo hi 1 n=(Pi (DZ n hi-min (lo.getD 0).toNat n)).map (λk=>min (lo.getD 0).toNat n+k):=by
 have core:∀(a b:Nat),a<=n->b<=n->sliceRange (a:Int) (b:Int) 1=(Pi (b-a)).map (λk=>a+k):=by
  intro a b ha hb;simp only[sliceRange,show((1:Int) > 0)=True from by simp,if_true];by_cases Ad:(a:Int)<b
  .have e3:(((b:Int)-a+1-1) / 1).toNat=b-a:=by rw[Int.ediv_one];lia
   simp only[Ad,if_true,e3];refine Q3 λk _=>?_
   lia
  .have:b-a=0:=by lia
   simp[Ad,this]
 have clip:∀i:Int,0<=i->max (0:Int) (min (if i<0 then i+n else i) n)=((min i.toNat n:Nat):Int):=by
  intro i hi;rw[if_neg (by lia)];lia
 cases lo with
 |none =>
  cases hi with
  |none =>
   have:=core 0 n (by lia) (by lia)
   simpa[Qw,DZ] using this
  |some j =>
   have:=core 0 (min j.toNat n) (by lia) (by lia)
   simp only[Qw,show((1:Int) > 0)=True from by simp,if_true];rw[clip j hh];simpa[DZ] using this
 |some i =>
  cases hi with
  |none =>
   have:=core (min i.toNat n) n (by lia) (by lia)
   simp only[Qw,show((1:Int) > 0)=True from by simp,if_true];rw[clip i hl];simpa[DZ] using this
  |some j =>
   have:=core (min i.toNat n) (min j.toNat n) (by lia) (by lia)
   simp only[Qw,show((1:Int) > 0)=True from by simp,if_true];rw[clip i hl,clip j hh];simpa[DZ] using this
def Ce(z:Str){lo:Option Int}(hl:NN lo)(hh:NN hi):Y3 z lo hi=jS z lo hi:=by
 have len:z.cps.toList.length=z.length:=by simp[YK]
 have e:=M9 z.length hl hh;have p:=StrLaws.picks z.cps.toList (DZ z.length hi-min (lo.getD 0).toNat z.length) (min (lo.getD 0).toNat z.length) (by have:=Fi z.length hi;rw[len];lia)
 have q:(z.cps.toList.drop (min (lo.getD 0).toNat z.length)).take (DZ z.length hi-min (lo.getD 0).toNat z.length)=(IF z.cps.toList hi).drop (lo.getD 0).toNat:=by
  generalize (lo.getD 0).toNat=a;cases hi with
  |none =>
   show Ug (z.length-min a z.length) (W6 (min a z.length) z.cps.toList)=W6 a z.cps.toList;by_cases ha:a<=z.length
   .rw[U6 ha,Pc (by rw[Rc,len];exact Pa _)]
   .rw[UE (by lia),RC (by rw[len];exact Pa _),RC (by rw[len];lia)];simp
  |some j =>
   show Ug (min j.toNat z.length-min a z.length) (W6 (min a z.length) z.cps.toList)=W6 a (z.cps.toList.take j.toNat);rw[List.drop_take];generalize j.toNat=b;by_cases ha:a<=z.length
   .rw[U6 ha];by_cases hb:b<=z.length
    .rw[U6 hb]
    .rw[UE (by lia),Pc (by rw[Rc,len];exact Pa _),Pc (by rw[Rc,len];lia)]
   .rw[UE (by lia:z.length<=a),RC (by rw[len];exact Pa _),RC (by rw[len];lia)];simp
 have r:(Qw lo hi 1 z.length).filterMap (z.cps[·]?)=(IF z.cps.toList hi).drop (lo.getD 0).toNat:=by
  rw[<- q,<- p,e];simp
 unfold Y3 jS;split
 .rename_i c;have c':(Qw lo hi 1 z.length).length=z.length:=by simpa using c
  rw[e,O0,PN] at c'
  have w:(z.cps.toList.drop (min (lo.getD 0).toNat z.length)).take (DZ z.length hi-min (lo.getD 0).toNat z.length)=z.cps.toList:=by
   have b:=Fi z.length hi;by_cases h0:z.length=0
   .have:z.cps.toList=[]:=Q9.mp (by rw[len];exact h0)
    rw[this];simp
   .have a0:min (lo.getD 0).toNat z.length=0:=by lia
    rw[a0,List.drop_zero,Pc (by rw[len];lia)]
  rw[<- q,w]
 .rw[r]
abbrev J1:V->Option Int->Option Int->Hp->VK->Prop:=λx lo hi H Q=>∃z,x=.str z/\z.length<=sizeLine/\NN lo/\NN hi/\Q (.str (jS z lo hi)) H
abbrev Nb:List V->Hp->VK->Prop:=λxs H Q=>∃i j,xs=[.int i,.int j]/\Q (.int (if j<i then j else i)) H
section
variable{X:Cx}
def JJ:MY X J1:=by
 intro ξ s σ H x v vl vu lo hi sl Q I rx hs pl pu h;obtain⟨z,rfl,hz,hl,hh,q⟩:=h;obtain⟨t,rfl⟩:=rx;refine⟨"str",_,F.slot_str_getitem.lookup,typeIs_str _ _ _,?_⟩
 have fin:∀(l u:Option (Int×Tok)),l.map (·.1)=lo->u.map (·.1)=hi->(sliceMade z t l u none).post (EP X ξ σ Q) s:=by
  intro l u el eu
  have e:sliceMade z t l u none=if ((1:Int) == 1 && (Qw lo hi 1 z.length).length == z.length)=true then Made.val (.str z t) else .str ⟨((Qw lo hi 1 z.length).filterMap (z.cps[·]?)).toArray⟩:=by
   unfold sliceMade slicePicked;rw[el,eu];rfl
  rw[e];have lt:=Txt.slice_le z lo hi;have eq:=Ce z hl hh;unfold Y3 at lt eq;refine post_val_or_str ⟨Pj lt hz,λt' k=>⟨.str (jS z lo hi),H,I.tok k,⟨t',?_⟩,q⟩⟩;rw[eq]
 cases pl with
 |none =>
  cases pu with
  |none=>exact SR (l:=none) (u:=none) (st:=none) hs rfl (fin none none rfl rfl)
  |int j tj=>exact SR (l:=none) (u:=some (j,tj)) (st:=none) hs rfl (fin none (some (j,tj)) rfl rfl)
 |int i ti =>
  cases pu with
  |none=>exact SR (l:=some (i,ti)) (u:=none) (st:=none) hs rfl (fin (some (i,ti)) none rfl rfl)
  |int j tj=>exact SR (l:=some (i,ti)) (u:=some (j,tj)) (st:=none) hs rfl (fin (some (i,ti)) (some (j,tj)) rfl rfl)
end
abbrev RawD(h:Heap)(d:Addr)(es:Array Vo)(ep:Nat):Prop:=∃o,h.get? d=some o/\o.ExactDict/\o.data=.dict es ep
section
variable{prog:P6}{w:Qp}{A:Qt}{E:O6->Pe->Prop}{s:Pe}{d it:Addr}{es:Array Vo}{ep i:Nat}
def RawD.ty(m:RawD s.heap d es ep):s.TypeIs (.ref d) "dict":=by
 obtain⟨o,a,b,_⟩:=m;exact⟨o,a,b.1⟩
def RawD.at{h':Heap}(m:RawD h d es ep)(k:∀o,h.get? d=some o->h'.get? d=some o):RawD h' d es ep:=by
 obtain⟨o,a,b⟩:=m;exact⟨o,k o a,b⟩
def CS{Q:O6->Pe->Prop} (lo:(d == sysModules)=false) (m:RawD s.heap d es ep) (q:Q (.ref s.heap.objs.size) {s with heap:=s.heap.push {cls:=.type "dict_keyiterator",data:=.fields #[.ref d,.int 0 0,.int es.size 0,.int ep 0]}}) :
  wpAny (model prog w) A (pyIter (.ref d)) Q E s:=by
 have ty:=m.ty;obtain⟨o,ho,_,dt⟩:=m;refine VN ty Yh (Re Yh ty F.entry_dict_iter ?_ (F.args_dict_iter_1 _));unfold RU.«dict.__iter__» RU.Dict.dictSlotNone;refine O5 (O5 (wpAny_notOrdered_dict ty ?_));show wpAny _ _ (pure (Qi d)) _ _ s;refine Pt ?_;show wpAny _ _ (WJ d >>= _) _ _ s;unfold WJ;rw[if_neg (λz=>by rw[lo] at z;cases z)];refine O5 (Pt (O5 (VO ho dt (O5 (WD ho dt ?_)))));refine O5 (Q7 (Pt ⟨_,rfl,"dict_keyiterator",_,⟨_,PR _ rfl,rfl⟩,Ro.lookup,?_⟩));simpa[rawInt] using q
def tG{Q:Option O6->Pe->Prop}(ki:s.heap.IsKeyIter it d i es.size ep)(m:RawD s.heap d es ep) :
  (∀e,es[i]?=some e->(∀h',h'.IsKeyIter it d (i+1) es.size ep->RX it s.heap h'->Q (some e.key) {s with heap:=h'})->wpAny (model prog w) A (pyNext (.ref it)) Q E s) /\
  (A.handled=none->es[i]?=none->(∀h',Yr it s.heap h'->Q none {s with heap:=h'})->wpAny (model prog w) A (pyNext (.ref it)) Q E s):=by
 obtain⟨o,ho,oc,od⟩:=id ki;obtain⟨dd,hd,_,dt⟩:=id m;have own:RU.Dict_items.ownsTuple "dict_keyiterator"=false:=by decide
 have nn : ¬ ((Qi d == Rs)=true):=PZ;constructor
 .intro e he hq;unfold pyNext;refine O5 (UO (Ru (name:=Uq "__next__") ki.typeIs Ro (Re Ro ki.typeIs UR ?_ (UF _))));refine O5 (Pt (O5 (O5 (O5 (RQ ki.typeIs (Pt (O5 (Vx ho od ?_))))))));simp only[own,S_,if_false];show wpAny _ _ (if (Qi d == Rs)=true then _ else _) _ _ s;rw[if_neg nn];refine O5 (Pt (O5 (VO hd dt ?_)));rw[if_neg (by simp)];refine O5 (Pt (O5 (WD hd dt ?_)));rw[if_neg (by simp)];refine Pt ?_;simp only[show ¬ ((i:Int)<0) from by lia,if_false,Qc,he];refine O5 (O5 (RQ ki.typeIs (Pt (O5 (WK ki.typeIs ?_)))));show wpAny _ _ (setField (.ref it) 1 (rawInt ((i:Int)+1)) >>= _) _ _ s;refine O5 (SU ho od (by simp) ?_);have k2:(s.heap.update it (Sa (·.setIfInBounds 1 (rawInt ((i:Int)+1))))).IsKeyIter it d (i+1) es.size ep:=⟨_,Q5 _ ho (Th (Rt od _)),(Ur ..).trans oc,by rw[Rt od];simp[rawInt]⟩
  refine O5 (R_ (O5 (WK (s:={s with heap:=s.heap.update it (Sa (·.setIfInBounds 1 (rawInt ((i:Int)+1))))}) k2.typeIs ?_)));show wpAny _ _ (pure e.key) _ _ _;exact Pt (Pt ⟨_,rfl,Pt (hq _ k2 (QJ ..))⟩)
 .intro hh he hq;unfold pyNext;refine O5 (UO (Ru (name:=Uq "__next__") ki.typeIs Ro (Re Ro ki.typeIs UR ?_ (UF _))));refine O5 (Pt (O5 (O5 (O5 (RQ ki.typeIs (Pt (O5 (Vx ho od ?_))))))));simp only[own,S_,if_false];show wpAny _ _ (if (Qi d == Rs)=true then _ else _) _ _ s;rw[if_neg nn];refine O5 (Pt (O5 (VO hd dt ?_)));rw[if_neg (by simp)];refine O5 (Pt (O5 (WD hd dt ?_)));rw[if_neg (by simp)];refine Pt ?_;simp only[show ¬ ((i:Int)<0) from by lia,if_false,Qc,he];refine O5 (O5 (RQ ki.typeIs (Pt ?_)));show wpAny _ _ (setField (.ref it) 0 .none >>= _) _ _ s;refine O5 (SU ho od (by simp) ?_);show wpAny _ _ (newExc (.type "StopIteration") [] >>= _) _ _ _;refine O5 ?_;simp only[newExc,newTuple];refine O5 (Q7 ?_ (by size_fits));refine O5 (m:=firstArgMember _ _) (VP (a:=Rs) (by simp only[firstArgMember];rfl) (Q7 ?_ (by size_fits)));simp only[raiseNew];refine O5 (Xj ?_);rw[show A.in1.handled=none from hh];refine O5 (Pt (Ys ?_));refine O5 (UG (T:="StopIteration") (b:=true) ⟨_,PR _ rfl,rfl⟩ WT ?_);exact Pt (hq _ (((QJ ..).extBut.push _).push _))
def yk(hh:A.handled=none)(I d:Addr)(ne:d≠I)(es:Array Vo)(ep:Nat):XG prog w A I [I,d] [I] es.size (λi v=>∃e,es[i]?=some e/\v=e.key) (λi h=>h.IsKeyIter I d i es.size ep/\RawD h d es ep) where
 sub:=λb hb=>by rw[Po.mp hb];simp
 frame:=λ_ _ _ st hk=>⟨st.1.at λo e=>hk I (by simp) o e,st.2.at λo e=>hk d (by simp) o e⟩
 item:=λi s Q E hi st hq=>by
  refine(tG st.1 st.2).1 es[i] (by simp[hi]) λh' k1 k2=>?_
  exact hq _ h' s.toks ⟨es[i],by simp[hi],rfl⟩ ⟨k1,st.2.at λo e=>k2.extBut d o ne e⟩ λb o hb e=>k2.extBut b o (λz=>hb (by simp[z])) e
 done:=λs Q E st hq=>(tG st.1 st.2).2 hh (by simp) λh' k=>hq h' s.toks λb o hb e=>k b o (λz=>hb (by simp[z])) e
 self:=λ_ _ _ _ st hq=>wpAny_pyIter_keyiter st.1 hq
def yl(lo:(d == sysModules)=false):YN prog w "dict" d d es.size (λi v=>∃e,es[i]?=some e/\v=e.key) (λh=>RawD h d es ep) where
 type:=λ_ m=>m.ty
 there:=(by rintro _ ⟨_,e,_⟩;exact ⟨PF e,PF e⟩)
 keep:=λ_ _ m hk=>m.at λo e=>hk d (.inl rfl) o e
 notList:=by decide
 notTuple:=by decide
 hint:=λ_ _ _ _ m q=>PySem.W.kdl_hint_dict m.ty q
 iter:=λ_ _ hh m=>⟨_,_,(λ_ _ q=>CS lo m q),yk hh _ d (by obtain⟨_,e,_⟩:=m;exact Qb (PF e)) es ep,⟨⟨_,PR _ rfl,rfl,rfl⟩,m.at λ_ e=>Pf _ e⟩⟩
end
def oB:∀ys:List (List a7×Addr×O6),Vals (ys.map (V.ref∘λy=>y.2.1)) (ys.map λy=>Qi y.2.1)
 |[]=>.nil
 |_ :: ys=>.cons rfl (oB ys)
def Iq{de:List (List a7×V)}{ys:List (List a7×Addr×O6)}(r:KT H de ys):Paired (λ(p:List a7×V) b=>H b=some (.tup (p.1.map kV))) de (ys.map λy=>y.2.1):=by
 induction r with
 |nil=>exact .nil
 |cons h t ih=>exact .cons h.2.1 ih
abbrev EL:List V->Hp->VK->Prop:=λxs H Q=>∃a de,xs=[.ref a]/\H a=some (.dT de)/\∀(l:Addr) (bs:List Addr),H l=none->Paired (λ(p:List a7×V) b=>H b=some (.tup (p.1.map kV))) de bs->Q (.ref l) (upd H l (.lst (bs.map V.ref)))
def vF{X:Cx} (hc:X.calm=true):e_ X (.type "list") EL:=by
 intro ξ s σ H xs us Q I r h;obtain⟨a,de,rfl,ha,q⟩:=h;obtain⟨u,rfl,ru⟩:=vals1 r;cases ru;obtain⟨z,lo,ys,kt,o,es,ep,ho,ex,dt,he,_,_⟩:=L4 I.hok ha;have sz:es.size=de.length:=by rw[<- P1,he,O0];exact(T0 kt).symm
 refine Yi (yl (es:=es) (ep:=ep) lo) (I.ok.hd hc) ⟨o,ho,ex,dt⟩ (by rw[sz];exact z) λh' tk acc c kp hl hit=>?_
 have Z_:acc.toList=ys.map λy=>Qi y.2.1:=by
  refine Sy λj=>?_
  by_cases lt:j<es.size
  .have hj:j<acc.toList.length:=by rw[P1];rw[hit.1];exact lt
   have e1:acc.toList[j]?=some acc.toList[j]:=O1 hj;obtain⟨e,ee,ev⟩:=hit.2 j acc.toList[j] (by rw[<- P3];exact e1);rw[e1,ev];rw[<- P3,he,O4] at ee;obtain⟨y,hy1,hy2⟩:=Pb.mp ee;rw[O4,hy1,<- hy2];rfl
  .rw[PY (by rw[P1,hit.1];lia),PY];rw[O0]
   have:=T0 kt
   lia
 have vals:Vals ((ys.map λy=>y.2.1).map V.ref) acc.toList:=by
  rw[Z_,Qz];exact oB ys
 have bH:Paired (λ(p:List a7×V) b=>H b=some (.tup (p.1.map kV))) de (ys.map λy=>y.2.1):=by
  exact Iq kt
 refine⟨.ref s.heap.objs.size,_,I.laid (t':=tk) kp (Pa _) (show b5 X.prog X.w _ h' _ (.lst ((ys.map λy=>y.2.1).map V.ref)) from⟨?_,acc.toList,c,vals,by rw[US];exact hl⟩),rfl,q _ _ (I.hok.fresh (Pa _)) bH⟩;rw[O0,O0,<- T0 kt];exact z
section
variable{X:Cx}{ξ:List (Addr×Obj)}{σ:St}{H:Hp}{s:Pe}{h':Heap}
def Inv.kW{t':Nat}{fp:List Addr}(I:Inv X ξ σ H s)(k:∀b o,b∉fp->s.heap.get? b=some o->h'.get? b=some o)(hf:∀b∈fp,ir X ξ H b):Inv X ξ σ H {s with heap:=h',toks:=t'}:=by
 have nit:∀b u,H b=some u->b∉fp:=λb u e z=>by
  have q:=(hf b z).1;rw[q] at e;cases e
 refine I.step (g':=s.gens) (d':=s.drawn) (ch:=fp) (λb hb=>⟨(hf b hb).2.2.2.1,(hf b hb).2.1,(hf b hb).2.2.2.2.1,(hf b hb).2.2.2.2.2⟩) (λb o _ _ hc e _=>k b o hc e) (λb o _ _ hc e _=>⟨o.slots,k b o hc e⟩) (λ_ _ _ _ n=>n)
  (λb o hc e=>⟨o,k b o hc e⟩) (λ_ _ e=>e) (λ_ _ _ e=>e) (λb ps e=>⟨#[],by rw[e,Xo]⟩) (λm hm=>?_) (λb u e=>?_) I.bare
 .obtain⟨o,es,ep,ho,r⟩:=hm;exact⟨o,es,ep,k _ o (λz=>(hf _ z).2.1 rfl) ho,r⟩
 .refine(I.hok b u e).stay (λc v hc q=>k c v ?_ q) (λ_ q=>q) λ_ _ q=>q
  rcases hc with z|z
  .rw[z];exact nit b u e
  .exact nit c _ z
end
end L2
local macro_rules | `(tactic| walk_at "zo")=>`(tactic| first|omega|(show(_:Nat)≠_;omega))
namespace L2
open PySem PySem.Spec PyProof.Rows
inductive Kn|L|T
abbrev Kn.sq(k:Kn)(K:Fg)(H:Hp)(a:Addr)(xs:List V):Prop:=match k with
 |.L=>SqL K H a xs
 |.T=>SqT K H a xs
abbrev Kn.it(k:Kn)(h:Heap)(i l:Addr)(j:Nat):Prop:=match k with
 |.L=>h.IsListIter i l j
 |.T=>h.IsTupleIter i l j
abbrev Kn.seq(k:Kn)(h:Heap)(l:Addr)(xs:Array O6):Prop:=match k with
 |.L=>h.IsList l xs
 |.T=>h.IsTuple l xs
abbrev Kn.obj(k:Kn)(l:Addr):Obj:=match k with
 |.L=>{cls:=.type "list_iterator",data:=.fields #[.ref l,.int 0 0]}
 |.T=>{cls:=.type "tuple_iterator",data:=.fields #[.ref l,.int 0 0]}
def Kn.itAt(k:Kn){h':Heap}{it:Addr}(t:k.it h it l j)(e:∀o,h.get? it=some o->h'.get? it=some o):k.it h' it l j:=by
 cases k
 .exact Heap.IsListIter.at t e
 .exact Heap.IsTupleIter.at t e
def Kn.Oa(k:Kn){it:Addr}(t:k.it h it l j):∃o,h.get? it=some o/\∀v,o.data≠.cell v:=by
 cases k <;> (obtain⟨o,e,_,d⟩:=t;exact⟨o,e,λv z=>by rw[d] at z;cases z⟩)
def Kn.Cd(k:Kn){h':Heap}(t:k.seq h l xs)(e:∀o,h.get? l=some o->h'.get? l=some o):k.seq h' l xs:=by
 cases k
 .exact Heap.IsList.at t e
 .obtain⟨o,a,b⟩:=t;exact⟨o,e o a,b⟩
def Kn.lt(k:Kn)(t:k.seq h l xs):l<h.objs.size:=by
 cases k <;> (obtain⟨o,a,_⟩:=t;exact PF a)
def Kn.inv{H:Hp}(k:Kn)(I:Inv X ξ σ H s)(q:k.sq X.K H a xs):∃gV:List O6,Vals xs gV/\k.seq s.heap a gV.toArray:=by
 cases k
 .obtain⟨gV,r,p,_⟩:=I.list q;exact⟨gV,r,p.isList⟩
 .obtain⟨gV,r,p,_⟩:=I.tuple q;exact⟨gV,r,p⟩
def Kn.inj{H:Hp}(k:Kn)(I:Inv X ξ σ H s)(q:k.sq X.K H a xs)(r:k.sq X.K H a ys):xs=ys:=by
 cases k
 .exact I.mI q r
 .exact I.nM q r
section
variable{prog:P6}{w:Qp}{A:Qt}{E:O6->Pe->Prop}{s:Pe}
def Kn.iter(k:Kn){Q:O6->Pe->Prop}(t:k.seq s.heap l xs)(q:Q (.ref s.heap.objs.size) {s with heap:=s.heap.push (k.obj l)}):wpAny (model prog w) A (pyIter (.ref l)) Q E s:=by
 cases k
 .exact VM t q
 .exact Vt t q
def Kn.it0(k:Kn)(h:Heap)(l:Addr):k.it (h.push (k.obj l)) h.objs.size l 0:=by
 cases k <;> exact⟨_,PR _ rfl,rfl,rfl⟩
def Kn.nx(k:Kn){it:Addr}{Q:O6->Pe->Prop}(t:k.it s.heap it l i)(q:k.seq s.heap l xs)(hi:∀x h',xs[i]?=some x->k.it h' it l (i+1)->RX it s.heap h'->Q x {s with heap:=h'})
  (he:xs[i]?=none->A.handled=none/\∀h' e,Yr it s.heap h'->(∃o,h'.get? e=some o/\o.cls=.type "StopIteration")->E (.ref e) {s with heap:=h'}):wpAny (model prog w) A (TQ (.ref it)) Q E s:=by
 cases k with
 |L=>cases hx:xs[i]? with
  |some x=>exact wpAny_nextOf_list_item t q hx λh'=>hi x h' hx
  |none=>exact wpAny_nextOf_list_end (he hx).1 t q hx (he hx).2
 |T =>
  obtain⟨o,ho,oc,od⟩:=id t;obtain⟨ol,hl,_,nl,dl⟩:=id q;unfold TQ;refine O5 (Ru (name:=Uq "__next__") t.typeIs Vy (Re Vy t.typeIs F.entry_tuple_iterator_next ?_ (F.args_tuple_iterator_next_1 _)));show wpAny _ _ (field (.ref it) 0 >>= _) _ _ s;refine O5 (UT ho od (x:=.ref l) rfl ?_);show wpAny _ _ (if (Qi l == Rs)=true then _ else _) _ _ s;rw[if_neg (show ¬ ((Qi l == Rs)=true) from PZ)];show wpAny _ _ (field (.ref it) 1 >>= _) _ _ s;refine O5 (UT ho od (x:=.int i 0) rfl ?_);show wpAny _ _ (seqItems? (.ref l) >>= _) _ _ s;refine O5 (Vz hl dl ?_);simp only[Qc];cases hx:xs[i]? with
  |some x =>
   exact O5 (SU ho od (by simp) (Pt ⟨x,rfl,Pt (hi x _ hx ⟨_,Q5 _ ho (Th (Rt od _)),(Ur ..).trans oc,by rw[Rt od];simp[rawInt]⟩ (QJ ..))⟩))
  |none =>
   refine O5 (Wm (O5 (SU ho od (by simp) ?_)));show wpAny _ _ (newExc (.type "StopIteration") [] >>= _) _ _ _;refine O5 ?_;simp only[newExc,newTuple];refine O5 (Q7 ?_ (by size_fits));refine O5 (m:=firstArgMember _ _) (VP (a:=Rs) (by simp only[firstArgMember];rfl) ?_);refine Q7 ?_ (by size_fits);simp only[raiseNew];refine O5 (Xj ?_);rw[show A.in1.handled=none from(he hx).1];exact O5 (Pt (Ys ((he hx).2 _ _ (((QJ ..).extBut.push _).push _) ⟨_,PR _ rfl,rfl⟩)))
def eW{α β:Type}{F:α->β->Prop}:∀{l:List α} {m:List β} {i:Nat} {x:α},Paired F l m->l[i]?=some x->∃y,m[i]?=some y/\F x y
 |_,_,0,_,.cons r _,e=>by cases e;exact⟨_,rfl,r⟩
 |_,_,i+1,x,.cons _ t,e=>eW (i:=i) t e
structure Mt (B:Nat) (ks:List (Kn×Addr)) (i:Nat) (f0:O6) (h:Heap):Prop where
 z:IsZip h (B+ks.length+2) (B+ks.length) (B+ks.length+1) f0
 c:h.get? (B+ks.length)=some {cls:=.type "tuple",data:=.seq ((Pi ks.length).map λj=>Qi (B+j)).toArray}
 o:∃a:Array O6,a.size=ks.length/\h.get? (B+ks.length+1)=some {cls:=.type "tuple",data:=.seq a}
 t:∀(j:Nat) (p:Kn×Addr),ks[j]?=some p->p.1.it h (B+j) p.2 i
structure Ox (B:Nat) (ks:List (Kn×Addr)) (us:List (Array O6)) (i j:Nat) (h0 h:Heap):Prop where
 sz:h.objs.size=h0.objs.size
 z:IsZip h (B+ks.length+2) (B+ks.length) (B+ks.length+1) .ellipsis
 o:∃a:Array O6,a.size=ks.length/\h.get? (B+ks.length+1)=some {cls:=.type "tuple",data:=.seq a}/\∀m<j,∃u:Array O6,us[m]?=some u/\a[m]? = u[i]?/\i<u.size
 t:∀(m:Nat) (p:Kn×Addr),ks[m]?=some p->p.1.it h (B+m) p.2 (if m<j then i+1 else i)
 k:∀c o,(c<B\/c=B+ks.length\/B+ks.length+2<c)->h0.get? c=some o->h.get? c=some o
def vM{ks:List (Kn×Addr)}{Q:Option O6->Pe->Prop}(ne:0<ks.length)(lz:ks.length<=sizeLine)(st:Mt B ks i .none s.heap)(sq:Paired (λ(p:Kn×Addr) (u:Array O6)=>p.2<B/\p.1.seq s.heap p.2 u) ks us)
  (hi:∀h' a,a.size=ks.length->(∀(m:Nat) (u:Array O6),us[m]?=some u->i<u.size/\a[m]? = u[i]?)->Mt B ks (i+1) (rawInt s.heap.objs.size) h'->h'.get? s.heap.objs.size=some {cls:=.type "tuple",data:=.seq a}->(∀c o,(c<B\/B+ks.length+2<c)->s.heap.get? c=some o->h'.get? c=some o)->Q (some (.ref s.heap.objs.size)) {s with heap:=h'})
  (he:∀u∈us,u.size<=i->A.handled=none/\∀h',(∀c o,(c<B\/B+ks.length+2<c)->s.heap.get? c=some o->h'.get? c=some o)->Q none {s with heap:=h'}):wpAny (model prog w) A (pyNext (.ref (B+ks.length+2))) Q E s:=by
 obtain⟨hz,hI,⟨a0,ha,hO⟩,ht⟩:=st;have ty:s.TypeIs (.ref (B+ks.length+2)) "zip":=⟨_,hz,rfl⟩
 unfold pyNext;refine O5 (UO (Ru (name:=Uq "__next__") ty F.slot_zip_next (Re F.slot_zip_next ty F.entry_zip_next ?_ (F.args_zip_next_1 _))));show wpAny _ _ (field (.ref (B+ks.length+2)) 2 >>= _) _ _ _;refine O5 (UT hz rfl (x:=.bool false) rfl ?_);show wpAny _ _ (field (.ref (B+ks.length+2)) 3 >>= _) _ _ _;refine O5 (UT hz rfl (x:=.ref (B+ks.length)) rfl (O5 (Vz hI rfl ?_)));have em : ¬ (((Pi ks.length).map λj=>Qi (B+j)).toArray.isEmpty=true):=λz=>by simp at z;rw[z] at ne;cases ne
 dsimp only;rw[if_neg em];refine O5 ?_;unfold RU.SmallTypes.ownedTupleIsFree;refine O5 (UT hz rfl (x:=.none) rfl (Pt ?_));simp only[if_true];have pl:=sq.length;refine O5 (Wm (O5 (UT hz rfl (x:=.ref (B+ks.length+1)) rfl (O5 (Uc hz (by simp) λh1 hz1 hs1=>?_)))));refine O5 (wpAny_forIn_list _ (λrest b s'=>∃j h,j<=ks.length/\rest=(((Pi ks.length).map λj=>Qi (B+j)).zipIdx).drop j/\b=(none,())/\s' = {s with heap:=h}/\Ox B ks us i j s.heap h) _ ?_ ?_ _ _ ⟨0,h1,Ql _,rfl,rfl,rfl,hs1.1,hz1,⟨a0,ha,hs1.extBut _ _ (by walk_at "zo") hO,λm z=>nomatch z⟩,λm p hp=>p.1.itAt (ht m p hp) λo=>hs1.extBut _ _ (by have:=(O3.mp hp).1;walk_at "zo"),λc o hc=>hs1.extBut _ _ (by walk_at "zo")⟩)
 .rintro x rest b s' ⟨j,h,le,e,rfl,rfl,M⟩;have lj:j<ks.length:=Xv le λz=>by rw[z,RC (by simp)] at e;cases e
  rw[VI (by simpa using lj)] at e;obtain⟨e1,e2⟩:=SK e;obtain rfl:x=(Qi (B+j),j):=by rw[e1];simp
  have hp:ks[j]?=some ks[j]:=O1 lj;obtain⟨u,hu,lu,sp⟩:=eW sq hp;have tj:=M.t j _ hp;rw[if_neg (R5 j)] at tj;show wpAny _ _ (((TQ (.ref (B+j)) >>= λv=>pure (some v)).onRaise _) >>= _) _ _ _;refine O5 (wpAny_onRaise (O5 (ks[j].1.nx tj (ks[j].1.Cd sp λo=>M.k _ o (.inl lu)) (λx h2 hx t2 ZW=>Pt ?_) λhx=>?_)))
  .obtain⟨a,ha,hO,hd⟩:=M.o;have hO2:=ZW.extBut _ _ (by walk_at "zo") hO;have sb:=QJ h2 (B+ks.length+1) (Ua (·.setIfInBounds j x));have kp:∀c o,c≠B+j->c≠B+ks.length+1->h.get? c=some o->_:=λc o c1 c2 e=>sb.extBut c o c2 (ZW.extBut c o c1 e)
   refine O5 (Vz hO2 rfl (O5 (wpAny_updateSeq hO2 rfl (O5 (wpAny_letGo (Pt ⟨j+1,_,lj,e2,rfl,rfl,?_,kp _ _ (by walk_at "zo") (by walk_at "zo") M.z,⟨a.setIfInBounds j x,by simpa using ha,?_,λm hm=>?_⟩,λm p hm=>?_,λc o hc e=>kp c o (by walk_at "zo") (by walk_at "zo") (M.k c o hc e)⟩))))))
   .rw[sb.1,ZW.1];exact M.sz
   .rw[Q5 _ hO2 rfl];simp[Ua]
   .rcases V0.mp hm with q|rfl
    .obtain⟨v,h1,h2,h3⟩:=hd m q;exact⟨v,h1,by rw[Array.getElem?_setIfInBounds_ne (by lia)];exact h2,h3⟩
    .exact⟨u,hu,by rw[Array.getElem?_setIfInBounds_self_of_lt (by lia),hx],(VA.mp hx).1⟩
   .have lm:=(O3.mp hm).1;by_cases q:m=j
    .subst q;rw[hp] at hm;cases hm;rw[if_pos (UH _)];exact ks[m].1.itAt t2 λo=>sb.extBut _ _ (by walk_at "zo")
    .rw[show(if m<j+1 then i+1 else i)=if m<j then i+1 else i by split <;> split <;> lia];exact p.1.itAt (M.t m p hm) λo=>kp _ _ (by walk_at "zo") (by walk_at "zo")
  .obtain⟨hh,q⟩:=he u (O7 hu) (Array.getElem?_eq_none_iff.mp hx);refine⟨hh,λh2 e ZW ω=>?_⟩;obtain⟨oe,hoe,hce⟩:=ω;have hz2:=ZW _ _ (by walk_at "zo") M.z;have ez:e≠B+ks.length+2:=λx=>by rw[x,hz2] at hoe;cases hoe;simp at hce
   refine Uc hz2 (by simp) λh3 _ hs3=>?_
   exact O5 (UG (T:="StopIteration") (b:=true) ⟨oe,hs3.extBut _ _ ez hoe,hce⟩ WT (Pt (q _ λc o hc e=>hs3.extBut _ _ (by walk_at "zo") (ZW _ _ (by walk_at "zo") (M.k c o (by walk_at "zo") e)))))
 .rintro b s' ⟨j,h,le,e,rfl,rfl,M⟩
  obtain rfl:j=ks.length:=by
   have:=congrArg Rg e
   simp at this;lia
  obtain⟨a,ha,hO,hd⟩:=M.o;refine O5 (Vz hO rfl (O5 (WU ?_ (by rw[P1,ha];exact lz))));show wpAny _ _ (TW (.ref (B+ks.length+2)) (.ref h.objs.size) >>= _) _ _ _;refine O5 ?_;unfold TW;have zl:=PF M.z;refine O5 (Uc (Pf _ M.z) (by simp) λh7 hz7 hs7=>Uc hz7 (by simp) λh8 hz8 hs8=>Pt ⟨_,rfl,?_⟩);have up:∀c o,c≠B+ks.length+2->h.get? c=some o->h8.get? c=some o:=λc o c1 e=>hs8.extBut _ _ c1 (hs7.extBut _ _ c1 (Pf _ e))
  have hT:=hs8.extBut _ _ (SZ zl) (hs7.extBut _ _ (SZ zl) (PR (o:={cls:=.type "tuple",data:=.seq a}) h rfl));show wpAny _ _ (pure (some (Qi h.objs.size))) _ _ _;rw[M.sz] at hT hz8 ⊢;refine Pt (hi h8 a ha (λm u hu=>?_) ⟨hz8,up _ _ (by walk_at "zo") (M.k _ _ (.inr (.inl rfl)) hI),⟨a,ha,up _ _ (by walk_at "zo") hO⟩,λm p hp=>p.1.itAt ?_ λo=>up _ o (by have:=(O3.mp hp).1;walk_at "zo")⟩ hT λc o hc e=>up c o (by walk_at "zo") (M.k c o (by walk_at "zo") e))
  .obtain⟨v,h1,h2,h3⟩:=hd m (by have:=(O3.mp hu).1;lia);rw[h1] at hu;cases hu;exact⟨h3,h2⟩
  .have:=M.t m p hp
   rwa [if_pos (O3.mp hp).1] at this
def Bk{Q:List O6->Pe->Prop}(sq:Paired (λ(p:Kn×Addr) (u:Array O6)=>p.1.seq s.heap p.2 u) ks us)
  (q:∀h':Heap,h'.objs.size=s.heap.objs.size+ks.length->(∀(j:Nat) (p:Kn×Addr),ks[j]?=some p->p.1.it h' (s.heap.objs.size+j) p.2 0)->(∀c o,s.heap.get? c=some o->h'.get? c=some o)->Q ((Pi ks.length).map λj=>Qi (s.heap.objs.size+j)) {s with heap:=h'}) :
  wpAny (model prog w) A (VB (ks.map λp=>.ref p.2)) Q E s:=by
 unfold VB
 refine O5 (wpAny_forIn_list _ (λrest b s'=>∃j h,j<=ks.length/\rest=(ks.map λp=>Qi p.2).drop j/\b=((Pi j).map λj=>Qi (s.heap.objs.size+j)).toArray/\s' = {s with heap:=h}/\h.objs.size=s.heap.objs.size+j /\
  (∀(m:Nat) (p:Kn×Addr),m<j->ks[m]?=some p->p.1.it h (s.heap.objs.size+m) p.2 0)/\∀c o,s.heap.get? c=some o->h.get? c=some o) _ ?_ ?_ _ _ ⟨0,s.heap,Ql _,rfl,rfl,rfl,rfl,(λm p z=>absurd z (Rq m)),λc o e=>e⟩)
 .rintro x rest b s' ⟨j,h,le,e,rfl,rfl,sz,t,kp⟩;have lj:j<ks.length:=Xv le λz=>by rw[z,RC (by simp)] at e;cases e
  rw[VI (by simpa using lj)] at e;obtain⟨e1,e2⟩:=SK e;obtain rfl:x=Qi ks[j].2:=by rw[e1];simp
  obtain⟨u,_,sp⟩:=eW sq (O1 lj);refine O5 (R_ (ks[j].1.iter (ks[j].1.Cd sp λo=>kp _ o) (Pt ⟨j+1,_,lj,e2,?_,rfl,?_,λm p hm hp=>?_,λc o e=>Pf _ (kp c o e)⟩)))
  .simp[Rr,sz]
  .simp[RP,sz];lia
  .rcases V0.mp hm with q|rfl
   .exact p.1.itAt (t m p q hp) λo=>Pf _
   .rw[O1 lj] at hp;cases hp;rw[<- sz];exact ks[m].1.it0 _ _
 .rintro b s' ⟨j,h,le,e,rfl,rfl,sz,t,kp⟩
  obtain rfl:j=ks.length:=by
   have:=congrArg Rg e
   simp at this;lia
  exact Pt (q h sz (λj p hp=>t j p (O3.mp hp).1 hp) kp)
def Ng{h:Heap}{n:Nat}{a b c:Obj}(sz:h.objs.size=n)(fa:a.isFreed=false)(fb:b.isFreed=false)(fc:c.isFreed=false):(h.push a).objs.size=n+1/\((h.push a).push b).objs.size=n+2 /\
  (((h.push a).push b).push c).get? n=some a/\(((h.push a).push b).push c).get? (n+1)=some b/\(((h.push a).push b).push c).get? (n+2)=some c/\∀x o,h.get? x=some o->(((h.push a).push b).push c).get? x=some o:=by
 have e1:(h.push a).objs.size=n+1:=by rw[RP,sz]
 have e2:((h.push a).push b).objs.size=n+2:=by rw[RP,e1]
 refine⟨e1,e2,?_,?_,?_,λx o e=>Pf _ (Pf _ (Pf _ e))⟩
 .rw[<- sz];exact Pf _ (Pf _ (PR _ fa))
 .rw[<- e1];exact Pf _ (PR _ fb)
 .rw[<- e2];exact PR _ fc
def Bj(ks:List (Kn×Addr)) (us:List (Array O6)):Meets (RU.«zip.__new__» ⟨.type "zip" :: ks.map λp=>.ref p.2,[]⟩) (λ_ R s=>ks.length<=sizeLine/\Paired (λ(p:Kn×Addr) (u:Array O6)=>p.1.seq s.heap p.2 u) ks us /\
  ∀h',Mt s.heap.objs.size ks 0 .none h'->(∀c o,s.heap.get? c=some o->h'.get? c=some o)->R (.ok (.ret (.ref (s.heap.objs.size+ks.length+2)))) {s with heap:=h'}) :=
 .of_wp λprog w A R s h=>by
  obtain⟨lz,sq,h⟩:=h;have hsub:=sub_zip;wp_walk using Bk sq;intro h' sz t kp;refine O5 (WU (O5 (WU (O5 ?_) (by simpa using lz))) (by simpa using lz));wp_walk;refine⟨_,rfl,?_⟩
  obtain⟨e1,e2,g1,g2,g3,kp2⟩:=Ng (h:=h') (a:={cls:=.type "tuple",data:=.seq ((Pi ks.length).map λj=>Qi (s.heap.objs.size+j)).toArray}) (b:={cls:=.type "tuple",data:=.seq (((Pi ks.length).map λj=>Qi (s.heap.objs.size+j)).map λ_=>Rs).toArray})
   (c:={cls:=.type "zip",data:=.fields #[.none,.bool false,.bool false,.ref (s.heap.objs.size+ks.length),.ref (s.heap.objs.size+ks.length+1)]}) sz rfl rfl rfl
  simp only[sz,e1,e2];exact h _ ⟨g3,g1,⟨_,by simp,g2⟩,λj p hp=>p.1.itAt (t j p hp) λo=>kp2 _ o⟩ λc o e=>kp2 c o (kp c o e)
end
abbrev M3(K:Fg)(ks:List (Kn×Addr)):It :=
 ⟨λi H=>∀p∈ks,∃xs,p.1.sq K H p.2 xs/\i<xs.length,λi H v H'=>∃T ys,H T=none/\v=.ref T/\H'=upd H T (.tup ys)/\Paired (λ(p:Kn×Addr) y=>∀xs,p.1.sq K H p.2 xs->xs[i]?=some y) ks ys,
  λi H=>∀p∈ks,∃xs,p.1.sq K H p.2 xs/\(i<xs.length->∃p∈ks,∃xs,p.1.sq K H p.2 xs/\xs.length<=i)⟩
def gI{α β:Type}{F:α->β->Prop}:∀{l:List α},(∀x∈l,∃y,F x y)->∃m,Paired F l m
 |[],_=>⟨[],.nil⟩
 |x :: l,h=>by
  obtain⟨y,hy⟩:=h x O8;obtain⟨m,hm⟩:=gI λz hz=>h z (O9 x hz)
  exact⟨y :: m,.cons hy hm⟩
def kr{α β:Type}{F:α->β->Prop}:∀{l:List α} {m:List β},Paired F l m->∀y∈m,∃x∈l,F x y
 |_,_,.cons r t,y,h=>by
  rcases Py.mp h with rfl|z
  .exact⟨_,O8,r⟩
  .obtain⟨x,hx,e⟩:=kr t y z;exact⟨x,O9 _ hx,e⟩
def sJ{X:Cx}{ξ:List (Addr×Obj)}{σ:St}{H:Hp}{s:Pe}(I:Inv X ξ σ H s){i:Nat}:∀{ks:List (Kn×Addr)} {us:List (Array O6)},Paired (λ(p:Kn×Addr) (u:Array O6)=>∃xs,p.1.sq X.K H p.2 xs/\Vals xs u.toList) ks us->(∀(m:Nat) (u:Array O6),us[m]?=some u->i<u.size) ->
  ∃ys vs,Paired (λ(p:Kn×Addr) y=>∀xs,p.1.sq X.K H p.2 xs->xs[i]?=some y) ks ys/\Vals ys vs/\vs.length=us.length/\∀(m:Nat) (u:Array O6),us[m]?=some u->vs[m]? = u[i]?
 |_,_,.nil,_=>⟨[],[],.nil,.nil,rfl,λm u e=>nomatch e⟩
 |p :: ks,u :: us,.cons ⟨xs,q,r⟩ t,h=>by
  obtain⟨ys,vs,h1,h2,h3,h4⟩:=sJ I t λm u e=>h (m+1) u e
  have l:=h 0 u rfl;have lx:i<xs.length:=by rw[r.length];exact l
  obtain⟨v,e1,e2⟩:=r.get (O1 lx);refine⟨xs[i] :: ys,v :: vs,.cons (λzs hz=>by rw[p.1.inj I hz q];exact O1 lx) h1,.cons e2 h2,congrArg (· + 1) h3,λm w e=>?_⟩;cases m with
  |zero=>cases e;exact e1.symm.trans (by simp)
  |succ m=>exact h4 m w e
def vV{K:Fg}{x1}{ks:List (Kn×Addr)}{B:Nat}(ne:0<ks.length)(lz:ks.length<=sizeLine)(lb:∀p∈ks,p.2<B):sD P w K (.Tuple elts x1 pos) (M3 K ks) (UU B (ks.length+3)) (B+ks.length+2) (λi h=>Mt B ks i .none h):=by
 have mem:∀{c:Nat},c∈UU B (ks.length+3)↔B<=c/\c<B+(ks.length+3):=λ{c}=>XT
 have out:∀{c:Nat},c∉UU B (ks.length+3)->c<B\/B+ks.length+2<c:=λ{c} hc=>by rw[mem] at hc;lia
 have obj:∀i h,Mt B ks i .none h->∀b∈UU B (ks.length+3),∃o,h.get? b=some o/\∀v,o.data≠.cell v:=λi h st b hb=>by
  obtain⟨b1,b2⟩:=mem.mp hb;by_cases c:b<B+ks.length
  .obtain⟨j,rfl⟩:=Nat.exists_eq_add_of_le b1;have lj:j<ks.length:=by lia
   exact ks[j].1.Oa (st.t j _ (O1 lj))
  .rcases (by lia:b=B+ks.length\/b=B+ks.length+1\/b=B+ks.length+2) with rfl|rfl|rfl
   .exact⟨_,st.c,λv q=>by cases (show Y6 _ _=W5 v from q)⟩
   .obtain⟨a,_,e⟩:=st.o;exact⟨_,e,λv q=>by cases (show Y6 _ _=W5 v from q)⟩
   .exact⟨_,st.z,λv q=>by cases (show Yo _=W5 v from q)⟩
 have us_of:∀{X:Cx} {ξ:List (Addr×Obj)} {σ:St} {H:Hp} {s:Pe},Inv X ξ σ H s->(∀p∈ks,∃xs,p.1.sq X.K H p.2 xs)->∃us:List (Array O6),Paired (λ(p:Kn×Addr) (u:Array O6)=>∃xs,p.1.sq X.K H p.2 xs/\Vals xs u.toList) ks us/\Paired (λ(p:Kn×Addr) (u:Array O6)=>p.2<B/\p.1.seq s.heap p.2 u) ks us:=λ{X ξ σ H s} I h=>by
  obtain⟨us,hu⟩:=gI (F:=λ(p:Kn×Addr) (u:Array O6)=>(∃xs,p.1.sq X.K H p.2 xs/\Vals xs u.toList)/\p.2<B/\p.1.seq s.heap p.2 u) λp hp=>by
   obtain⟨xs,q⟩:=h p hp;obtain⟨gV,r,z⟩:=p.1.inv I q;exact⟨gV.toArray,⟨xs,q,r⟩,lb p hp,z⟩
  exact⟨us,Paired.mapP hu λ_ _ z=>z.1,Paired.mapP hu λ_ _ z=>z.2⟩
 refine⟨mem.mpr (by lia),obj,λi h h' st kp=>⟨kp _ (mem.mpr (by lia)) _ st.z,kp _ (mem.mpr (by lia)) _ st.c,?_,λj p hp=>p.1.itAt (st.t j p hp) (kp _ (mem.mpr (by have:=(O3.mp hp).1;lia)))⟩,?_,?_,λ_ _ _ _ _ st q=>wpAny_pyIter_zip st.z q⟩
 .obtain⟨a,e,q⟩:=st.o;exact⟨a,e,kp _ (mem.mpr (by lia)) _ q⟩
 .intro X hP hw hK hc i ξ s σ H E I hf st hg;subst hP hw hK;obtain⟨us,u1,u2⟩:=us_of I λp hp=>let ⟨xs,q,_⟩:=hg p hp;⟨xs,q⟩
  refine vM ne lz st u2 (λh' a ha hu Z2 hT all=>⟨_,rfl,?_⟩) λu hm le=>?_
  .obtain⟨ys,vs,y1,y2,y3,y4⟩:=sJ I u1 λm u e=>(hu m u e).1
   obtain rfl:a=vs.toArray:=by
    refine Xw λm=>?_
    by_cases c:m<us.length
    .exact(hu m _ (O1 c)).2.trans ((y4 m _ (O1 c)).symm.trans (by simp))
    .rw[RZ (by rw[ha,u1.length];lia),Tj,PY (by lia)]
   refine wpAny_letOwnedTupleGo_zip Z2.z λh2 hz2 sb=>?_
   have nT:∀c∈UU B (ks.length+3),c≠s.heap.objs.size:=λc hc=>let ⟨_,q,_⟩:=obj i _ st c hc;Qb (PF q)
   have I1:Inv X ξ σ (upd H s.heap.objs.size (.tup ys)) {s with heap:=s.heap.push {cls:=.type "tuple",data:=.seq vs.toArray}} :=
    I.laid (t':=s.toks) (λb u e=>Pf _ e) (Pa _) ⟨by rw[<- y1.length];exact lz,vs,y2,TupD.new _ _⟩
   have up:∀c o,c∉UU B (ks.length+3)->(s.heap.push {cls:=.type "tuple",data:=.seq vs.toArray}).get? c=some o->h2.get? c=some o:=λc o hc e=>by
    have ncz:c≠B+ks.length+2:=λz=>hc (mem.mpr (by rw[z];lia))
    rcases WV e with⟨ec,eo⟩|e
    .rw[ec,eo];exact sb.extBut _ _ (by rw[<- ec];exact ncz) hT
    .exact sb.extBut _ _ ncz (all c o (out hc) e)
   refine⟨.ref s.heap.objs.size,_,Inv.kW (s:={s with heap:=s.heap.push {cls:=.type "tuple",data:=.seq vs.toArray}}) (t':=s.toks) I1 up λc hc=>⟨by rw[aE (nT c hc)];exact(hf c hc).1,(hf c hc).2⟩,rfl,⟨_,ys,I.hok.fresh (Pa _),rfl,rfl,y1⟩,⟨hz2,sb.extBut _ _ (by walk_at "zo") Z2.c,?_,λj p hp=>p.1.itAt (Z2.t j p hp) λo=>sb.extBut _ _ (by have:=(O3.mp hp).1;walk_at "zo")⟩,λc hc=>by rw[aE (nT c hc)];exact(hf c hc).1⟩;obtain⟨a,e,q⟩:=Z2.o;exact⟨a,e,sb.extBut _ _ (by walk_at "zo") q⟩
  .obtain⟨p,hp,xs,q,r⟩:=kr u1 u hm;obtain⟨ys,q',l⟩:=hg p hp;rw[p.1.inj I q' q,r.length] at l;exact absurd l (Nat.not_lt.mpr le)
 .intro X hP hw hK hc i ξ s σ H E I hf st hg;subst hP hw hK;obtain⟨us,u1,u2⟩:=us_of I λp hp=>let ⟨xs,q,_⟩:=hg p hp;⟨xs,q⟩
  refine vM ne lz st u2 (λh' a ha hu _ _ _=>?_) λu _ _=>⟨I.ok.hd hc,λh' all=>⟨rfl,I.kW (t':=s.toks) (λc o hc e=>all c o (out hc) e) hf⟩⟩
  have big:∀p∈ks,∀xs,p.1.sq X.K H p.2 xs->i<xs.length:=λp hp xs q=>by
   obtain⟨j,hj⟩:=P_ hp;obtain⟨u,e,ys,q',r⟩:=eW u1 hj;rw[p.1.inj I q q',r.length];exact(hu j u e).1
  obtain⟨p,hp⟩:=List.exists_mem_of_length_pos ne;obtain⟨xs,q,f⟩:=hg p hp;obtain⟨p',hp',ys,q',le⟩:=f (big p hp xs q);exact absurd (big p' hp' ys q') (Nat.not_lt.mpr le)
section
variable{X:Cx}
def nJ:∀{as:List (Kn×Addr)} {us:List O6},Vals (as.map λp=>V.ref p.2) us->us=as.map λp=>Qi p.2
 |[],_,.nil=>rfl
 |_ :: _,_,.cons r t=>by cases r;rw[nJ t];rfl
def vN{H:Hp}{x1}{R:It->Hp->Prop}{ks:List (Kn×Addr)}(I:Inv X ξ σ H s)(r:Vals (ks.map λp=>V.ref p.2) us)(ne:0<ks.length)(lz:ks.length<=sizeLine)(hs:∀p∈ks,∃xs,p.1.sq X.K H p.2 xs)(q:R (M3 X.K ks) H)
  (c1:checkTypeCall "zip" ⟨ks.map λp=>.ref p.2,[]⟩=pure ()) (c2:checkBuiltinCall "zip.__new__" ⟨.type "zip" :: ks.map λp=>.ref p.2,[]⟩=pure ()) (c3:∀o,argsOk "object.__init__" ⟨o :: ks.map λp=>.ref p.2,[]⟩) :
  wpAny (model X.prog X.w) X.A (call (.type "zip") us) (λv s1=>wpAny (model X.prog X.w) X.A (pyIter v) (Oz X ξ σ (.Tuple elts x1 tp) R) X.xe s1) X.xe s:=by
 rw[nJ r];obtain⟨vs,hv⟩:=gI (F:=λ(p:Kn×Addr) (u:Array O6)=>p.1.seq s.heap p.2 u) λp hp=>let ⟨xs,q⟩:=hs p hp;let ⟨gV,_,z⟩:=p.1.inv I q;⟨gV.toArray,z⟩
 refine callType_new F.called_zip (by decide) c1 c2 c3 F.entry_zip_new (Bj ks vs) ⟨lz,hv,λh' st kp=>⟨⟨_,st.z,rfl⟩,wpAny_pyIter_zip (s:={s with heap:=h'}) st.z ⟨_,_,_,_,H,rfl,I.kept (t':=s.toks) kp,vV ne lz λp hp=>?_,st,λc hc=>?_,q⟩⟩⟩
 .obtain⟨xs,q⟩:=hs p hp;obtain⟨gV,_,z⟩:=p.1.inv I q;exact p.1.lt z
 .have le:=(XT.mp hc).1;exact I.fpOk le (I.hok.fresh le)
def all2{α:Type}{F:α->Prop}{x y:α}(h1:F x)(h2:F y):∀z∈[x,y],F z:=UV.mpr ⟨h1,UV.mpr ⟨h2,nofun⟩⟩
def FD:bootBuiltins "zip"=some (.type "zip"):=by decide +kernel
nonrec abbrev FJ(K:Fg)(k1 k2:Kn)(a b:Addr):It:=M3 K [(k1,a),(k2,b)]
abbrev pA(K:Fg)(k1 k2:Kn)(ta:TA):TI:=λσ H R=>ta σ H λvs H1=>∃a b xs ys,vs=[.ref a,.ref b]/\k1.sq K H1 a xs/\k2.sq K H1 b ys/\R (FJ K k1 k2 a b) H1
def Km{x y:Expr} {ta:TA}  {x1} {p pos:Pos} (hg:Gl X "zip") (hm:X.mg "zip"=none) (ha:PA X [x,y] ta) (hs:starEach [x,y] X.env=[(false,eval x X.env),(false,eval y X.env)]:=by rfl) (ZW:starEach [y] X.env=[(false,eval y X.env)]:=by rfl) :
  PI X (.Tuple elts x1 tp) (.Call (.Name "zip" p) [x,y] [] pos) (pA X.K k1 k2 ta):=by
 intro ξ s σ H R I h;refine Call_ (eE I hg hm FD (QD (bf (ha pos ξ s σ H _ I h) λus s1 ω=>?_) (by rw[hs,ZW]) (by rw[ZW];rfl)));obtain⟨vs,H1,I1,r1,a,b,xs,ys,e,s1q,s2q,q⟩:=ω;subst e;exact vN (ks:=[(k1,a),(k2,b)]) I1 r1 (Vi _) aM (all2 ⟨xs,s1q⟩ ⟨ys,s2q⟩) q (F.typeCall_zip_2 _ _) (F.newCall_zip_2 _ _) λo=>F.args_object_init_3 o _ _
def vO{K:Fg}{k1 k2:Kn}{i n:Nat}(q1:k1.sq K H a xs)(q2:k2.sq K H b ys)(e1:n<=xs.length)(e2:n<=ys.length)(e3:xs.length=n\/ys.length=n):(i<n->(FJ K k1 k2 a b).go i H)/\(n<=i->(FJ K k1 k2 a b).stop i H)/\∀{v H'},(FJ K k1 k2 a b).yld i H v H'->∃T x y,H T=none/\v=.ref T/\H'=upd H T (.tup [x,y])/\xs[i]?=some x/\ys[i]?=some y:=by
 refine⟨λl=>all2 ⟨xs,q1,by lia⟩ ⟨ys,q2,by lia⟩,λl=>?_,λ⟨T,zs,h1,h2,h3,h4⟩=>?_⟩
 .have:∃p∈[(k1,a),(k2,b)],∃xs,p.1.sq K H p.2 xs/\xs.length<=i:=by
   rcases e3 with e|e
   .exact⟨_,.head _,xs,q1,by lia⟩
   .exact⟨_,.tail _ (.head _),ys,q2,by lia⟩
  exact all2 ⟨xs,q1,λ_=>this⟩ ⟨ys,q2,λ_=>this⟩
 .obtain _|⟨z1,_|⟨z2,_|_⟩⟩:=h4
  exact⟨T,_,_,h1,h2,h3,z1 xs q1,z2 ys q2⟩
end
section
variable{K:Fg}{te:TE}{σ:St}{Q:VK}{H:Hp}
abbrev Ez(g:TG)(n:Nat)(te:TE)(σ:St)(v:V)(H:Hp)(D:Addr)(m i:Nat)(Pv:Nat->Hp->Prop):Prop:=∀us:St,us.length=n->g v (us ++ σ) H λσ2 H2=>(∃us':St,us'.length=n/\σ2=us' ++ σ)/\te σ2 H2 (nB D m i Pv)
def um{k1 k2:Kn}{xs ys:List V}(h:∀D,H D=none->∃Pv:Nat->Hp->Prop,Pv 0 (upd H D (.lst []))/\(∀i H2,i<=min xs.length ys.length->Pv i H2->k1.sq K H2 a xs/\k2.sq K H2 b ys) /\
  (∀i x y H2 T,xs[i]?=some x->ys[i]?=some y->Pv i H2->H2 T=none->Ez g n te σ (.ref T) (upd H2 T (.tup [x,y])) D (min xs.length ys.length) i Pv)/\∀H2,Pv (min xs.length ys.length) H2->Q (.ref D) H2):sF (FJ K k1 k2 a b) n g te σ Q H:=by
 intro D nD;obtain⟨Pv,h0,hl,hs,hd⟩:=h D nD;refine⟨λi m H=>m=min xs.length ys.length-i/\i<=min xs.length ys.length/\Pv i H,⟨_,rfl,Ql _,h0⟩,?_⟩;rintro i m H ⟨rfl,hi,p⟩;obtain⟨q1,q2⟩:=hl i H hi p;obtain⟨g1,g2,g3⟩:=vO (i:=i) (n:=min xs.length ys.length) q1 q2 (by lia) (by lia) (by lia);by_cases Ad:i<min xs.length ys.length
 .refine .inr ⟨g1 Ad,λv H' y us hu=>?_⟩;obtain⟨T,x,z,nT,rfl,rfl,z1,z2⟩:=g3 y;exact hs i x z H T z1 z2 p nT us hu
 .obtain rfl:i=min xs.length ys.length:=by lia
  exact .inl ⟨g2 (Pa _),hd H p⟩
end
open PySem.W (Dat kqdOk)
def AccZ.cI{K:Fg}(A:AccZ K H0 l H ds)(r:Rz K H y d)(n:ds.length<sizeLine){Pv:Hp->Prop}(h:∀H2,AccZ K H0 l H2 (ds++[d])->Pv H2):I_ l Pv y H:=by
 obtain⟨xs,h1,h2⟩:=A.at_;refine⟨xs,h1,by rw[h2.length];exact n,h _ ⟨A.ag,A.new,xs++[y],L2.ag,?_⟩⟩;exact RzL.upd (h2.append (.cons r .nil)) h1
open PySem
section
variable{K:Fg}{σ:St}{H:Hp}{Q:VK}{te:TE}
def IA{wi:TI}(h:wi σ H λJ H1=>sF J n g te σ Q H1):fS wi n g te σ H Q:=h
def ND{k1 k2:Kn}{ta:TA}{R:It->Hp->Prop}(h:ta σ H λvs H1=>∃a b xs ys,vs=[.ref a,.ref b]/\k1.sq K H1 a xs/\k2.sq K H1 b ys/\R (FJ K k1 k2 a b) H1):pA K k1 k2 ta σ H R:=h
end
section
variable{K:Fg}{σ:St}{H:Hp}{Q:VK}{D:cu}{td ty tv te tk:TE}
def LD(h:tv σ H λv H1=>td σ H1 λx H2=>ty σ H2 λy H3=>∃a H4,x=.ref a/\DPut H3 a y v H4/\D.nx σ H4):oz td ty tv D σ H:=h
end
section
variable{X:Cx}{scope:Scope}
def Kz{elt iter tg:Expr}{pos:Pos}{wi:TI}{g:TG}{te:TE}{n:Nat}(ys M:List Str)(c:pX X.env.scope X.N M ys scope)(hc:X.calm=true)(hi:PI X tg iter wi)(hg:∀C s₀ H₀ fp ξ,PG (bq X ys M scope (jA scope X.env.cells) C s₀ H₀ fp ξ) tg g)(he:∀C s₀ H₀ fp ξ,PE (bq X ys M scope (jA scope X.env.cells) C s₀ H₀ fp ξ) elt te)
  (hn:ys.length=n:=by rfl) (hs:∀v,foldedSetIterable iter X.env v=pure v:=by intro _;rfl):PE X (.ListComp elt [⟨tg,iter,[],0⟩] scope pos) (fS wi n g te):=by
 subst hn;exact KA c hc hi hg he hs
end
section
variable{X:Cx}
abbrev Hq(K:Fg):List V->Hp->VK->Prop:=λxs H Q=>∃(a:Addr) (bs:List Bool),xs=[.ref a]/\SqL K H a (bs.map V.bl)/\Q (.bl (bs.all id)) H
def pN:∀{bs:List Bool} {us:List O6},Vals (bs.map V.bl) us->LSm.BoolsAre us bs
 |[],_,.nil=>.nil
 |b :: bs,_,.cons r rr=>by
  cases (show _=Wk b from r);exact .cons b (pN rr)
def uD{M:Model}{A:Qt}{E:O6->Pe->Prop}{H:Hp}{bs:List Bool}(d:Bool)(I:Inv X ξ σ H s)(q1:SqL X.K H a (bs.map V.bl))(hh:A.handled=none)(hM:M=model X.prog X.w)
  {Qr:Bool->O6->Pe->Prop} {f:(Nat->Bool)->Nat->Bool} {r:Bool} (hf:f (λi=>(bs[i]?).getD d) bs.length=r) (q:∀h' tk,Inv X ξ σ H {s with heap:=h',toks:=tk}->Qr r (.bool r) {s with heap:=h',toks:=tk}) :
  wpAny M A (pyIter (.ref a)) (λit s₂=>∃I fp wr n P St tr,it=.ref I/\XG X.prog X.w A I fp wr n P St/\St 0 s₂.heap/\TruthOf X.prog X.w A P tr/\∀h' tk,(∀b o,b∉wr->s₂.heap.get? b=some o->h'.get? b=some o)->Qr r (.bool (f tr n)) {s₂ with heap:=h',toks:=tk}) E s:=by
 subst hM;obtain⟨gV,rv,p,_⟩:=I.list q1;have hl:s.heap.IsList a gV.toArray:=p.isList;have hb:=pN rv;have Ad:a<s.heap.objs.size:=by obtain⟨_,e,_⟩:=hl;exact PF e
 refine VM hl ⟨s.heap.objs.size,[s.heap.objs.size,a],[s.heap.objs.size],gV.toArray.size,_,_,λi=>(bs[i]?).getD d,rfl,XG.list hh _ a (Qb Ad) gV.toArray,⟨⟨_,PR _ rfl,rfl,rfl⟩,hl.push _⟩,λi v s' Q' E' hP hQ=>?_,λh' tk hk=>?_⟩
 .obtain⟨b,e,rfl⟩:=hb.get i v (by simpa using hP);dsimp only at hQ;rw[e] at hQ;exact Ry hQ
 .rw[PM,hb.length,hf];exact q h' tk (I.kept (t':=tk) λb o e=>hk b o (λz=>absurd (PF e) (by rw[Po.mp z];exact R5 _)) (Pf _ e))
def Ej(hc:X.calm=true):e_ X (.builtin "all") (Hq X.K):=by
 intro ξ s σ H xs us Q I r h;obtain⟨a,bs,rfl,q1,q⟩:=h;obtain⟨u,rfl,ru⟩:=vals1 r;cases ru;refine call_all_walk (uD (f:=λtr n=>(Pi n).all tr) (r:=bs.all id) true I q1 (by have:=I.ok.hd hc;simpa using this) rfl (LSm.range_all bs) (Qr:=λ_ v s'=>EP X ξ σ Q v s') λh' tk I2=>⟨.bl _,H,I2,rfl,q⟩)
def Mn:bootBuiltins "all"=some (.builtin "all"):=by decide +kernel
end
section
variable{X:Cx}{ys M:List Str}{scope:Scope}{cl:List (Str×Addr)}{C:Addr}{s:Pe}{H:Hp}{fp:List Addr}{ξ:List (Addr×Obj)}{σ:St}
def KB{elt iter tg cn:Expr}{pos:Pos}{wi:TI}{g:TG}{tc:TT}{te:TE}{n:Nat}(ys M:List Str)(c0:pX X.env.scope X.N M ys scope)(hc:X.calm=true)(hi:PI X tg iter wi)(hg:∀C s₀ H₀ fp ξ,PG (bq X ys M scope (jA scope X.env.cells) C s₀ H₀ fp ξ) tg g)
  (ht:∀C s₀ H₀ fp ξ,PT (bq X ys M scope (jA scope X.env.cells) C s₀ H₀ fp ξ) cn tc) (he:∀C s₀ H₀ fp ξ,PE (bq X ys M scope (jA scope X.env.cells) C s₀ H₀ fp ξ) elt te)
  (hn:ys.length=n:=by rfl) (hs:∀v,foldedSetIterable iter X.env v=pure v:=by intro _;rfl):PE X (.ListComp elt [⟨tg,iter,[cn],0⟩] scope pos) (iN wi n g tc te):=by
 subst hn;exact λξ s σ H Q I h=>tN (c0.sc I.ok) hc hi hg (λC s₀ H₀ fp ξ=>Hs (ht C s₀ H₀ fp ξ)) he hs ξ s σ H Q I h
end
section
variable{K:Fg}{tc:TT}{te:TE}{σ:St}{Q:VK}{H:Hp}
def IB{wi:TI}(h:wi σ H λJ H1=>AW J n g tc te σ Q H1):iN wi n g tc te σ H Q:=h
abbrev OM(n i:Nat)(Pv:Nat->Hp->Prop):Hp->Prop:=λH2=>∃m',m'<n-i/\m'=n-(i+1)/\i+1<=n/\Pv (i+1) H2
abbrev Jf(g:TG)(n:Nat)(tc:TT)(te:TE)(σ:St)(v:V)(H:Hp)(D:Addr)(m i:Nat)(Pv:Nat->Hp->Prop):Prop:=∀us:St,us.length=n->g v (us ++ σ) H λσ2 H2=>(∃us':St,us'.length=n/\σ2=us' ++ σ)/\tc σ2 H2 λb H3=>if b=true then te σ2 H3 (nB D m i Pv) else OM m i Pv H3
def iG{n i:Nat}{Pv:Nat->Hp->Prop}(hi:i<n)(h:Pv (i+1) H2):OM n i Pv H2:=⟨n-(i+1),by lia,rfl,hi,h⟩
def Av{k1 k2:Kn}{xs ys:List V}(h:∀D,H D=none->∃Pv:Nat->Hp->Prop,Pv 0 (upd H D (.lst []))/\(∀i H2,i<=min xs.length ys.length->Pv i H2->k1.sq K H2 a xs/\k2.sq K H2 b ys) /\
  (∀i x y H2 T,xs[i]?=some x->ys[i]?=some y->Pv i H2->H2 T=none->Jf g n tc te σ (.ref T) (upd H2 T (.tup [x,y])) D (min xs.length ys.length) i Pv)/\∀H2,Pv (min xs.length ys.length) H2->Q (.ref D) H2):AW (FJ K k1 k2 a b) n g tc te σ Q H:=by
 intro D nD;obtain⟨Pv,h0,hl,hs,hd⟩:=h D nD;refine⟨λi m H=>m=min xs.length ys.length-i/\i<=min xs.length ys.length/\Pv i H,⟨_,rfl,Ql _,h0⟩,?_⟩;rintro i m H ⟨rfl,hi,p⟩;obtain⟨q1,q2⟩:=hl i H hi p;obtain⟨g1,g2,g3⟩:=vO (i:=i) (n:=min xs.length ys.length) q1 q2 (by lia) (by lia) (by lia);by_cases Ad:i<min xs.length ys.length
 .refine .inr ⟨g1 Ad,λv H' y us hu=>?_⟩;obtain⟨T,x,z,nT,rfl,rfl,z1,z2⟩:=g3 y;exact hs i x z H T z1 z2 p nT us hu
 .obtain rfl:i=min xs.length ys.length:=by lia
  exact .inl ⟨g2 (Pa _),hd H p⟩
end
section
variable{K:Fg}{te:TE}{σ:St}{Q:VK}{H:Hp}
def LL{bs:List Bool}(e:SqL K H a (bs.map V.bl))(h:Q (.bl (bs.all id)) H):Hq K [.ref a] H Q:=⟨a,bs,rfl,e,h⟩
def AccZ.bls{bs:List Bool}(A:AccZ K H0 l H (bs.map Yj)):SqL K H l (bs.map V.bl):=by
 obtain⟨xs,h1,h2⟩:=A.at_
 have:∀{vs:List V} {bs:List Bool},RzL K H vs (bs.map Yj)->vs=bs.map V.bl:=by
  intro vs bs
  induction bs generalizing vs with
  |nil=>intro h;cases h;rfl
  |cons b bs ih =>
   intro h;cases h with
   |cons h1 h2 =>
    cases h1;rw[ih h2];rfl
 rw[this h2] at h1;exact SqL.of h1
end
end L2
namespace Gd
abbrev gd(a b:Int):Int:=(W7 a b:Nat)
def zO(a b:Int):gd b (XU a b)=gd a b:=by
 unfold gd
 have e:XU a b=a+b*(-(WW a b)):=by
  rw[XV,Yt];lia
 rw[e,Int.gcd_add_mul_left_right,Int.gcd_comm]
def zQ{b:Int}(h:b≠0):(XU a b).natAbs<b.natAbs:=by
 rcases (by lia:0<b\/b<0) with p|p
 .have h1:=Ww a p;have h2:=Xx a p;lia
 .have e:XU a b = -(XU (-a) (-b)):=by
   rw[XV,XV,Int.neg_fdiv_neg];rw[Tx];lia
  have h1:=Ww (-a) (b:=-b) (by lia);have h2:=Xx (-a) (b:=-b) (by lia);lia
def II(a:Int):gd a 0=(a.natAbs:Int):=by
 unfold gd;rw[Int.gcd_zero_right]
def Fk(a:Int):(if a<0 then -a else a)=gd a 0:=by
 rw[II];split <;> lia
def ub{b:Int}(h:b≠0):0<gd a b:=by
 unfold gd
 have:W7 a b≠0:=λe=>h (Int.gcd_eq_zero_iff.mp e).2
 lia
def zP(a b:Int):0<=gd a b:=VC _
structure Low (top bottom q p:Int):Prop where
 pos:0<p
 low:gd q p=1
 worth:q*bottom=top*p
def oZ{b d:Int}(hb:b≠0)(hd:d=gd t b/\0<b\/d = - gd t b/\b<0):Low t b (WW t d) (WW b d):=by
 have gp:=ub (a:=t) hb;have d1:gd t b∣t:=Wc t b;have d2:gd t b∣b:=VQ t b;have e1:d∣t:=by rcases hd with⟨e,_⟩|⟨e,_⟩ <;> rw[e];exact d1;exact VR.mpr d1
 have e2:d∣b:=by rcases hd with⟨e,_⟩|⟨e,_⟩ <;> rw[e];exact d2;exact VR.mpr d2
 have d0:d≠0:=by rcases hd with⟨e,_⟩|⟨e,_⟩ <;> lia
 obtain⟨q,rfl⟩:=e1;obtain⟨p,rfl⟩:=e2;rw[T7 _ d0,T7 _ d0];refine⟨?_,?_,?_⟩
 .rcases hd with⟨e,z⟩|⟨e,z⟩
  .exact V1 z (by lia) |> λh=>h
  .have z':0<(-d)*p:=by rw[Tx];lia
   exact V1 z' (by lia)
 .have m:gd (d*q) (d*p)=(d.natAbs:Int)*gd q p:=by
   unfold gd;rw[We];simp
  have n:gd (d*q) (d*p)=(d.natAbs:Int):=by
   rcases hd with⟨e,z⟩|⟨e,z⟩ <;> lia
  rw[n] at m;have k:(d.natAbs:Int)*gd q p=(d.natAbs:Int)*1:=by lia
  exact TU (by lia) k
 .rw[<- Q1,R3 q d]
def mR{t d:Int}(h:d≠0)(hd:d∣t):(WW t d).natAbs<=t.natAbs:=by
 obtain⟨q,rfl⟩:=hd;rw[T7 _ h,P2];exact QN _ (by lia)
def mH{b d:Int}(hb:b≠0)(hd:d=gd t b/\0<b\/d = - gd t b/\b<0):(WW t d).natAbs<=t.natAbs/\(WW b d).natAbs<=b.natAbs:=by
 have gp:=ub (a:=t) hb;have d1:gd t b∣t:=Wc t b;have d2:gd t b∣b:=VQ t b;have d0:d≠0:=by rcases hd with⟨e,_⟩|⟨e,_⟩ <;> lia
 refine⟨mR d0 ?_,mR d0 ?_⟩
 .rcases hd with⟨e,_⟩|⟨e,_⟩ <;> rw[e];exact d1;exact VR.mpr d1
 .rcases hd with⟨e,_⟩|⟨e,_⟩ <;> rw[e];exact d2;exact VR.mpr d2
end Gd
namespace Fr
open PySem L2
abbrev nQ:Sp:=λvs H Q _=>∃a b:Int,vs=[.int a,.int b]/\Q (.int (Gd.gd a b)) H
abbrev JD:TS:=(aq (gR (aR (ar EK (aa 1) (tC (.int 0))))
 (aq (av (ar Hk (aa 0) (aa 1)) (al 2))
 (aq (av (aa 1) (al 0))
 (av (aa 2) (al 1)))))
 (aI (b_ J8 (ae (aa 0) aj))))
def JU(a b:Int)(H:Hp)(D:cu)(k:D.rt (.int (Gd.gd a b)) H):JD D [↥a,↥b,none] H:=by
 refine iy (λσ H'=>H'=H/\∃(i j:Int) (v:Option V),σ=[↥i,↥j,v]/\Gd.gd i j=Gd.gd a b)
  (λσ _=>match σ with | [_,↥j,_]=>j.natAbs|_=>0) ⟨rfl,a,b,none,rfl,rfl⟩ ?_ ?_
 .rintro σ H' ⟨rfl,i,j,v,rfl,e⟩;refine⟨_,rfl,rfl,_,rfl,LQ (λhj=>?_) (λhj=>?_)⟩
  .refine⟨_,rfl,_,rfl,_,_,rfl,rfl,hj,_,rfl,_,rfl,⟨rfl,j,i.fmod j,_,rfl,(Gd.zO i j).trans e⟩,?_⟩;exact Gd.zQ hj
  .subst hj;refine⟨_,rfl,_,rfl,?_⟩;rw[Gd.Fk,e];exact k
 .rintro σ H' R R' h ⟨v,e,sc,c,ec,q⟩;exact⟨v,e,sc,c,ec,h _ _ q⟩
open PySem.W (Dat kqdOk)
abbrev cellOf(ns:List Int)(k:Int):Int:=(ns[k.toNat]?).getD 0
abbrev c7(K:Fg):Sp:=λvs H Q _=>∃(a:Addr) (ns:List Int) (k:Int),vs=[.ref a,.int k]/\SqL K H a (ns.map V.int)/\0<=k/\Q (.int (cellOf ns k)) H
abbrev JE(K:Fg):TS:=(aq (a8 (aR (ar yn (aa 1) (b_ (cH K) (ae (aa 0) aj))))
 (aI (ar (bY K) (aa 0) (aa 1)))
 bw)
 (aI (tC (.int 0))))
def Hc{K:Fg}{ns:List Int}{k:Int}{D:cu}(hS:SqL K H a (ns.map V.int))(h0:0<=k)(q:D.rt (.int (cellOf ns k)) H):JE K D [⇑a,↥k] H:=by
 have el:(ns.map V.int).length=ns.length:=O0 _;refine⟨_,rfl,_,rfl,a,_,rfl,.inl hS,_,_,rfl,rfl,_,rfl,LR (λc=>?_) (λc=>?_)⟩
 .rw[el] at c;have hk:k.toNat<ns.length:=by lia
  have e:k=((k.toNat:Nat):Int):=by lia
  have z:cellOf ns k=ns[k.toNat]:=by
   unfold cellOf;rw[O1 hk];rfl
  have w:ur (ns.map V.int) ((k.toNat:Nat):Int)=some (.int ns[k.toNat]):=aO (by rw[O4];simp[hk]);rw[<- e] at w;rw[z] at q;exact⟨_,rfl,_,rfl,a,_,_,_,rfl,rfl,hS,w,q⟩
 .rw[el] at c
  have z:cellOf ns k=0:=by
   unfold cellOf;rw[PY (by lia)];rfl
  rw[z] at q;exact q
abbrev iO:Sp:=λvs H Q _=>∃i:Int,vs=[.int i]/\Q (.bl true) H
abbrev EF (K:Fg):TS:=(aI (BX (b_ (J7 K) (ae (aa 0) (ae (tC (.ty "int")) aj))) (JB (b_ (J7 K) (ae (aa 0) (ae (tC (.ty "bool")) aj))))))
def Ct{K:Fg}{D:cu}(q:D.rt (.bl true) H):EF K D [↥i] H :=
 ⟨_,rfl,_,_,_,_,rfl,TyOf.int i,Le,_,rfl,vj ⟨_,rfl,_,_,_,_,rfl,TyOf.int i,Lf,_,rfl,q⟩⟩
end Fr
namespace Kd
end Kd
namespace Ex0
end Ex0
namespace L2
open PySem PySem.SetTable
def f9{α:Type}(l:List α)(p:Nat)(x:α)(_hp:p<=l.length):insertAt l.toArray p x=(l.take p++x :: l.drop p).toArray:=by
 unfold insertAt;apply Array.ext';simp[List.extract_eq_take_drop];rw[Pc (by simp)]
def uQ{t:Rm}{l:List Nat}(hp:t.place=l.toArray)(hd:t.dummies = #[]){j:Nat}(h:j∉l):t.slot j=.empty:=by
 unfold Rm.slot;rw[hp,hd];show(if l.toArray[below l.toArray j]? == some j then _ else _)=_;rw[if_neg,if_neg]
 .simp[has,below,below.go]
 .intro e;exact h (O7 (by simpa using e))
def ua{α:Type}{l:List α}{p:Nat}(hp:p<=l.length)(x:α)(i:Nat):(l.take p++x :: l.drop p)[i]? = if i<p then l[i]? else if i=p then some x else l[i-1]?:=by
 have ht:(l.take p).length=p:=by rw[Px];lia
 by_cases h1:i<p
 .rw[if_pos h1,Qu (by lia),Xy,if_pos h1]
 .rw[if_neg h1,QG (by lia),ht];by_cases h2:i=p
  .rw[if_pos h2,h2,XW];rfl
  .rw[if_neg h2,show i-p=(i-p-1)+1 by lia,Uh,Xz];congr 1;lia
open PySem PySem.Spec PyProof.Rows
open PySem.W (Dat kqdP kqdOk)
section
variable{prog:P6}{w:Qp}{A:Qt}{R:Yc->Pe->Prop}{I:Addr}{fp wr:List Addr}{n:Nat}{P:Nat->O6->Prop}{St:Nat->Heap->Prop}
def Cc(W:XG prog w A.in1 I fp wr n P St)(S:Addr)(nS:S∉fp)(Z:Nat->Heap->Prop)(zk:∀i h h',Z i h->(∀b o,b∉wr->h.get? b=some o->h'.get? b=some o)->Z i h')
  (za:∀i v (s:Pe) (Q:Bool->Pe->Prop) (E:O6->Pe->Prop),i<n->P i v->Z i s.heap->(∀r h' tk,Z (i+1) h'->(∀b,b≠S->h'.get? b=s.heap.get? b)->Q r {s with heap:=h',toks:=tk})->wpAny (model prog w) A.in1 (setAdd S v) Q E s) :
  ∀(k i:Nat) (s:Pe),n-i=k->i<=n->St i s.heap->Z i s.heap->(∀h' tk,Z n h'->(∀b o,b∉S :: wr->s.heap.get? b=some o->h'.get? b=some o)->R (.ok (.ret .none)) {s with heap:=h',toks:=tk}) ->
   codeAny (model prog w) A (.builtin "set.update.loop" ⟨[.ref S,.ref I],[]⟩) R s:=by
 have nw:S∉wr:=λh=>nS (W.sub _ h)
 intro k
 induction k with
 |zero =>
  intro i s hk hi hst hz hR;obtain rfl:i=n:=by lia
  refine U7 Wf ?_;rw[UW Ui _];refine(show wpAny _ A.in1 (pyNext (.ref I) >>= _) _ _ s from O5 (W.done s _ _ hst λh' tk hm=>?_));refine(show wpAny _ A.in1 (ret Rs) _ _ _ from Pt (hR h' tk (zk _ _ _ hz hm) λb o hb e=>hm b o (λz=>hb (O9 _ z)) e))
 |succ k ih =>
  intro i s hk hi hst hz hR;have Ad:i<n:=by lia
  refine U7 Wf ?_;rw[UW Ui _];refine(show wpAny _ A.in1 (pyNext (.ref I) >>= _) _ _ s from O5 (W.item i s _ _ Ad hst λv h' tk hP hst' hm=>?_));refine(show wpAny _ A.in1 (holding [v] (setAdd S v) >>= _) _ _ _ from O5 (R_ (za i v _ _ _ Ad hP (zk _ _ _ hz hm) λr h2 tk2 z2 k2=>?_)));refine Pt ⟨plainId_quiet Ui _,ih (i+1) _ (by lia) Ad (W.frame _ _ _ hst' λb hb o e=>?_) z2 λh3 tk3 z3 k3=>hR h3 tk3 z3 λb o hb e=>?_⟩
  .exact(k2 b λz=>nS (z ▸ hb)).trans e
  .refine k3 b o hb ((k2 b λz=>hb (z ▸ O8)).trans (hm b o (λz=>hb (O9 _ z)) e))
end
namespace F
def sub_tuple_set:isSubtype (.type "tuple") (.type "set")=pure false:=by rw[Us];kernel_rfl
def sub_tuple_frozenset:isSubtype (.type "tuple") (.type "frozenset")=pure false:=by rw[Us];kernel_rfl
end F
section
variable{prog:P6}{w:Qp}{A:Qt}{E:O6->Pe->Prop}{s:Pe}
def Kn.walks(k:Kn)(hh:A.handled=none)(I ax:Addr)(ZR:ax≠I)(items:Array O6):XG prog w A I [I,ax] [I] items.size (λi v=>items[i]?=some v) (λi h=>k.it h I ax i/\k.seq h ax items):=by
 cases k
 .exact XG.list hh I ax ZR items
 .exact XG.tuple hh I ax ZR items
abbrev tt (led:Bool):Obj:={cls:=.type "set",dict:=none,data:=.set #[] 0 (.fresh 0 0 led)}
end
def Mi:bootBuiltins "set"=some (.type "set"):=by decide +kernel
open PySem PySem.Spec PyProof.Rows PySem.SetTable
abbrev Jn(K:Fg)(a:Addr):It :=
 ⟨λi H=>∃xs,SqL K H a xs/\i<xs.length,λi H v H'=>∃T x,H T=none/\v=.ref T/\H'=upd H T (.tup [.int i,x])/\∀xs,SqL K H a xs->xs[i]?=some x,λi H=>∃xs,SqL K H a xs/\xs.length<=i⟩
def vX{K:Fg}{x1}{a e it:Addr}(n1:e≠it)(n2:a≠it) :
  sD P w K (.Tuple elts x1 pos) (Jn K a) [e,it] e (λi h=>(∃old,IsEnum h e it (i:Int) old)/\h.IsListIter it a i) where
 mem:=by simp
 obj:=λi h ⟨⟨old,he⟩,t⟩ c hc=>by
  simp only[Py,Sc,or_false] at hc;rcases hc with rfl|rfl
  .exact⟨_,he,λv q=>by cases (show Yo _=W5 v from q)⟩
  .obtain⟨o,ho,_,d⟩:=t;exact⟨o,ho,λv q=>by rw[d] at q;cases q⟩
 keep:=(by rintro i h h' ⟨⟨old,he⟩,t⟩ kp;exact ⟨⟨old,kp e (by simp) _ he⟩,t.at λo z=>kp it (by simp) o z⟩)
 item:=by
  intro X hP hw hK hc i ξ s σ H E I hf ⟨⟨old,he⟩,t⟩ hg;subst hP hw hK;obtain⟨xs,q1,l1⟩:=hg;obtain⟨gV,r1,p,_⟩:=I.list q1;obtain⟨u1,e1,ru1⟩:=r1.get (O1 l1);refine wpAny_pyNext_enum_item he t p.isList (x:=u1) (by simpa using e1) n1 λh' he' t' hT sz all=>⟨_,rfl,?_⟩
  refine wpAny_letOwnedTupleGo_enum (s:={s with heap:=h',toks:=s.toks+1}) he' λh2 he2 sb=>?_
  have hfr:H s.heap.objs.size=none:=I.hok.fresh (Pa _)
  have nT:∀c∈[e,it],c≠s.heap.objs.size:=λc Z8=>by
   simp only[Py,Sc,or_false] at Z8;rcases Z8 with rfl|rfl
   .exact Qb (PF he)
   .obtain⟨o,ho,_⟩:=t;exact Qb (PF ho)
  have I1:Inv X ξ σ (upd H s.heap.objs.size (.tup [.int i,xs[i]])) {s with heap:=s.heap.push {cls:=.type "tuple",data:=.seq #[.int i s.toks,u1]}} :=
   I.laid (t':=s.toks) (λb u z=>Pf _ z) (Pa _) ⟨aM,[.int i s.toks,u1],.cons ⟨_,rfl⟩ (.cons ru1 .nil),TupD.new _ _⟩
  have I2:Inv X ξ σ (upd H s.heap.objs.size (.tup [.int i,xs[i]])) {s with heap:=h2,toks:=s.toks+1}:=Inv.kW (s:={s with heap:=s.heap.push {cls:=.type "tuple",data:=.seq #[.int i s.toks,u1]}}) (t':=s.toks+1) (fp:=[e,it]) I1 (λc o Z8 z=>by
   have c1:c≠e:=λx=>Z8 (by simp[x])
   have c2:c≠it:=λx=>Z8 (by simp[x])
   rcases WV z with⟨ec,eo⟩|z
   .rw[ec,eo];exact sb.extBut _ _ (nT e (by simp)).symm hT
   .exact sb.extBut _ _ c1 (all c o c1 c2 z)) λc Z8=>⟨by rw[aE (nT c Z8)];exact(hf c Z8).1,(hf c Z8).2⟩
  exact⟨.ref s.heap.objs.size,_,I2,rfl,⟨s.heap.objs.size,xs[i],hfr,rfl,rfl,λzs hz=>by rw[I.mI hz q1,O1 l1]⟩,⟨⟨_,he2⟩,t'.at λo z=>sb.extBut _ _ n1.symm z⟩,λc Z8=>by rw[aE (nT c Z8)];exact(hf c Z8).1⟩
 done:=by
  intro X hP hw hK hc i ξ s σ H E I hf ⟨⟨old,he⟩,t⟩ hg;subst hP hw hK;obtain⟨xs,q1,le⟩:=hg;obtain⟨gV,r1,p,_⟩:=I.list q1;have e1:=r1.length;exact wpAny_pyNext_enum_end (I.ok.hd hc) he t p.isList (by simp;lia) λh' all=>⟨rfl,I.kW (t':=s.toks) (λc o Z8 z=>all c o (λx=>Z8 (by simp[x])) z) hf⟩
 self:=λ_ _ _ _ _ st q=>let ⟨⟨_,he⟩,_⟩:=st;wpAny_pyIter_enum he q
abbrev ii(K:Fg)(ta:TA):TI:=λσ H R=>ta σ H λvs H1=>∃a xs,vs=[.ref a]/\SqL K H1 a xs/\R (Jn K a) H1
def pT:bootBuiltins "enumerate"=some (.type "enumerate"):=by decide +kernel
section
variable{X:Cx}
def HI{x:Expr} {ta:TA}  {x1} {p pos:Pos} (hg:Gl X "enumerate") (hm:X.mg "enumerate"=none) (ha:PA X [x] ta) (hs:starEach [x] X.env=[(false,eval x X.env)]:=by rfl) :
  PI X (.Tuple elts x1 tp) (.Call (.Name "enumerate" p) [x] [] pos) (ii X.K ta):=by
 intro ξ s σ H R I h;refine Call_ (eE I hg hm pT (QD (bf (ha pos ξ s σ H _ I h) λus s1 ω=>?_) (by rw[hs];rfl) (by rfl)));obtain⟨vs,H1,I1,r1,q1⟩:=ω;obtain⟨a,xs,e,sq,q⟩:=q1;subst e;obtain⟨u1,rfl,ra⟩:=vals1 r1;cases ra;obtain⟨gV,rv,p1,_⟩:=I1.list sq;have lt:a<s1.heap.objs.size:=by obtain⟨_,z,_⟩:=p1.isList;exact PF z
 refine call_enumerate_list p1.isList λh' he t sz kp=>?_
 refine wpAny_pyIter_enum (s:={s1 with heap:=h'}) he ?_;refine⟨s1.heap.objs.size+1,[s1.heap.objs.size+1,s1.heap.objs.size],_,_,H1,rfl,I1.kept (t':=s1.toks) kp,vX (Nat.succ_ne_self _) (Qb lt),⟨⟨_,he⟩,t⟩,λc hc=>?_,q⟩
 have le2:s1.heap.objs.size<=c:=by
  simp only[Py,Sc,or_false] at hc;rcases hc with rfl|rfl
  .exact WR _
  .exact Pa _
 exact I1.fpOk le2 (I1.hok.fresh le2)
end
section
variable{K:Fg}{te:TE}{tc:TT}{σ:St}{Q:VK}{H:Hp}{D:cu}
def LC{ta:TA}{R:It->Hp->Prop}(h:ta σ H λvs H1=>∃a xs,vs=[.ref a]/\SqL K H1 a xs/\R (Jn K a) H1):ii K ta σ H R:=h
def dB{xs:List V}{g:TG}{tb:TS}(Pv:Nat->St->Hp->Prop)(h0:Pv 0 σ H)(hl:∀i σ H,i<=xs.length->Pv i σ H->SqL K H a xs)
  (hs:∀i x σ H T,xs[i]?=some x->Pv i σ H->H T=none->g (.ref T) σ (upd H T (.tup [.int i,x])) λσ2 H2=>tb {D with nx:=Pv (i+1),ct:=Pv (i+1),bk:=D.nx} σ2 H2) (hd:∀σ H,Pv xs.length σ H->D.nx σ H):vL (Jn K a) g tb D σ H:=by
 refine⟨λi m σ H=>m=xs.length-i/\i<=xs.length/\Pv i σ H,⟨_,rfl,Ql _,h0⟩,?_⟩;rintro i m σ H ⟨rfl,hi,p⟩;have q:=hl i σ H hi p;by_cases Ad:i<xs.length
 .refine .inr ⟨⟨xs,q,Ad⟩,Pv (i+1),λσ' H' p'=>⟨xs.length-(i+1),by lia,rfl,Ad,p'⟩,λv H' y=>?_⟩;obtain⟨T,x,nT,rfl,rfl,z⟩:=y;exact hs i x σ H T (z xs q) p nT
 .have e:i=xs.length:=by lia
  subst e;exact .inl ⟨⟨xs,q,Pa _⟩,hd σ H p⟩
end
abbrev Hh:R2:=λx y H Q=>∃z i,x=.str z/\y=.int i/\(i=0\/i=1)/\Q (.str (if i=0 then V6 else z)) H
section
variable{X:Cx}
def HR:eJ X (binaryOp .Mult) Hh:=by
 intro ξ s σ H x y v u Q I rx ry h;obtain⟨z,i,rfl,rfl,hi,q⟩:=h;obtain⟨t,rfl⟩:=rx;obtain⟨t',rfl⟩:=ry;rcases hi with rfl|rfl
 .exact P.mul_str_none (by decide) (by decide) ⟨.str V6,H,I.tok _,⟨_,rfl⟩,q⟩
 .refine P.mul_str (by decide) (λ_ e=>by simp at e) (λ_ e=>by simp at e) ?_;rw[if_neg (by decide),if_pos (by simp)];exact⟨.str z,H,I,⟨_,rfl⟩,q⟩
def Lq{Q:VK}{z:Str}{i:Int}(hi:i=0\/i=1)(q:Q (.str (if i=0 then V6 else z)) H):Hh (.str z) (.int i) H Q:=⟨z,i,rfl,rfl,hi,q⟩
end
open PySem.W (Dat kqdOk kqdP kqdPs)
section
variable{K:Fg}{σ:St}{Q:VK}{H:Hp}{td ty:TE}{D:cu}
def LF(h:td σ H λx H1=>ty σ H1 λy H2=>∃a v,x=.ref a/\DGet H2 a y (some v)/\Q v H2):qH td ty σ H Q:=h
def DN(h:ty σ H λy H1=>td σ H1 λx H2=>∃a o,x=.ref a/\DGet H2 a y o/\Q (.bl (!o.isSome)) H2):qG ty td σ H Q:=h
def Iz(h:td σ H λx H1=>∃a,x=.ref a/\OB H1 a/\ty σ H1 λy H2=>∃o,DGet H2 a y o/\Q (o.getD .non) H2):xl td ty σ H Q:=h
end
section
variable{K:Fg}{te:TE}{tc:TT}{σ:St}{Q:VK}{H:Hp}
def vE{xs:List V}(h:∀D,H D=none->∃Pv:Nat->Hp->Prop,Pv 0 (upd H D (.lst []))/\(∀i H2,i<=xs.length->Pv i H2->SqL K H2 a xs)/\(∀i x H2,xs[i]?=some x->Pv i H2->Jf g n tc te σ x H2 D xs.length i Pv)/\∀H2,Pv xs.length H2->Q (.ref D) H2):AW (uz K a) n g tc te σ Q H:=by
 intro D nD;obtain⟨Pv,h0,hl,hs,hd⟩:=h D nD;refine⟨λi m H=>m=xs.length-i/\i<=xs.length/\Pv i H,⟨_,rfl,Ql _,h0⟩,?_⟩;rintro i m H ⟨rfl,hi,p⟩;have q:=hl i H hi p;by_cases Ad:i<xs.length
 .refine .inr ⟨⟨xs,xs[i],q,O1 Ad⟩,λv H' y us hu=>?_⟩;obtain⟨rfl,z⟩:=y;exact hs i v _ (z xs q) p us hu
 .have e:i=xs.length:=by lia
  subst e;exact .inl ⟨⟨xs,q,Pa _⟩,hd H p⟩
def kF{xs:List V}(h:∀D,H D=none->∃Pv:Nat->Hp->Prop,Pv 0 (upd H D (.lst []))/\(∀i H2,i<=xs.length->Pv i H2->SqL K H2 a xs) /\
  (∀i x H2 T,xs[i]?=some x->Pv i H2->H2 T=none->Jf g n tc te σ (.ref T) (upd H2 T (.tup [.int i,x])) D xs.length i Pv)/\∀H2,Pv xs.length H2->Q (.ref D) H2):AW (Jn K a) n g tc te σ Q H:=by
 intro D nD;obtain⟨Pv,h0,hl,hs,hd⟩:=h D nD;refine⟨λi m H=>m=xs.length-i/\i<=xs.length/\Pv i H,⟨_,rfl,Ql _,h0⟩,?_⟩;rintro i m H ⟨rfl,hi,p⟩;have q:=hl i H hi p;by_cases Ad:i<xs.length
 .refine .inr ⟨⟨xs,q,Ad⟩,λv H' y us hu=>?_⟩;obtain⟨T,x,nT,rfl,rfl,z⟩:=y;exact hs i x H T (z xs q) p nT us hu
 .have e:i=xs.length:=by lia
  subst e;exact .inl ⟨⟨xs,q,Pa _⟩,hd H p⟩
end
def kg:∀{ns:List Int} {us:List O6},Vals (ns.map V.int) us->∃l:List (Int×Tok),us=l.map (λp=>Tf p.1 p.2)/\l.map (·.1)=ns
 |[],_,.nil=>⟨[],rfl,rfl⟩
 |n :: ns,_,.cons r rr=>by
  obtain⟨t,rfl⟩:=r;obtain⟨l,e1,e2⟩:=kg rr;exact⟨(n,t) :: l,by rw[e1];rfl,by rw[<- e2];rfl⟩
section
variable{X:Cx}
def Ml:bootBuiltins "max"=some (.builtin "max"):=by decide +kernel
end
end L2
namespace Rk
abbrev pt(r:List Int)(p:Nat):Int:=r.getD p 0
abbrev bC:List Int->List (List Int)->Nat->Int
 |a :: as,r :: rs,p=>a*pt r p+bC as rs p
 |_,_,_=>0
abbrev dO(R:List (List Int)):Prop:=∀a:List Int,a.length=R.length->(∀p,bC a R p=0)->∀c∈a,c=0
def mU(a:List Int)(p:Nat):bC a [] p=0:=by cases a <;> rfl
def gO:∀{a:List Int} {R:List (List Int)} (b:List Int) (S:List (List Int)) (p:Nat),a.length=R.length->bC (a++b) (R++S) p=bC a R p+bC b S p
 |[],[],b,S,p,_=>by simp[bC]
 |x :: a,r :: R,b,S,p,h=>by
  have ih:=gO (a:=a) (R:=R) b S p (by simpa using h);show x*pt r p+bC (a++b) (R++S) p=(x*pt r p+bC a R p)+bC b S p;rw[ih,Int.add_assoc]
def eY(k:Int):∀(a:List Int) (R:List (List Int)) (p:Nat),bC (a.map λx=>k*x) R p=k*bC a R p
 |[],R,p=>by cases R <;> simp[bC]
 |x :: a,[],p=>by simp[bC]
 |x :: a,r :: R,p=>by
  have ih:=eY k a R p;show k*x*pt r p+bC (a.map λx=>k*x) R p=k*(x*pt r p+bC a R p);rw[ih,SA,Q1]
def split_len{a:List Int}{R S:List (List Int)}(h:a.length=(R++S).length):∃b c,a=b++c/\b.length=R.length/\c.length=S.length:=by
 refine⟨a.take R.length,a.drop R.length,(Tk _ _).symm,?_,?_⟩
 .rw[Px,h,Pm];lia
 .rw[Rc,h,Pm];lia
abbrev jQ(Zg:List Int)(p:Nat)(r:List Int):List Int:=TH (λone kh=>one*pt Zg p-pt r p*kh) r Zg
def yr{Zg r:List Int}(h:r.length=Zg.length):pt (jQ Zg p r) q=pt r q*pt Zg p-pt r p*pt Zg q:=by
 unfold pt jQ;rw[O2,Tl,O2 (l:=r) (i:=q),O2 (l:=Zg) (i:=q)];by_cases l:q<r.length
 .rw[O1 l,O1 (by lia)];rfl
 .rw[PY (by lia),PY (by lia)];simp
abbrev Wide(w:Nat)(R:List (List Int)):Prop:=∀r∈R,r.length=w
def mW{Zg r:List Int}(h:r.length=Zg.length):(jQ Zg p r).length=Zg.length:=by
 unfold jQ;rw[Xa];lia
def Ah:∀(a b:List Int) (R:List (List Int)) (p:Nat),a.length=b.length->bC (TH (· + ·) a b) R p=bC a R p+bC b R p
 |[],[],R,p,_=>by cases R <;> simp[bC]
 |x :: a,y :: b,[],p,_=>by simp[bC]
 |x :: a,y :: b,r :: R,p,h=>by
  have ih:=Ah a b R p (by simpa using h);show(x+y)*pt r p+bC (TH (· + ·) a b) R p=(x*pt r p+bC a R p)+(y*pt r p+bC b R p)
  rw[ih,UX];lia
def kC{S T:List (List Int)}{d:List Int}{c G:Int}(ld:d.length=S.length)(hc:c≠0)(hG:G≠0)(e:∀q,G*pt s q=c*pt r q+bC d S q)(h:dO (S++r :: T)):dO (S++s :: T):=by
 intro a la ha;obtain⟨a1,a',rfl,l1,l'⟩:=split_len la;obtain⟨x,a2,rfl⟩:∃x a2,a'=x :: a2:=SV (by rw[l'];simp);have l2:a2.length=T.length:=by simpa using l'
 have at_:∀q,bC a1 S q+(x*pt s q+bC a2 T q)=0:=λq=>by
  have:=ha q
  rw[gO _ _ _ l1] at this;exact this
 have h':=h (TH (· + ·) (a1.map λy=>G*y) (d.map λy=>x*y)++(x*c) :: a2.map λy=>G*y) (by simp[l1,l2,ld]) λq=>by
  rw[gO _ _ _ (by simp[l1,ld])];show bC (TH (· + ·) (a1.map λy=>G*y) (d.map λy=>x*y)) S q+(x*c*pt r q+bC (a2.map λy=>G*y) T q)=0;rw[Ah _ _ _ _ (by simp[l1,ld]),eY,eY,eY];have e1:=at_ q;have e2:=e q;have e3:G*(bC a1 S q+(x*pt s q+bC a2 T q))=0:=by rw[e1,R4]
  rw[SA,SA] at e3;have e4:G*(x*pt s q)=x*(c*pt r q+bC d S q):=by rw[<- e2,<- Q1,<- Q1,R3 G x]
  rw[e4,SA] at e3;have e5:x*(c*pt r q)=x*c*pt r q:=by rw[Q1]
  lia
 have x0:x=0:=by
  have:=h' (x*c) (PB _ O8)
  exact(QL.mp this).resolve_right hc
 have a20:∀y∈a2,y=0:=λy hy=>by
  have:=h' (G*y) (PB _ (O9 _ (Pl.mpr ⟨y,hy,rfl⟩)))
  exact(QL.mp this).resolve_left hG
 have a10:∀y∈a1,y=0:=λy hy=>by
  obtain⟨i,hi,rfl⟩:=QE.mp hy
  have m:G*a1[i]+x*d[i]'(by lia)∈TH (· + ·) (a1.map λy=>G*y) (d.map λy=>x*y):=by
   refine QE.mpr ⟨i,by simp;lia,by simp⟩
  have:=h' _ (PK _ m)
  rw[x0,RL,SB] at this;exact(QL.mp this).resolve_left hG
 intro y hy;rcases Pz.mp hy with z|z
 .exact a10 y z
 .rcases Py.mp z with rfl|z
  .exact x0
  .exact a20 y z
def pD{S T:List (List Int)}{d:List Int}{c G:Int}(ld:d.length=S.length)(hc:c≠0)(hG:G≠0)(e:∀q,G*pt s q=c*pt r q+bC d S q):dO (S++r :: T)↔dO (S++s :: T) :=
 ⟨kC ld hc hG e,kC (d:=d.map λy=>(-1)*y) (by simp[ld]) hG hc λq=>by rw[eY];have:=e q;lia⟩
abbrev Eqv(F S:List (List Int)):Prop:=∀T,dO (F++T)↔dO (S++T)
def Eqv.snoc{d:List Int}{c G:Int}(h:Eqv F S)(ld:d.length=S.length)(hc:c≠0)(hG:G≠0)(e:∀q,G*pt s q=c*pt r q+bC d S q):Eqv (F++[r]) (S++[s]):=λT=>by
 rw[QF,QF,h,Uy,Uy];exact pD ld hc hG e
inductive cy:List (List Int)->List Nat->Prop
 |nil:cy [] []
 |cons {s:List Int} {p:Nat} {S:List (List Int)} {ps:List Nat}:pt s p≠0->(∀t∈S,pt t p=0)->cy S ps->cy (s :: S) (p :: ps)
def cy.snoc{s:List Int}{p:Nat}:∀{S:List (List Int)} {ps:List Nat},cy S ps->(∀q∈ps,pt s q=0)->pt s p≠0->cy (S++[s]) (ps++[p])
 |_,_,.nil,_,h=>.cons h (by simp) .nil
 |_,_,.cons (s:=t) (p:=q) h1 h2 r,z,h=>.cons h1 (λu hu=>by
   rcases Pz.mp hu with m|m
   .exact h2 u m
   .rw[Po.mp m];exact z q O8) (cy.snoc r (λq hq=>z q (O9 _ hq)) h)
def kn{x:List Int}:∀{S:List (List Int)} {ps:List Nat},cy S ps->(∀q∈ps,pt x q=0)->(dO (S++[x])↔∃q,pt x q≠0)
 |[],[],.nil,_=>by
  constructor
  .intro h;by_cases z:∃q,pt x q≠0
   .exact z
   .have:=h [1] rfl (λp=>by
     show 1*pt x p+bC [] [] p=0
     have:pt x p=0:=Decidable.byContradiction λy=>z ⟨p,y⟩
     rw[this];rfl) 1 O8
    cases this
  .rintro⟨q,hq⟩ a la ha c hc;obtain⟨y,rfl⟩:∃y,a=[y]:=RY.mp la
   have:=ha q
   have e:y*pt x q+0=0:=this;rw[SB] at e;rw[Po.mp hc];exact(QL.mp e).resolve_right hq
 |s :: S,p :: ps,.cons h1 h2 r,z=>by
  have ih:=kn r λq hq=>z q (O9 _ hq)
  have zp:∀t∈S++[x],pt t p=0:=λt ht=>by
   rcases Pz.mp ht with m|m
   .exact h2 t m
   .rw[Po.mp m];exact z p O8
  have nought:∀(b:List Int) (R:List (List Int)),(∀t∈R,pt t p=0)->bC b R p=0:=by
   intro b
   induction b with
   |nil=>intro R _;cases R <;> rfl
   |cons c b ihb =>
    intro R hR;cases R with
    |nil=>rfl
    |cons t R =>
     show c*pt t p+bC b R p=0;rw[hR t O8,ihb R λt ht=>hR t (O9 _ ht)];lia
  rw[<- ih];constructor
  .intro h a la ha c hc
   exact h (0 :: a) (by simp[la]) (λq=>by
    show 0*pt s q+bC a (S++[x]) q=0
    rw[ha q];lia) c (O9 _ hc)
  .intro h a la ha;obtain⟨y,b,rfl⟩:∃y b,a=y :: b:=SV (by rw[la];simp);have at_:∀q,y*pt s q+bC b (S++[x]) q=0:=ha
   have y0:y=0:=by
    have:=at_ p
    rw[nought b _ zp,SB] at this;exact(QL.mp this).resolve_right h1
   have:=h b (by simpa using la) λq=>by
    have:=at_ q
    rw[y0] at this;lia
   intro c hc;rcases Py.mp hc with rfl|hc
   .exact y0
   .exact this c hc
structure Clrd (S:List (List Int)) (ps:List Nat) (x x':List Int):Prop where
 made:∃(d:List Int) (c G:Int),d.length=S.length/\c≠0/\G≠0/\∀q,G*pt x' q=c*pt x q+bC d S q
 nought:∀q∈ps,pt x' q=0
 len:x'.length=x.length
def Clrd.snoc{z s:List Int}{p:Nat}{g:Int}(h:Clrd S ps x y)(st:cy (S++[s]) (ps++[p]))(lp:S.length=ps.length)(ls:y.length=s.length)(hg:g≠0)(lz:z.length=y.length)(ez:∀q,g*pt z q=pt (jQ s p y) q):Clrd (S++[s]) (ps++[p]) x z:=by
 obtain⟨d,c,G,ld,hc,hG,e⟩:=h.made
 have sp:pt s p≠0:=by
  have:∀{S:List (List Int)} {ps:List Nat},cy (S++[s]) (ps++[p])->S.length=ps.length->pt s p≠0:=by
   intro S
   induction S with
   |nil =>
    intro ps st l
    have:ps=[]:=Q9.mp l.symm
    subst this;cases st with
    |cons h _ _=>exact h
   |cons t S ih =>
    intro ps st l;cases ps with
    |nil=>simp at l
    |cons q ps =>
     cases st with
     |cons _ _ r=>exact ih r (by simpa using l)
  exact this st lp
 have s0:∀q∈ps,pt s q=0:=by
  have:∀{S:List (List Int)} {ps:List Nat},cy (S++[s]) (ps++[p])->S.length=ps.length->∀q∈ps,pt s q=0:=by
   intro S
   induction S with
   |nil =>
    intro ps st l q hq
    have:ps=[]:=Q9.mp l.symm
    subst this;cases hq
   |cons t S ih =>
    intro ps st l q hq;cases ps with
    |nil=>simp at l
    |cons q0 ps =>
     cases st with
     |cons _ h2 r =>
      rcases Py.mp hq with rfl|hq
      .exact h2 s (PB _ (Po.mpr rfl))
      .exact ih r (by simpa using l) q hq
  exact this st lp
 have ec:∀q,g*pt z q=pt y q*pt s p-pt y p*pt s q:=λq=>by rw[ez q,yr ls]
 have zero:∀q,pt y q*pt s p-pt y p*pt s q=0->pt z q=0:=λq h0=>by
  have:=ec q
  rw[h0] at this;exact(QL.mp this).resolve_left hg
 refine⟨⟨(d.map λv=>pt s p*v)++[-(G*pt y p)],pt s p*c,G*g,by simp[ld],λw=>?_,λw=>?_,λq=>?_⟩,λq hq=>?_,by rw[lz,h.len]⟩
 .rcases QL.mp w with w|w
  .exact sp w
  .exact hc w
 .rcases QL.mp w with w|w
  .exact hG w
  .exact hg w
 .rw[gO _ _ _ (by simp[ld]),eY];show G*g*pt z q=pt s p*c*pt x q+(pt s p*bC d S q+(-(G*pt y p)*pt s q+0))
  have e1:=e q;rw[Q1,ec q,WX,SB,Tx];have a1:G*(pt y q*pt s p)=pt s p*(c*pt x q+bC d S q):=by rw[<- e1,<- Q1,R3]
  have a2:G*(pt y p*pt s q)=G*pt y p*pt s q:=by rw[Q1]
  have a3:pt s p*(c*pt x q+bC d S q)=pt s p*c*pt x q+pt s p*bC d S q:=by rw[SA,Q1]
  lia
 .rcases Pz.mp hq with m|m
  .refine zero q ?_;rw[h.nought q m,s0 q m];simp
  .rw[Po.mp m];refine zero p ?_;lia
def Clrd.start{x:List Int}:Clrd [] [] x x:=⟨⟨[],1,1,rfl,by decide,by decide,λq=>by simp[bC]⟩,by simp,rfl⟩
def Aw(E:Eqv F S)(st:cy S ps)(c:Clrd S ps x x'):dO (F++[x])↔∃q,pt x' q≠0:=by
 obtain⟨d,c0,G,ld,hc,hG,e⟩:=c.made;rw[E [x]];rw[pD (T:=[]) ld hc hG e];exact kn st c.nought
end Rk
namespace Dn
open Rk
nonrec abbrev Tp:=List Int×List Int
abbrev pJ(t:Tp)(c:List Int):Bool:=(Q_ t.1 c).all λz=>decide (z.1<=z.2)
abbrev beh(t:Tp)(c:List Int):List Int:=(Pi c.length).map λk=>pt c k-pt t.1 k+pt t.2 k
end Dn
namespace L2
open PySem PySem.Spec PyProof.Rows
open PySem.W (Dat KasT kas_sort kas_ask)
section
variable{X:Cx}
def AJ:bootBuiltins "sorted"=some (.builtin "sorted"):=by decide +kernel
end
def kU(a b c:O6):checkTypeCall "zip" ⟨[a,b,c],[]⟩=pure ():=by kernel_rfl
def oV(a b c:O6):checkBuiltinCall "zip.__new__" ⟨[.type "zip",a,b,c],[]⟩=pure ():=by kernel_rfl
def sw(a b c d:O6):argsOk "object.__init__" ⟨[a,b,c,d],[]⟩:=by
 unfold argsOk;rw[signature?_of (id:="object.__init__") (n:=['_','_','t','i','n','i','_','_']) (o:=['t','c','e','j','b','o']) (by kernel_rfl) PySem.F.owner_object];kernel_rfl
nonrec abbrev Jd(k:Kn)(K:Fg)(a b c:Addr):It:=M3 K [(k,a),(k,b),(k,c)]
abbrev LU(k:Kn)(K:Fg)(ta:TA):TI:=λσ H R=>ta σ H λvs H1=>∃a b c xs ys zs,vs=[.ref a,.ref b,.ref c]/\k.sq K H1 a xs/\k.sq K H1 b ys/\k.sq K H1 c zs/\R (Jd k K a b c) H1
def IW{α:Type}{F:α->Prop}{x y z:α}(h1:F x)(h2:F y)(h3:F z):∀u∈[x,y,z],F u:=UV.mpr ⟨h1,all2 h2 h3⟩
def HF{x y u:Expr} {ta:TA}  {x1} {p pos:Pos} (hg:Gl X "zip") (hm:X.mg "zip"=none) (ha:PA X [x,y,u] ta) (hs:starEach [x,y,u] X.env=[(false,eval x X.env),(false,eval y X.env),(false,eval u X.env)]:=by rfl) (ZW:starEach [y,u] X.env=[(false,eval y X.env),(false,eval u X.env)]:=by rfl) :
  PI X (.Tuple elts x1 tp) (.Call (.Name "zip" p) [x,y,u] [] pos) (LU k X.K ta):=by
 intro ξ s σ H R I h;refine Call_ (eE I hg hm FD (QD (bf (ha pos ξ s σ H _ I h) λus s1 ω=>?_) (by rw[hs,ZW]) (by rw[ZW];rfl)));obtain⟨vs,H1,I1,r1,a,b,c,xs,ys,zs,e,s1q,s2q,s3q,q⟩:=ω;subst e;exact vN (ks:=[(k,a),(k,b),(k,c)]) I1 r1 (Vi _) fG (IW ⟨xs,s1q⟩ ⟨ys,s2q⟩ ⟨zs,s3q⟩) q (kU _ _ _) (oV _ _ _) λo=>sw o _ _ _
section
variable{K:Fg}{te:TE}{σ:St}{Q:VK}{H:Hp}
def Aq{k:Kn}{xs ys zs:List V}{m:Nat}(e1:xs.length=m)(e2:ys.length=m)(e3:zs.length=m)(h:∀D,H D=none->∃Pv:Nat->Hp->Prop,Pv 0 (upd H D (.lst []))/\(∀i H2,i<=m->Pv i H2->k.sq K H2 a xs/\k.sq K H2 b ys/\k.sq K H2 c zs) /\
  (∀i x y u H2 T,xs[i]?=some x->ys[i]?=some y->zs[i]?=some u->Pv i H2->H2 T=none->Ez g n te σ (.ref T) (upd H2 T (.tup [x,y,u])) D m i Pv)/\∀H2,Pv m H2->Q (.ref D) H2):sF (Jd k K a b c) n g te σ Q H:=by
 intro D nD;obtain⟨Pv,h0,hl,hs,hd⟩:=h D nD;refine⟨λi k H=>k=m-i/\i<=m/\Pv i H,⟨_,rfl,Ql _,h0⟩,?_⟩;rintro i j H ⟨rfl,hi,p⟩;obtain⟨q1,q2,q3⟩:=hl i H hi p;by_cases Ad:i<m
 .refine .inr ⟨IW ⟨xs,q1,by lia⟩ ⟨ys,q2,by lia⟩ ⟨zs,q3,by lia⟩,λv H' ⟨T,ws,nT,h1,h2,h3⟩ us hu=>?_⟩;subst h1 h2;obtain _|⟨z1,_|⟨z2,_|⟨z3,_|_⟩⟩⟩:=h3
  exact hs i _ _ _ H T (z1 xs q1) (z2 ys q2) (z3 zs q3) p nT us hu
 .obtain rfl:i=m:=by lia
  exact .inl ⟨IW ⟨xs,q1,λz=>by lia⟩ ⟨ys,q2,λz=>by lia⟩ ⟨zs,q3,λz=>by lia⟩,hd H p⟩
nonrec abbrev MK(K:Fg):=Jd .T K
nonrec abbrev DW(K:Fg):=LU .T K
def HG{x y u:Expr} {ta:TA}  {x1} {p pos:Pos} (hg:Gl X "zip") (hm:X.mg "zip"=none) (ha:PA X [x,y,u] ta) (hs:starEach [x,y,u] X.env=[(false,eval x X.env),(false,eval y X.env),(false,eval u X.env)]:=by rfl) (ZW:starEach [y,u] X.env=[(false,eval y X.env),(false,eval u X.env)]:=by rfl) :
  PI X (.Tuple elts x1 tp) (.Call (.Name "zip" p) [x,y,u] [] pos) (DW X.K ta):=HF hg hm ha hs ZW
def Fc{ta:TA}{R:It->Hp->Prop}(h:ta σ H λvs H1=>∃a b c xs ys zs,vs=[.ref a,.ref b,.ref c]/\SqT K H1 a xs/\SqT K H1 b ys/\SqT K H1 c zs/\R (MK K a b c) H1):DW K ta σ H R:=h
def pG{xs ys zs:List V}{m:Nat}(e1:xs.length=m)(e2:ys.length=m)(e3:zs.length=m)(h:∀D,H D=none->∃Pv:Nat->Hp->Prop,Pv 0 (upd H D (.lst []))/\(∀i H2,i<=m->Pv i H2->SqT K H2 a xs/\SqT K H2 b ys/\SqT K H2 c zs) /\
  (∀i x y u H2 T,xs[i]?=some x->ys[i]?=some y->zs[i]?=some u->Pv i H2->H2 T=none->Ez g n te σ (.ref T) (upd H2 T (.tup [x,y,u])) D m i Pv)/\∀H2,Pv m H2->Q (.ref D) H2):sF (MK K a b c) n g te σ Q H:=Aq e1 e2 e3 h
end
end L2
namespace L2
open PySem PySem.Spec PyProof.Rows
abbrev sy(es:Array (Int×O6))(t:Rm)(h:Int)(x:O6)(i:Int):Array (Int×O6)×Rm :=
 match es.toList.findIdx? (λe=>RF i e.2) with
 |some _=>(es,t)
 |none=>if (!(layNew t es h x).2.2.1 && (layNew t es h x).2.1.tooFull)=true then ((relayAll (layNew t es h x).2.1 (layNew t es h x).1 (RD (layNew t es h x).1.size)).1,(relayAll (layNew t es h x).2.1 (layNew t es h x).1 (RD (layNew t es h x).1.size)).2.1)
  else ((layNew t es h x).1,(layNew t es h x).2.1)
section
variable{prog:P6}{w:Qp}{A:Qt}{E:O6->Pe->Prop}{s:Pe}
def IX{a:Addr}      {Q:Bool->Pe->Prop} (ho:s.heap.get? a=some {cls:=.type "set",dict:=none,data:=.set es ep t,slots:=#[]}) (hf:t.fits es.size=true) (hel:ElemsOf (intKind prog w) es.toList) (hb:es.size+2<scanBound)
  (h:∀h' ep' r tk,RX a s.heap h'->h'.get? a=some {cls:=.type "set",dict:=none,data:=.set (sy es t (hashInt i) (.int i u) i).1 ep' (sy es t (hashInt i) (.int i u) i).2,slots:=#[]}->Q r {s with heap:=h',toks:=tk}) :
  wpAny (model prog w) A (setAdd a (.int i u)) Q E s:=by
 unfold setAdd;refine R_ (O5 (wpAny_pyHash_int ?_));unfold setAddHashed setAddHashedIn;refine R_ (O5 (Ut ho rfl hf ?_));dsimp only;rw[byScan_of (knd:=intKind prog w) (show Yz (.int i u)=true from rfl) (by lia) hel];simp only[↓reduceIte];unfold setAddByScan;refine O5 (O5 (Wm (O5 (wpAny_setScan_of (knd:=intKind prog w) (k:=i) (show RF i (.int i u)=true by simp[RF]) ho rfl hf hel ?_))));unfold sy at h;cases hr:es.toList.findIdx? (λe=>RF i e.2) with
 |some j =>
  rw[hr] at h;rw[show(es.toList.findIdx? λe=>(intKind prog w).is i e.2)=some j from hr];dsimp only;refine Pt (Pt ?_);exact h s.heap ep _ _ (RX.refl a s.heap) ho
 |none =>
  rw[hr] at h;rw[show(es.toList.findIdx? λe=>(intKind prog w).is i e.2)=none from hr];dsimp only
  have sz:(layNew t es (hashInt i) (.int i u)).1.size=es.size+1:=by
   have:=(layNew_perm t es (hashInt i) (.int i u)).length_eq
   rw[P1,P1,Array.size_push] at this;exact this
  generalize layNew t es (hashInt i) (.int i u)=L at h sz ⊢;obtain⟨es1,t1,wd,gv⟩:=L;dsimp only at h sz ⊢
  have gw:∀(b:Bool) (s₁:Pe) (R:Unit->Pe->Prop) (m:Bool->Sem Unit),m=(λb=>match b with|true=>rule "set.scan.the-table-gave-way" | false=>pure ())->R () s₁->wpAny (model prog w) A (m b) R E s₁:=by
   rintro b s₁ R m rfl hq;cases b <;> first|exact Pt hq|exact Wm hq
  have fin:∀(s':Pe),(∃tk,s' = {s with heap:=s.heap,toks:=tk})->wpAny (model prog w) A (do
    storeSet a es1 t1
    if (!wd && t1.tooFull)=true then do
      (match (relayAll t1 es1 (RD es1.size)).2.2 with|true=>rule "set.scan.the-table-gave-way" | false=>pure ())
      storeSet a (relayAll t1 es1 (RD es1.size)).1 (relayAll t1 es1 (RD es1.size)).2.1
      pure (some true)
     else pure (some true)) (λr s''=>wpAny (model prog w) A (match r with|some added=>pure added|none=>setAddHashedIn a (.int i u) (hashInt i) 99999) Q E s'') E s':=by
   rintro s' ⟨tk,rfl⟩
   have e1:(s.heap.update a (VD es1 t1)).get? a=some {cls:=.type "set",dict:=none,data:=.set es1 (ep+1) t1,slots:=#[]}:=by
    have:=Q5 (VD es1 t1) ho (by rw[Yk es1 t1 rfl];rfl)
    rw[Yk es1 t1 rfl] at this;exact this
   refine O5 (wpAny_storeSet_of (s:={s with heap:=s.heap,toks:=tk}) ho rfl ?_ (fits_of_scanBound (by lia)));by_cases c:(!wd && t1.tooFull)=true
   .rw[if_pos c] at h ⊢
    have sz2:(relayAll t1 es1 (RD es1.size)).1.size=es1.size:=by
     have:=(relayAll_perm t1 es1 (RD es1.size)).length_eq
     rw[P1,P1] at this;exact this
    generalize relayAll t1 es1 (RD es1.size)=Rl at h sz2 ⊢;obtain⟨es2,t2,gv2⟩:=Rl;dsimp only at h sz2 ⊢
    have e2:((s.heap.update a (VD es1 t1)).update a (VD es2 t2)).get? a=some {cls:=.type "set",dict:=none,data:=.set es2 (ep+1+1) t2,slots:=#[]}:=by
     have:=Q5 (VD es2 t2) e1 (by rw[Yk es2 t2 rfl];rfl)
     rw[Yk es2 t2 rfl] at this;exact this
    refine O5 (gw gv2 _ _ _ rfl ?_);refine O5 (wpAny_storeSet_of (s:={s with heap:=s.heap.update a (VD es1 t1),toks:=tk}) e1 rfl ?_ (fits_of_scanBound (by lia)));exact Pt (Pt (h _ _ _ _ ((QJ ..).trans (QJ ..)) e2))
   .rw[if_neg c] at h ⊢;exact Pt (Pt (h _ _ _ _ (QJ ..) e1))
  refine O5 (gw gv _ _ _ rfl ?_);split
  .refine O5 ?_;rw[hashByValue_scannable 8 (show Yz (.int i u)=true from rfl)];refine Pt ?_;exact fin _ ⟨_,rfl⟩
  .refine O5 (Pt ?_);exact fin _ ⟨_,rfl⟩
end
abbrev aH(b:Nat):List Nat:=(Pi 8).filter λk=>b.testBit k
abbrev bA(b k:Nat):Nat:=if (aH b).contains k then b else b+2 ^ k
def eX:∀b<256,(aH b).length<=8:=by decide +kernel
def mM:∀b<256,∀k<8,bA b k<256:=by decide +kernel
def DT:∀b<256,∀k<8,∀j<8,(aH (bA b k)).contains j=((aH b).contains j || j == k):=by decide +kernel
abbrev OI(b k:Nat):Bool:=(aH b).contains k || ((aH b).take (Sg (aH b).toArray k)++k :: (aH b).drop (Sg (aH b).toArray k) == aH (b+2 ^ k) && Sg (aH b).toArray k<=(aH b).length)
def J9:∀b<256,∀k<8,OI b k=true:=by decide +kernel
abbrev OJ(b:Nat):Bool:=match XX 31 ((aH b).map λk:Nat=>(k:Int)).toArray with
 |some o=>((Pi 32).filterMap λj=>(o.getD j none).map (j,·)) == (aH b).zipIdx
 |none=>false
def K9:∀b<256,OJ b=true:=by decide +kernel
def LY:∀k<8,hashInt ((k:Nat):Int)=(k:Int):=by decide +kernel
def Mf:∀k<8,Xk ((k:Nat):Int) % 8=k/\Xk ((k:Nat):Int) % 32=k:=by decide +kernel
abbrev ER(es:Array (Int×O6))(l:List Nat):Prop:=es.size=l.length/\∀(i k:Nat),l[i]?=some k->∃tk,es[i]?=some ((k:Int),.int (k:Int) tk)
structure TR (led:Bool) (t:Rm) (b:Nat):Prop where
 place:t.place=(aH b).toArray
 dum:t.dummies = #[]
 led:t.led=led
 plain:t.plain=true
 mask:(t.mask=7/\(aH b).length<=4)\/t.mask=31
def TR.fill{led:Bool}(T:TR led t b):t.fill=(aH b).length:=by
 unfold UP;rw[T.place,T.dum];simp
def TR.fits{led:Bool}{n:Nat}(T:TR led t b)(hb:b<256)(hn:n=(aH b).length):t.fits n=true:=by
 have l8:=eX b hb;unfold Xl;rw[T.fill,T.place];simp only[PM,Wg,beq_iff_eq,decide_eq_true_eq];rcases T.mask with⟨m,l⟩|m <;> rw[m] <;> lia
def ER.elems(R:ER es (aH b))(h8:∀k∈aH b,k<8):ElemsOf (intKind prog w) es.toList:=by
 intro e he;obtain⟨i,li,ei⟩:=QE.mp he;have l2:i<(aH b).length:=by rw[<- R.1];simpa using li
 obtain⟨tk,et⟩:=R.2 i _ (O1 l2);have e2:es.toList[i]?=some e:=by rw[O1 li,ei]
 rw[P3] at e2;rw[et] at e2;cases e2;refine⟨⟨((aH b)[i]:Int),by simp[intKind,RF],?_⟩,rfl⟩;exact(LY _ (h8 _ (Qx l2))).symm
def rM(b:Nat):∀k∈aH b,k<8:=λk hk=>by
 unfold aH at hk;exact PJ.mp (PQ.mp hk).1
def DV{k:Nat}(R:ER es l)(h:k∉l):es.toList.findIdx? (λe=>RF (k:Int) e.2)=none:=by
 rw[Sk];intro e he;obtain⟨i,li,ei⟩:=QE.mp he;have l2:i<l.length:=by rw[<- R.1];simpa using li
 obtain⟨tk,et⟩:=R.2 i _ (O1 l2);have e2:es.toList[i]?=some e:=by rw[O1 li,ei]
 rw[P3,et] at e2;cases e2;have ne:l[i]≠k:=λz=>h (z ▸ Qx l2)
 have : ¬ ((l[i]:Int)=(k:Int)):=by lia
 simp[RF,this]
def DU{k:Nat}(R:ER es l)(h:k∈l):∃j,es.toList.findIdx? (λe=>RF (k:Int) e.2)=some j:=by
 cases e:es.toList.findIdx? (λe=>RF (k:Int) e.2) with
 |some j=>exact⟨j,rfl⟩
 |none =>
  rw[Sk] at e;obtain⟨i,li,ei⟩:=QE.mp h;obtain⟨tk,et⟩:=R.2 i k (by rw[O1 li,ei])
  have:=e ((k:Int),.int (k:Int) tk) (O7 (by rw[P3];exact et))
  simp[RF] at this
def Oj{led:Bool}{k:Nat}(T:TR led t b)(hk:k<8)(h:k∉aH b):t.freeSlot (k:Int)=some (k,false):=by
 have ej:(t.probeStart (k:Int)).j=k:=by
  show Xk (k:Int) % (t.mask+1)=k;rcases T.mask with⟨m,_⟩|m <;> rw[m]
  .exact(Mf k hk).1
  .exact(Mf k hk).2
 have sl:=uQ T.place T.dum h;obtain⟨n,hn⟩:∃n,10*WY t.mask=n+1:=⟨10*WY t.mask-1,by unfold WY;lia⟩
 unfold Rm.freeSlot YO;rw[hn];unfold YO.go;rw[ej,sl];rfl
def i9{α:Type}:∀l:List α,(Pi l.length).filterMap (λi=>l[i]?)=l
 |[]=>rfl
 |x :: l=>by
  rw[P7,List.range_succ_eq_map,TV];show x :: (Y5 Nat.succ (Pi l.length)).filterMap (λi=>(x :: l)[i]?)=x :: l;rw[List.filterMap_map];congr 1;exact i9 l
def range_all{α:Type}(a:Array α):(Pi a.size).toArray.filterMap (λx=>a[x]?)=a:=by
 obtain⟨l⟩:=a;apply Array.toList_inj.mp;rw[Array.toList_filterMap];simpa using i9 l
def FR(l:List Nat):l.zipIdx.map (·.1)=l:=by simp
def FQ(l:List Nat):l.zipIdx.map (·.2)=Pi l.length:=by simp[List.range_eq_range']
def IY{led:Bool}{b k:Nat}(hb:b<256)(hk:k<8)(R:ER es (aH b))(T:TR led t b) :
  ER (sy es t (hashInt (k:Int)) (.int (k:Int) u) (k:Int)).1 (aH (bA b k))/\TR led (sy es t (hashInt (k:Int)) (.int (k:Int) u) (k:Int)).2 (bA b k):=by
 rw[LY k hk];have l8:=eX b hb;by_cases h:k∈aH b
 .obtain⟨j,e⟩:=DU R h;have ei:bA b k=b:=by unfold bA;rw[if_pos (by simpa using h)]
  unfold sy;rw[e,ei];exact⟨R,T⟩
 .have ei:bA b k=b+2 ^ k:=by unfold bA;rw[if_neg (by simpa using h)]
  have pk:=J9 b hb k hk;unfold OI at pk;rw[show(aH b).contains k=false by simpa using h,YZ,Wg,beq_iff_eq,decide_eq_true_eq] at pk;obtain⟨p1,p2⟩:=pk;have l8':=eX (bA b k) (mM b hb k hk);rw[<- ei] at p1
  have ll:(aH (bA b k)).length=(aH b).length+1:=by
   rw[<- p1,Pm,P7,Px,Rc];lia
  generalize hp:Sg (aH b).toArray k=p at p1 p2
  have put:t.put k=({t with place:=(aH (bA b k)).toArray,dummies:=#[]},p):=by
   unfold Rm.put;rw[T.place,T.dum,hp];dsimp only;rw[f9 _ _ _ p2,p1,if_neg (by simp[Rm.has,Sg,Sg.go])]
  have esl:SC es p ((k:Int),.int (k:Int) u)=(es.toList.take p++((k:Int),Tf (k:Int) u) :: es.toList.drop p).toArray:=by
   have:=f9 es.toList p ((k:Int),Tf (k:Int) u) (by rw[P1,R.1];exact p2)
   simpa using this
  have R1:ER (SC es p ((k:Int),.int (k:Int) u)) (aH (bA b k)):=by
   refine⟨?_,λi j hj=>?_⟩
   .rw[esl,ll,<- R.1];simp;lia
   .rw[esl];rw[<- p1,ua p2] at hj;rw[Tj,ua (by rw[P1,R.1];exact p2)];split at hj
    .rename_i c;rw[if_pos c,P3];exact R.2 i j hj
    .rename_i c;rw[if_neg c];split at hj
     .rename_i c2;cases hj;rw[if_pos c2];exact⟨u,rfl⟩
     .rename_i c2;rw[if_neg c2,P3];exact R.2 _ j hj
  have sz1:(SC es p ((k:Int),.int (k:Int) u)).size=(aH (bA b k)).length:=R1.1
  have ft:({t with place:=(aH (bA b k)).toArray,dummies:=#[]}:Rm).fits (SC es p ((k:Int),.int (k:Int) u)).size=true:=by
   unfold Xl UP;rw[sz1];simp only[PM,Wg,beq_iff_eq,decide_eq_true_eq];refine⟨trivial,?_⟩;show(aH (bA b k)).length+0<=t.mask;rcases T.mask with⟨m,l⟩|m <;> rw[m] <;> lia
  have lay:layNew t es (k:Int) (.int (k:Int) u)=(SC es p ((k:Int),.int (k:Int) u),{t with place:=(aH (bA b k)).toArray,dummies:=#[]},false,false):=by
   unfold layNew;rw[Oj T hk h];dsimp only;rw[put];dsimp only;unfold Rm.orStandIn;rw[ft];rfl
  unfold sy;rw[DV R h,lay];dsimp only;generalize SC es p ((k:Int),.int (k:Int) u)=es1 at R1 sz1 ft
  have hs:es1.map (·.1)=((aH (bA b k)).map λk:Nat=>(k:Int)).toArray:=by
   apply Xw;intro i;simp only[Array.getElem?_map,Tj,O4];by_cases li:i<(aH (bA b k)).length
   .obtain⟨tk,et⟩:=R1.2 i _ (O1 li);rw[et,O1 li];rfl
   .rw[RZ (by lia),PY (by lia)];rfl
  by_cases c:(!false && ({t with place:=(aH (bA b k)).toArray,dummies:=#[]}:Rm).tooFull)=true
  .rw[if_pos c]
   have c2:((aH (bA b k)).length+0)*5≥t.mask*3:=by
    have c1:({t with place:=(aH (bA b k)).toArray,dummies:=#[]}:Rm).tooFull=true:=by simpa using c
    unfold Yl UP at c1;simpa using c1
   have n5:(aH (bA b k)).length=5:=by
    rcases T.mask with⟨m,l⟩|m <;> rw[m] at c2 <;> lia
   have g20:Rm.sizeAbove (RD es1.size)-1=31:=by rw[sz1,n5];decide
   have lk:=K9 (bA b k) (mM b hb k hk);unfold OJ at lk
   have rel:∃mv,relayAll ({t with place:=(aH (bA b k)).toArray,dummies:=#[]}:Rm) es1 (RD es1.size)=(es1,{mask:=31,place:=(aH (bA b k)).toArray,dummies:=#[],finger:=t.finger,led:=t.led,moves:=mv,plain:=t.plain},false):=by
    cases lc:XX 31 ((aH (bA b k)).map λk:Nat=>(k:Int)).toArray with
    |none=>rw[lc] at lk;cases lk
    |some o =>
     rw[lc] at lk;have lz:((Pi 32).filterMap λj=>(o.getD j none).map (j,·))=(aH (bA b k)).zipIdx:=by simpa using lk
     refine⟨({t with place:=(aH (bA b k)).toArray,dummies:=#[]}:Rm).movedTo 31,?_⟩;unfold relayAll Rm.relaid Rm.laid;rw[hs,g20,lc];simp only[Option.bind_eq_bind,Option.bind_some,lz,FR,FQ];dsimp only[Option.pure_def];have ef:(Pi (aH (bA b k)).length).toArray.filterMap (λx=>es1[x]?)=es1:=by rw[<- sz1];exact range_all es1
     rw[ef]
     have cv:coversAll (Pi (aH (bA b k)).length).toArray es1.size=true:=by
      unfold coversAll;rw[sz1,n5];rfl
     have ft2:({mask:=31,place:=(aH (bA b k)).toArray,dummies:=#[],finger:=t.finger,led:=t.led,moves:=({t with place:=(aH (bA b k)).toArray,dummies:=#[]}:Rm).movedTo 31,plain:=t.plain}:Rm).fits es1.size=true:=by
      unfold Xl UP;rw[sz1];simp;lia
     rw[cv,ft2];rfl
   obtain⟨mv,rel⟩:=rel;rw[rel];exact⟨R1,rfl,rfl,T.led,T.plain,.inr rfl⟩
  .rw[if_neg c]
   have c2 : ¬ ((aH (bA b k)).length+0)*5≥t.mask*3:=λz=>c (by
    show(true && ({t with place:=(aH (bA b k)).toArray,dummies:=#[]}:Rm).tooFull)=true
    unfold Yl UP
    simpa using z)
   refine⟨R1,rfl,rfl,T.led,T.plain,?_⟩;rcases T.mask with⟨m,l⟩|m
   .refine .inl ⟨m,?_⟩;rw[m] at c2;lia
   .exact .inr m
structure jD (led:Bool) (h:Heap) (a:Addr) (b:Nat):Prop where
 b8:b<256
 at_:∃es ep t,h.get? a=some {cls:=.type "set",dict:=none,data:=.set es ep t,slots:=#[]}/\ER es (aH b)/\TR led t b
def jD.keep{led:Bool}{h':Heap}(S:jD led h a b)(k:∀o,h.get? a=some o->h'.get? a=some o):jD led h' a b:=by
 obtain⟨es,ep,t,e,r⟩:=S.at_;exact⟨S.b8,es,ep,t,k _ e,r⟩
section
variable{prog:P6}{w:Qp}{A:Qt}{E:O6->Pe->Prop}{s:Pe}
def tw{led:Bool}{k:Nat}{Q:Bool->Pe->Prop}(S:jD led s.heap a b)(hk:k<8)(h:∀h' r tk,RX a s.heap h'->jD led h' a (bA b k)->Q r {s with heap:=h',toks:=tk}) :
  wpAny (model prog w) A (setAdd a (.int (k:Int) u)) Q E s:=by
 obtain⟨es,ep,t,e,R,T⟩:=S.at_;have l8:=eX b S.b8;have sb:scanBound=4096:=rfl;refine IX e (T.fits S.b8 R.1) (R.elems (rM b)) (by rw[R.1,sb];lia) λh' ep' r tk sm e'=>?_
 obtain⟨R',T'⟩:=IY (u:=u) S.b8 hk R T;exact h h' r tk sm ⟨mM b S.b8 k hk,_,ep',_,e',R',T'⟩
abbrev im (w:Qp):Bool:=w.params.followText "set-order"
def qY(a:O6){Q₁:O6->Pe->Prop}(h:Q₁ (.ref s.heap.objs.size) {s with heap:=s.heap.push (tt (!im w))}) :
  codeAny (model prog w) A (.call (.builtin "set.__new__") ⟨[.type "set",a],[]⟩) (wants Q₁ E) s:=by
 refine codeAny_of_tree (show wpAny _ A.in1 (do checkBuiltinCall "set.__new__" ⟨[.type "set",a],[]⟩;again (.builtin "set.__new__" ⟨[.type "set",a],[]⟩)) _ _ s from ?_);refine O5 (VP (F.newCall_set_1 a) (Pt ⟨plainId_quiet F.plain_set_new _,U7 F.entry_set_new ?_⟩));rw[UW F.plain_set_new _];unfold RU.«set.__new__» RU.Frozenset.newClass;have hsub:=sub_set_self;obtain⟨hp,g,d,tk,os⟩:=s;dsimp only;wp_walk;refine TJ (Pt ?_);dsimp only;simp only[newObj];refine O5 (wpAny_alloc (Pt (Pt ?_)));exact h
end
section
variable{prog:P6}{w:Qp}{A:Qt}{E:O6->Pe->Prop}{s:Pe}
def xV(k:Kn){Q:O6->Pe->Prop}(hh:A.handled=none)(hl:k.seq s.heap l items)(Z:Nat->Heap->Prop)
  (z0:∀h,h.get? s.heap.objs.size=some (tt (!im w))->(∀b o,s.heap.get? b=some o->h.get? b=some o)->Z 0 h) (zk:∀i h h',Z i h->(∀b o,b≠s.heap.objs.size+1->h.get? b=some o->h'.get? b=some o)->Z i h')
  (za:∀(A':Qt) i v (s':Pe) (Q:Bool->Pe->Prop) (E:O6->Pe->Prop),A'.units<=A.units+8->i<items.size->items[i]?=some v->Z i s'.heap->(∀r h' tk,Z (i+1) h'->(∀b,b≠s.heap.objs.size->h'.get? b=s'.heap.get? b)->Q r {s' with heap:=h',toks:=tk})->wpAny (model prog w) A' (setAdd s.heap.objs.size v) Q E s')
  (q:∀h' tk,Z items.size h'->(∀b o,b<s.heap.objs.size->s.heap.get? b=some o->h'.get? b=some o)->Q (.ref s.heap.objs.size) {s with heap:=h',toks:=tk}):wpAny (model prog w) A (call (.type "set") [.ref l]) Q E s:=by
 obtain⟨c,tl,hmro⟩:=Ta.mro;have hmade:=Ta.made;have hsub:=Ta.sub;refine wpAny_call (codeAny_of_tree ?_);show wpAny _ _ (callAny (.type "set") _) _ _ _;refine Pt ⟨Code.quiet_builtin _ (by decide +kernel),U7 F.entry_type_call ?_⟩;rw[Qt.under_plain (weight_type_call_type "set" [.ref l] []) rfl];have h1:=Ta.notType;have h2:=Ta.canCreate;have hct:=F.typeCall_set_1 (.ref l)
 repeat (any_goals (first|assumption|wp_step))
 refine Ve (qY (.ref l) (E:=E) (Q₁:=λobj s₁=>∃led:Bool,led = !im w/\obj=.ref s.heap.objs.size/\s₁ = {s with heap:=s.heap.push (tt led)}) ⟨_,rfl,rfl,rfl⟩) λr s₁ hr=>?_
 cases r with
 |error e=>exact hr
 |ok fl =>
  cases fl with
  |ret obj =>
   obtain⟨led,hled,rfl,rfl⟩:=hr;have hS:(s.heap.push (tt led)).get? s.heap.objs.size=some (tt led):=PR _ rfl;have hT:Pe.TypeIs {s with heap:=s.heap.push (tt led)} (.ref s.heap.objs.size) "set":=⟨_,hS,rfl⟩
   have hli:=Ta.init.lookup;have hbi:=Ta.init.bind (.ref s.heap.objs.size)
   repeat (any_goals (first|assumption|wp_step))
   refine Ve (codeAny_call_builtin (R:=wants (λr s₂=>r=.none/\∃h' tk,s₂ = {s with heap:=h',toks:=tk}/\Z items.size h'/\(∀b o,b<s.heap.objs.size->s.heap.get? b=some o->h'.get? b=some o)) E) Ta.init.plain F.entry_set_init (check_set_init_1 hT ?_)) λr₂ s₂ hr₂=>?_
   .have Ad:l<s.heap.objs.size:=k.lt hl;have hl1:k.seq (s.heap.push (tt led)) l items:=k.Cd hl λo e=>Pf _ e
    have nI:l≠(s.heap.push (tt led)).objs.size:=by rw[RP];exact Qb (VS Ad)
    have nS:s.heap.objs.size∉[(s.heap.push (tt led)).objs.size,l]:=by
     rw[RP];simp only[Py,Sc,or_false,not_or];exact⟨Qb (UH _),SZ Ad⟩
    have fin:∀(A':Qt) (R':Yc->Pe->Prop),A'.in1.handled=none->A'.in1.units<=A.units+8->(∀h' tk,Z items.size h'->(∀b o,b<s.heap.objs.size->s.heap.get? b=some o->h'.get? b=some o)->R' (.ok (.ret .none)) {s with heap:=h',toks:=tk}) ->
      codeAny (model prog w) A' (.builtin "set.update.loop" ⟨[.ref s.heap.objs.size,.ref (s.heap.push (tt led)).objs.size],[]⟩) R' {s with heap:=(s.heap.push (tt led)).push (k.obj l)}:=by
     intro A' R' ha hu hR;refine Cc (k.walks ha _ l nI items) s.heap.objs.size nS Z (λi h h' z kp=>zk i h h' z λb o hb e=>kp b o (by rw[RP];simpa using hb) e) (λi v s' Q' E' hi hv hz hq=>za _ i v s' Q' E' hu hi hv hz hq) (items.size-0) 0 _ rfl (Ql _) ⟨k.it0 _ l,k.Cd hl1 λo e=>Pf _ e⟩ (z0 _ (hled ▸ Pf _ hS) λb o e=>Pf _ (Pf _ e)) λh' tk z kp=>hR h' tk z λb o hb e=>kp b o ?_ (Pf _ (Pf _ e))
     rw[RP];simp only[Py,Sc,or_false,not_or];exact⟨Qb hb,Qb (VS hb)⟩
    cases k
    .have hl2:(s.heap.push (tt led)).IsList l items:=hl1;obtain⟨ol,hol,hcl,nl,hdl⟩:=hl1;obtain⟨ocls,odict,odata,oslots⟩:=ol;simp only at hcl hdl;subst hcl;subst hdl;have hsls:=F.sub_list_set;have hslf:=F.sub_list_frozenset;have ZR:(Vp "list" == Vp "dict")=false:=by decide
     unfold RU.«set.__init__» noKeywords U8;generalize hPI:pyIter=PI;wp_walk;subst hPI;refine Kn.iter .L hl2 (O5 (wpAny_runValue (fin _ _ (by simp[hh]) (by simp) λh' tk z kp=>?_)));refine(show wpAny _ _ _ _ _ _ from Pt (show wpAny _ _ (ret Rs) _ _ _ from Pt ⟨rfl,h',tk,rfl,z,kp⟩))
    .have hl2:(s.heap.push (tt led)).IsTuple l items:=hl1;obtain⟨ol,hol,hcl,nl,hdl⟩:=hl1;obtain⟨ocls,odict,odata,oslots⟩:=ol;simp only at hcl hdl;subst hcl;subst hdl;have hsls:=F.sub_tuple_set;have hslf:=F.sub_tuple_frozenset;have ZR:(Vp "tuple" == Vp "dict")=false:=by decide
     unfold RU.«set.__init__» noKeywords U8;generalize hPI:pyIter=PI;wp_walk;subst hPI;refine Kn.iter .T hl2 (O5 (wpAny_runValue (fin _ _ (by simp[hh]) (by simp) λh' tk z kp=>?_)));refine(show wpAny _ _ _ _ _ _ from Pt (show wpAny _ _ (ret Rs) _ _ _ from Pt ⟨rfl,h',tk,rfl,z,kp⟩))
   .cases r₂ with
    |error e=>exact hr₂
    |ok fl₂ =>
     cases fl₂ with
     |ret r =>
      obtain⟨rfl,h',tk,rfl,hz,ZQ⟩:=hr₂
      repeat (any_goals (first|assumption|wp_step))
      exact q _ _ hz ZQ
     |_=>exact hr₂.elim
  |_=>exact hr.elim
abbrev dD:List Nat->Nat->Nat
 |[],b=>b
 |k :: l,b=>dD l (bA b k)
def kq:∀(l:List Nat) (k b:Nat),dD (l++[k]) b=bA (dD l b) k
 |[],_,_=>rfl
 |j :: l,k,b=>kq l k (bA b j)
def fY:aH 0=[]:=by decide
def Ca(led:Bool)(h:Heap)(a:Addr)(e:h.get? a=some (tt led)):jD led h a 0:=by
 refine⟨by decide,#[],0,_,e,⟨by rw[fY];rfl,λi k hk=>by rw[fY] at hk;cases hk⟩,?_⟩;exact⟨by rw[fY];rfl,rfl,rfl,rfl,.inl ⟨rfl,by rw[fY];decide⟩⟩
def GB{items:List O6}{ks:List Nat}{Q:O6->Pe->Prop}(hh:A.handled=none)(hl:s.heap.IsList l items.toArray)(hi:To items (ks.map λk:Nat=>(k:Int)))(h8:∀k∈ks,k<8)
  (q:∀h' tk,jD (!im w) h' s.heap.objs.size (dD ks 0)->(∀b o,b<s.heap.objs.size->s.heap.get? b=some o->h'.get? b=some o)->Q (.ref s.heap.objs.size) {s with heap:=h',toks:=tk}):wpAny (model prog w) A (call (.type "set") [.ref l]) Q E s:=by
 have li:items.length=ks.length:=by have:=To.length hi;rw[O0] at this;exact this
 refine xV .L (items:=items.toArray) hh hl (λi h=>jD (!im w) h s.heap.objs.size (dD (ks.take i) 0)) (λh e _=>by simpa[dD] using Ca _ h _ e) (λi h h' z k=>z.keep λo e=>k _ o (Qb (UH _)) e) (λA' i v s' Q' E' _ Ad hv z hq=>?_) (λh' tk z k=>q h' tk (by simpa[li] using z) k);have lt:i<ks.length:=by rw[<- li];simpa using Ad
 have hk:=h8 _ (Qx lt)
 obtain⟨u,rfl⟩:∃u,v=.int ((ks[i]:Nat):Int) u:=by
  have:∀{vs:List O6} {ns:List Int} (i:Nat),To vs ns->∀v,vs[i]?=some v->∃n u,ns[i]?=some n/\v=.int n u:=by
   intro vs ns i h
   induction h generalizing i with
   |nil=>intro v e;cases e
   |cons n t r ih =>
    intro v e;cases i with
    |zero=>cases e;exact⟨n,t,rfl,rfl⟩
    |succ i=>exact ih i v e
  obtain⟨n,u,e1,e2⟩:=this i hi v (by simpa using hv);rw[O4,O1 lt] at e1;cases e1;exact⟨u,e2⟩
 refine tw z hk λh' r tk sm z'=>?_
 refine hq r h' tk ?_ λb hb=>?_
 .show jD _ h' _ (dD (ks.take (i+1)) 0);rw[Ps,O1 lt];show jD _ h' _ (dD (ks.take i++[ks[i]]) 0);rw[kq];exact z'
 .exact sm.2 b hb
end
namespace F7
def kb:entryFor table "set.__iter__"=some RU.«frozenset.__iter__»:=entryFor_alias (id':="frozenset.__iter__") (by kernel_rfl) (by first|rfl|decide +kernel|(unfold YQ;simp +decide [XY])) (by decide +kernel) (by kernel_rfl)
def slot_next:Slot "set_iterator" "__next__" "set_iterator.__next__":=.of (owner:="set_iterator") (n:="__next__") (by rw[typeLookup_type,WL];kernel_rfl) (by decide +kernel) (by decide +kernel) (by decide +kernel) (by first|exact .inl (by decide +kernel)|exact .inr (by decide +kernel)) (by rw[Us];kernel_rfl)
def entry_next:entryFor table "set_iterator.__next__"=some RU.«set_iterator.__next__»:=entryFor_of_tree (by kernel_rfl)
def args_next(a:O6):argsOk "set_iterator.__next__" ⟨[a],[]⟩:=by unfold argsOk;kernel_rfl
def nR:Slot "set_iterator" "__iter__" "set_iterator.__iter__":=.of (owner:="set_iterator") (n:="__iter__") (by rw[typeLookup_type,WL];kernel_rfl) (by decide +kernel) (by decide +kernel) (by decide +kernel) (by first|exact .inl (by decide +kernel)|exact .inr (by decide +kernel)) (by rw[Us];kernel_rfl)
def vy:entryFor table "set_iterator.__iter__"=some RU.«dict_keyiterator.__iter__»:=entryFor_alias (id':="dict_keyiterator.__iter__") (by kernel_rfl) (by first|rfl|decide +kernel|(unfold YQ;simp +decide [XY])) (by decide +kernel) (by kernel_rfl)
def AN(a:O6):argsOk "set_iterator.__iter__" ⟨[a],[]⟩:=by unfold argsOk;kernel_rfl
end F7
abbrev MZ (h:Heap) (I S:Addr) (sl i n ep:Nat):Prop:=∃o,h.get? I=some o/\o.cls=.type "set_iterator"/\o.data=.fields #[.int (sl:Int) 0,.int (i:Int) 0,.ref S,.int (n:Int) 0,.int (ep:Int) 0]
abbrev vG (h:Heap) (S:Addr) (es:Array (Int×O6)) (ep:Nat) (t:Rm):Prop:=h.get? S=some {cls:=.type "set",dict:=none,data:=.set es ep t,slots:=#[]}
section
variable{prog:P6}{w:Qp}{A:Qt}{E:O6->Pe->Prop}{s:Pe}{S I:Addr}{es:Array (Int×O6)}{ep:Nat}{t:Rm}
def GA{Q:O6->Pe->Prop} (m:vG s.heap S es ep t) (hf:t.fits es.size=true) (pl:t.plain=true) (q:Q (.ref s.heap.objs.size) {s with heap:=s.heap.push {cls:=.type "set_iterator",data:=.fields #[.int 0 0,.int 0 0,.ref S,.int (es.size:Int) 0,.int (ep:Int) 0]}}) :
  wpAny (model prog w) A (pyIter (.ref S)) Q E s:=by
 have ty:s.TypeIs (.ref S) "set":=⟨_,m,rfl⟩
 refine VN ty F.slot_set_iter (Re F.slot_set_iter ty F7.kb ?_ (F.args_set_iter_1 _));unfold RU.«frozenset.__iter__»;refine O5 (VP (a:=S) rfl ?_);unfold RU.Frozenset.sizeOf;refine O5 (O5 (Vc m rfl hf (Pt ?_)));rw[show setDrawn S=(do let x <- setState S;let b <- setsByText;return !b && (!x.2.2.plain && decide (x.1.size > 1))) from rfl];refine O5 (O5 (Ut m rfl hf ?_));unfold setsByText;refine O5 (O5 (TJ (Pt (Pt ?_))));dsimp only;rw[pl,show(!(model prog w).w.params.followText "set-order" && (!true && decide (es.size > 1)))=false by simp,if_neg (by simp)];refine O5 (Pt (O5 (wpAny_setEpoch_of m rfl hf ?_)));refine O5 (Q7 (Pt ⟨_,rfl,"set_iterator",_,⟨_,PR _ rfl,rfl⟩,F7.slot_next.lookup,?_⟩));simpa[rawInt] using q
def xS{Q:Option O6->Pe->Prop}(it:MZ s.heap I S sl i es.size ep)(m:vG s.heap S es ep t)(hf:t.fits es.size=true) :
  (∀v nx,(∀(R:Option (O6×Nat)->Pe->Prop) (E':O6->Pe->Prop),R (some (v,nx)) s->wpAny (model prog w) A.in1 (setNext S sl i ep) R E' s)->(∀h',MZ h' I S nx (i+1) es.size ep->RX I s.heap h'->Q (some v) {s with heap:=h'})->wpAny (model prog w) A (pyNext (.ref I)) Q E s) /\
  (A.handled=none->(∀(R:Option (O6×Nat)->Pe->Prop) (E':O6->Pe->Prop),R none s->wpAny (model prog w) A.in1 (setNext S sl i ep) R E' s)->(∀h',Yr I s.heap h'->Q none {s with heap:=h'})->wpAny (model prog w) A (pyNext (.ref I)) Q E s):=by
 obtain⟨o,ho,oc,od⟩:=id it;have ty:s.TypeIs (.ref I) "set_iterator":=⟨_,ho,oc⟩
 constructor
 .intro v nx hn hq;unfold pyNext;refine O5 (UO (Ru (name:=Uq "__next__") ty F7.slot_next (Re F7.slot_next ty F7.entry_next ?_ (F7.args_next _))));unfold RU.«set_iterator.__next__»;refine O5 (Pt (O5 (Vx ho od ?_)));dsimp only;refine O5 (Vc m rfl hf ?_);rw[if_neg (by simp)];simp only[Qc];refine O5 (hn _ _ ?_);dsimp only;refine O5 (SU ho od (by simp) ?_);have od1:(Sa (·.setIfInBounds 0 (rawInt (nx:Int))) o).data=.fields #[.int (nx:Int) 0,.int (i:Int) 0,.ref S,.int (es.size:Int) 0,.int (ep:Int) 0]:=by rw[Rt od];simp[rawInt]
  have ho1:(s.heap.update I (Sa (·.setIfInBounds 0 (rawInt (nx:Int))))).get? I=some (Sa (·.setIfInBounds 0 (rawInt (nx:Int))) o):=Q5 _ ho (Th (Rt od _));refine O5 (SU (s:={s with heap:=s.heap.update I (Sa (·.setIfInBounds 0 (rawInt (nx:Int))))}) ho1 od1 (by simp) ?_);have ho2:=Q5 (Sa (·.setIfInBounds 1 (rawInt ((i:Int)+1)))) ho1 (Th (Rt od1 _));have k2:MZ ((s.heap.update I (Sa (·.setIfInBounds 0 (rawInt (nx:Int))))).update I (Sa (·.setIfInBounds 1 (rawInt ((i:Int)+1))))) I S nx (i+1) es.size ep:=⟨_,ho2,(Ur ..).trans ((Ur ..).trans oc),by rw[Rt od1];simp[rawInt]⟩
  exact Pt ⟨_,rfl,Pt (hq _ k2 ((QJ ..).trans (QJ ..)))⟩
 .intro hh hn hq;unfold pyNext;refine O5 (UO (Ru (name:=Uq "__next__") ty F7.slot_next (Re F7.slot_next ty F7.entry_next ?_ (F7.args_next _))));unfold RU.«set_iterator.__next__»;refine O5 (Pt (O5 (Vx ho od ?_)));dsimp only;refine O5 (Vc m rfl hf ?_);rw[if_neg (by simp)];simp only[Qc];refine O5 (hn _ _ ?_);dsimp only;refine O5 (SU ho od (by simp) ?_);show wpAny _ _ (newExc (.type "StopIteration") [] >>= _) _ _ _;refine O5 ?_;simp only[newExc,newTuple];refine O5 (Q7 ?_ (by size_fits));refine O5 (m:=firstArgMember _ _) (VP (a:=Rs) (by simp only[firstArgMember];rfl) (Q7 ?_ (by size_fits)));simp only[raiseNew];refine O5 (Xj ?_);rw[show A.in1.handled=none from hh];refine O5 (Pt (Ys ?_));refine O5 (UG (T:="StopIteration") (b:=true) ⟨_,PR _ rfl,rfl⟩ WT ?_);exact Pt (hq _ (((QJ ..).extBut.push _).push _))
abbrev e9(w:Qp)(S:Addr)(ep:Nat)(es:Array (Int×O6)):Array (Int×O6):=if im w then pickOrder (w.params.setOrder S ep) es else es
abbrev slotAt(w:Qp)(l:List Nat)(i:Nat):Nat:=if im w then 0 else if i=0 then 0 else l.getD (i-1) 0+1
def Mh:∀b<256,∀i<9,(aH b).length<i\/Sg (aH b).toArray (if i=0 then 0 else (aH b).getD (i-1) 0+1)=i:=by decide +kernel
def kE{α:Type}:∀(l:List α) (i:Nat) (h:i<l.length),(l[i] :: l.eraseIdx i).Perm l
 |x :: l,0,_=>YR _
 |x :: l,i+1,h=>by
  have h':i<l.length:=Nat.lt_of_succ_lt_succ h;exact(Y4.swap x l[i] (l.eraseIdx i)).trans ((kE l i h').cons x)
def yH{α:Type}(f:Nat->Nat):∀(n k:Nat) (left:List α) (out:Array α),n=left.length->(pickOrder.go f n k left out).toList.Perm (out.toList++left)
 |0,k,left,out,h=>by
  have:left=[]:=Q9.mp h.symm
  subst this;show out.toList.Perm (out.toList++[]);rw[RW]
 |n+1,k,left,out,h=>by
  have lt:f k % left.length<left.length:=YS _ (by lia);unfold pickOrder.go;rw[O1 lt];refine(yH f n (k+1) _ _ (by rw[WZ,if_pos lt];lia)).trans ?_;rw[Array.toList_push,QF];refine Y4.append_left _ ?_;exact kE left _ lt
def mn{es:Array (Int×O6)}:(e9 w S ep es).toList.Perm es.toList:=by
 unfold e9;split
 .have:=yH (w.params.setOrder S ep) es.size 0 es.toList #[] (by simp)
  simpa[pickOrder] using this
 .exact YR _
def mi{es:Array (Int×O6)}:(e9 w S ep es).size=es.size:=by
 have:=(mn (w:=w) (S:=S) (ep:=ep) (es:=es)).length_eq
 simpa using this
def tE{b i:Nat}{R:Option (O6×Nat)->Pe->Prop}(m:vG s.heap S es ep t)(hb:b<256)(T:TR (!im w) t b)(hr:ER es (aH b))(hi:i<=es.size)(h:R ((e9 w S ep es)[i]?.map λe=>(e.2,slotAt w (aH b) (i+1))) s) :
  wpAny (model prog w) A (setNext S (slotAt w (aH b) i) i ep) R E' s:=by
 have hf:=T.fits hb hr.1;have l8:=eX b hb;unfold setNext;refine O5 (Ut m rfl hf ?_);dsimp only;unfold setsByText;refine O5 (O5 (TJ (Pt ?_)));cases bt:im w with
 |true =>
  have bt':(model prog w).w.params.followText "set-order"=true:=bt;dsimp only;rw[bt',if_pos rfl,if_neg (by simp)];unfold setWalk;refine O5 (O5 (Ut m rfl hf ?_));dsimp only;unfold setsByText;refine O5 (O5 (TJ (Pt ?_)));dsimp only;rw[bt',if_pos rfl];refine O5 (TJ (Pt (Pt ?_)));unfold e9 slotAt at h;rw[bt] at h;unfold slotAt;rw[bt];exact h
 |false =>
  have bt':(model prog w).w.params.followText "set-order"=false:=bt;dsimp only;rw[bt',if_neg (by simp)];have sl:slotAt w (aH b) i=if i=0 then 0 else (aH b).getD (i-1) 0+1:=by unfold slotAt;rw[bt];rfl
  have sl2:slotAt w (aH b) (i+1)=(aH b).getD i 0+1:=by unfold slotAt;rw[bt];rfl
  have bl:Sg t.place (slotAt w (aH b) i)=i:=by
   rw[sl,T.place];rcases Mh b hb i (by have:=hr.1;lia) with z|z
   .have:=hr.1;lia
   .exact z
  have eo:e9 w S ep es=es:=by unfold e9;rw[bt];rfl
  rw[eo,sl2] at h;split
  .rename_i z;have z2:(!t.plain && decide (es.size > 1))=true:=z;rw[T.plain] at z2;cases z2
  .refine O5 (show wpAny _ _ (if (!t.led && !es.isEmpty)=true then unsupported "set:maker-not-led" else pure ()) _ _ _ from ?_);rw[T.led,bt,if_neg (by simp)];refine Pt (Pt ?_);rw[bl,T.place];by_cases li:i<es.size
   .have l2:i<(aH b).length:=by rw[<- hr.1];exact li
    obtain⟨tk,et⟩:=hr.2 i _ (O1 l2);rw[et] at h ⊢;rw[Tj,O1 l2];rw[O2,O1 l2] at h;exact h
   .have en:es[i]?=none:=RZ (by lia);rw[en] at h ⊢;exact h
def B_(hh:A.handled=none)(I S:Addr)(ne:S≠I){b:Nat}(hb:b<256)(T:TR (!im w) t b)(hr:ER es (aH b)):XG prog w A I [I,S] [I] es.size (λi v=>∃e,(e9 w S ep es)[i]?=some e/\v=e.2) (λi h=>MZ h I S (slotAt w (aH b) i) i es.size ep/\vG h S es ep t) where
 sub:=λb hb=>by rw[Po.mp hb];simp
 frame:=λ_ _ _ st hk=>⟨by obtain⟨o,e,r⟩:=st.1;exact⟨o,hk I (by simp) o e,r⟩,hk S (by simp) _ st.2⟩
 item:=λi s Q E hi st hq=>by
  have lo:(e9 w S ep es).size=es.size:=mi;have ei:(e9 w S ep es)[i]?=some (e9 w S ep es)[i]:=by simp[lo,hi]
  refine(xS st.1 st.2 (T.fits hb hr.1)).1 (e9 w S ep es)[i].2 (slotAt w (aH b) (i+1)) (λR E' h=>tE st.2 hb T hr (Rx hi) (by rw[ei];exact h)) λh' k1 k2=>?_
  exact hq _ h' s.toks ⟨_,ei,rfl⟩ ⟨k1,k2.extBut S _ ne st.2⟩ λb o hb e=>k2.extBut b o (λz=>hb (by simp[z])) e
 done:=λs Q E st hq=>(xS st.1 st.2 (T.fits hb hr.1)).2 hh (λR E' h=>tE st.2 hb T hr (Pa _) (by rw[show(e9 w S ep es)[es.size]?=none from RZ (by rw[mi];exact Pa _)];exact h)) λh' k=>hq h' s.toks λb o hb e=>k b o (λz=>hb (by simp[z])) e
 self:=λ_ s _ _ st hq=>by
  obtain⟨o,ho,oc,od⟩:=st.1;have ty:s.TypeIs (.ref I) "set_iterator":=⟨_,ho,oc⟩
  refine VN ty F7.nR (Re F7.nR ty F7.vy (show wpAny _ _ (ret (.ref I)) _ _ s from Pt ⟨_,rfl,"set_iterator",_,ty,F7.slot_next.lookup,hq⟩) (F7.AN _))
def DX{Q:Bool->Pe->Prop} (hT:s.TypeIs (.ref r) "set") (h:Q false s):wpAny (model prog w) A (Vj (.ref r)) Q E s:=by
 unfold Vj;refine O5 (wpAny_specialOf hT PySem.F.slot_set_len.lookup ?_);generalize hid:("set.__len__" : String)=id0;wp_delta;rw[show splitId id0=some ("set","__len__") from by subst hid;decide +kernel];subst hid;refine O5 (UG (T:="set") (b:=true) hT (by rw[Us];kernel_rfl) ?_);refine wpAny_ite_split (λhab=>absurd hab (by decide)) (λ_=>?_);refine wpAny_ite_split (λ_=>?_) (λhab=>absurd (by decide +kernel) hab);refine O5 (wpAny_typeOf hT ?_);exact Pt h
def JH{b:Nat} (hb:b<256) (T:TR (!im w) t b) (hr:ER es (aH b)):YN prog w "set" S S es.size (λi v=>∃e,(e9 w S ep es)[i]?=some e/\v=e.2) (λh=>vG h S es ep t) where
 type:=λ_ m=>⟨_,m,rfl⟩
 there:=λ_ m=>⟨PF m,PF m⟩
 keep:=λ_ _ m hk=>hk S (.inl rfl) _ m
 notList:=by decide
 notTuple:=by decide
 hint:=λ_ _ _ _ m q=>DX ⟨_,m,rfl⟩ q
 iter:=λ_ _ hh m=>⟨_,_,(λ_ _ q=>GA m (T.fits hb hr.1) T.plain q),B_ hh _ S (Qb (PF m)) hb T hr,⟨⟨_,PR _ rfl,rfl,by unfold slotAt;simp⟩,Pf _ m⟩⟩
def ints_of:∀{vs:List O6} {ns:List Int},vs.length=ns.length->(∀(j:Nat) (v:O6),vs[j]?=some v->∃n u,ns[j]?=some n/\v=Tf n u)->To vs ns
 |[],[],_,_=>.nil
 |[],_ :: _,h,_=>by cases h
 |_ :: _,[],h,_=>by cases h
 |v :: vs,n :: ns,h,k=>by
  obtain⟨n',u,e1,rfl⟩:=k 0 v rfl;cases e1;exact .cons n u (ints_of (by simpa using h) λj v hj=>k (j+1) v hj)
def Ij:∀b<256,((aH b).map λk:Nat=>(k:Int)).Pairwise (· < ·):=by decide +kernel
def iU:∀{a b:List Int},a.Perm b->a.Pairwise (·<=·)->b.Pairwise (· < ·)->a=b
 |[],b,p,_,_=>p.nil_eq
 |x :: a,[],p,_,_=>by have:=p.length_eq;cases this
 |x :: a,y :: b,p,h1,h2=>by
  obtain⟨x1,x2⟩:=Ud.mp h1;obtain⟨y1,y2⟩:=Ud.mp h2
  have e:x=y:=by
   have m1:y∈x :: a:=p.mem_iff.mpr O8;have m2:x∈y :: b:=p.mem_iff.mp O8;rcases Py.mp m1 with e|m1
   .exact e.symm
   .rcases Py.mp m2 with e|m2
    .exact e
    .have:=x1 y m1
     have:=y1 x m2
     lia
  subst e;rw[iU (Y4.cons_inv p) x2 y2]
def xR{Q:O6->Pe->Prop} (hh:A.handled=none) (m:jD (!im w) s.heap S b) (q:∀(h1 h':Heap) (tk:Nat) (D:Addr) (vs:List O6) (c:Nat),(∀b o,s.heap.get? b=some o->h1.get? b=some o)->(∀b o,h1.get? b=some o->h'.get? b=some o)->h1.objs.size<=D->h'.get? D=some (seqObj "list" (List.toArray vs) c)->To vs ((aH b).map λk:Nat=>(k:Int))->Q (.ref D) {s with heap:=h',toks:=tk}) :
  wpAny (model prog w) A (call (.builtin "sorted") [.ref S]) Q E s:=by
 obtain⟨es,ep,t,e,hr,T⟩:=m.at_;have l8:=eX b m.b8;have raw:vG s.heap S es ep t:=e;refine Calls.call_function_entry kind_sorted plain_sorted entry_sorted (args_sorted1 _) ?_;unfold RU.«sorted»;refine O5 (m:=checkCount "sorted" 1 1 _) (Pt ?_);refine O5 (PySem.W.kdu_collect (A:=A.in1) (JH m.b8 T hr) hh raw (by rw[hr.1,Sv];lia) λh' tk acc hk hacc=>?_);have la:acc.size=es.size:=hacc.1;have lo:(e9 w S ep es).size=es.size:=mi
 have ent:∀e∈es.toList,∃(k:Int) (tk:Tok),e=(k,Tf k tk):=λe he=>by
  obtain⟨i,li,ei⟩:=QE.mp he;have l2:i<(aH b).length:=by rw[<- hr.1];simpa using li
  obtain⟨tk,et⟩:=hr.2 i _ (O1 l2);have e2:es.toList[i]?=some e:=by rw[O1 li,ei]
  rw[P3,et] at e2;cases e2;exact⟨_,tk,rfl⟩
 have hs:es.toList.map (·.1)=(aH b).map λk:Nat=>(k:Int):=by
  apply Sy;intro i;rw[O4,O4,P3];by_cases li:i<(aH b).length
  .obtain⟨tk,et⟩:=hr.2 i _ (O1 li);rw[et,O1 li];rfl
  .rw[RZ (by rw[hr.1];lia),PY (by lia)];rfl
 have hI:To acc.toList ((e9 w S ep es).toList.map (·.1)):=ints_of (by rw[P1,O0,P1,la,lo]) λj v hj=>by
  rw[P3] at hj;obtain⟨e,e1,e2⟩:=hacc.2 j v hj;obtain⟨k,tk,rfl⟩:=ent e (mn.mem_iff.mp (O7 (by rw[P3];exact e1)));exact⟨_,tk,by rw[O4,P3,e1];rfl,e2⟩
 have l64:acc.toList.length<64:=by rw[P1,la,hr.1];lia
 refine O5 (wpAny_newList ?_ (by rw[Sv];lia));have hoL:(h'.push (seqObj "list" acc.toList.toArray 0)).get? h'.objs.size=some (seqObj "list" acc.toList.toArray 0):=PR _ rfl;refine O5 (R_ (Re (s:={s with heap:=h'.push (seqObj "list" acc.toList.toArray 0),toks:=tk}) slot_list_sort ⟨_,hoL,rfl⟩ entry_list_sort (list_sort_tree hoL hI l64 λout ns' i' p' pw=>⟨_,rfl,?_⟩) (args_list_sort _)));have en:ns'=(aH b).map λk:Nat=>(k:Int):=iU (p'.trans (by rw[<- hs];exact mn.map _)) pw (Ij b m.b8)
 subst en
 have keep2:∀c o,c≠h'.objs.size->(h'.push (seqObj "list" acc.toList.toArray 0)).get? c=some o->(sortedHeap (h'.push (seqObj "list" acc.toList.toArray 0)) h'.objs.size acc.toList out).get? c=some o:=λc o hc e2=>by
  unfold sortedHeap;rw[Xb _ _ _ _ hc];exact Pf _ (Pf _ (by rw[Xb _ _ _ _ hc];exact e2))
 obtain⟨e1,ho1⟩:∃e1,((h'.push (seqObj "list" acc.toList.toArray 0)).update h'.objs.size (Ua λ_=>(#[]:Array O6))).get? h'.objs.size=some (seqObj "list" #[] e1):=⟨_,get?_update_seq hoL λ_=>#[]⟩
 obtain⟨c2,ho2⟩:∃c2,(sortedHeap (h'.push (seqObj "list" acc.toList.toArray 0)) h'.objs.size acc.toList out).get? h'.objs.size=some (seqObj "list" out c2):=⟨_,get?_update_seq (Pf _ (Pf _ ho1)) λ_=>out⟩
 exact Pt ⟨_,rfl,q h' _ tk h'.objs.size out.toList c2 hk (λc o e2=>keep2 c o (Qb (PF e2)) (Pf _ e2)) (Pa _) (by simpa using ho2) i'⟩
end
open PySem.W (Dat)
def ko:∀(ks:List Nat) (b:Nat),b<256->(∀k∈ks,k<8)->∀j,j∈aH (dD ks b)↔j∈aH b\/j∈ks
 |[],b,_,_,j=>by simp[dD]
 |k :: ks,b,h,g,j=>by
  have hk:=g k O8;rw[dD,ko ks (bA b k) (mM b h k hk) (λj hj=>g j (O9 _ hj)) j,Py]
  have:j∈aH (bA b k)↔j∈aH b\/j=k:=by
   by_cases j8:j<8
   .have:=DT b h k hk j j8
    rw[RV] at this;simpa using this
   .exact⟨λz=>absurd (rM _ _ z) j8,λz=>by
     rcases z with z|z
     .exact absurd (rM _ _ z) j8
     .exact absurd (z ▸ hk) j8⟩
  rw[this];constructor
  .rintro((z|z)|z)
   .exact .inl z
   .exact .inr (.inl z)
   .exact .inr (.inr z)
  .rintro(z|z|z)
   .exact .inl (.inl z)
   .exact .inl (.inr z)
   .exact .inr z
abbrev cU(ks:List Nat):List Nat:=(Pi 8).filter λk=>ks.contains k
def xW{ks:List Nat}(g:∀k∈ks,k<8):aH (dD ks 0)=cU ks:=by
 unfold cU;have e:=ko ks 0 (by decide) g;unfold aH at e ⊢;refine XZ λk hk=>?_
 have:=e k
 rw[PQ] at this;rw[RV,Uz];refine⟨λz=>?_,λz=>(this.mpr (.inr z)).2⟩;rcases this.mp ⟨hk,z⟩ with y|y
 .rw[PQ] at y;simp at y
 .exact y
def sN{vs:List O6}(h:To vs ns):Vals (ns.map V.int) vs:=by
 induction h with
 |nil=>exact .nil
 |cons n t r ih=>exact .cons ⟨t,rfl⟩ ih
section
variable{X:Cx}
abbrev tH(K:Fg):V->Hp->VK->Prop:=λx H Q=>∃(a:Addr) (ks:List Nat),x=.ref a/\SqL K H a (ks.map λk:Nat=>.int (k:Int))/\(∀k∈ks,k<8)/\∀l,H l=none->Q (.ref l) (upd H l (.lst ((cU ks).map λk:Nat=>.int (k:Int))))
abbrev lC(K:Fg)(te:TE):TE:=λσ H Q=>te σ H λx H1=>tH K x H1 Q
def uX{p p2 pos ZS:Pos} (hc:X.calm=true) (hgl:Gl X "sorted") (hml:X.mg "sorted"=none) (hgs:Gl X "set") (hms:X.mg "set"=none) (he:PE X e te)
  (hs:starEach [e] X.env=[(false,eval e X.env)]:=by rfl) (ZW:starEach [Expr.Call (.Name "set" p2) [e] [] ZS] X.env=[(false,eval (.Call (.Name "set" p2) [e] [] ZS) X.env)]:=by rfl) :
  PE X (.Call (.Name "sorted" p) [.Call (.Name "set" p2) [e] [] ZS] [] pos) (lC X.K te):=by
 intro ξ s σ H Q I h;refine RK (eE I hgl hml AJ ?_);refine UC ?_ ZW rfl;rw[ZW];refine(show wpAny _ _ (spliced ((false,eval (.Call (.Name "set" p2) [e] [] ZS) X.env) :: backTo pos [])) _ _ s from Sd ?_);refine RK (eE I hgs hms Mi ?_);refine QD ?_ hs rfl;rw[hs];refine(show wpAny _ _ (spliced ((false,eval e X.env) :: backTo ZS [])) _ _ s from Sd (bf (he ξ s σ H _ I h) λu s1 ⟨x,H1,I1,r1,q1⟩=>Sw ?_));obtain⟨a,ks,rfl,hq,g8,q⟩:=q1;cases r1;obtain⟨gV,rv,pl,_⟩:=I1.list hq;have hl:s1.heap.IsList a gV.toArray:=pl.isList;have hi:To gV (ks.map λk:Nat=>(k:Int)):=intsAre_of (by rw[Qz];exact rv);have hh:=I1.ok.hd hc;refine GB hh hl hi g8 λh' tk sm kp=>Sw ?_
 refine xR (s:={s1 with heap:=h',toks:=tk}) hh sm λh1 h2 tk2 D vs c k1 k2 lD eD iD=>?_
 have keep:∀b o,s1.heap.get? b=some o->h2.get? b=some o:=λb o e=>k2 b o (k1 b o (kp b o (PF e) e))
 rw[xW g8] at iD;have l8:(cU ks).length<=8:=by unfold cU;exact QT _ _
 have lS:s1.heap.objs.size<=D:=by
  obtain⟨es,ep,t,e,_⟩:=sm.at_
  have:=PF (k1 _ _ e)
  exact Pj (Rx this) lD
 refine⟨.ref D,_,I1.laid (t':=tk2) (o:=.lst ((cU ks).map λk:Nat=>.int (k:Int))) keep lS ⟨?_,vs,c,?_,eD⟩,rfl,q D (I1.hok.fresh lS)⟩
 .rw[O0,Sv];lia
 .have:=sN iD
  rw[Qz] at this;exact this
abbrev gu(te:TE):TE:=λσ H Q=>te σ H λx H1=>∃n:Nat,x=.int (n:Int)/\n<=1000/\∀l,H1 l=none->Q (.ref l) (upd H1 l (.lst ((Pi n).map λk:Nat=>.int (k:Int))))
def oG{p p2 pos ZS:Pos} (hc:X.calm=true) (hgl:Gl X "list") (hml:X.mg "list"=none) (hgs:Gl X "range") (hms:X.mg "range"=none) (he:PE X e te)
  (hs:starEach [e] X.env=[(false,eval e X.env)]:=by rfl) (ZW:starEach [Expr.Call (.Name "range" p2) [e] [] ZS] X.env=[(false,eval (.Call (.Name "range" p2) [e] [] ZS) X.env)]:=by rfl) :
  PE X (.Call (.Name "list" p) [.Call (.Name "range" p2) [e] [] ZS] [] pos) (gu te):=by
 intro ξ s σ H Q I h;refine RK (eE I hgl hml AK ?_);refine QD ?_ ZW rfl;rw[ZW];refine(show wpAny _ _ (spliced ((false,eval (.Call (.Name "range" p2) [e] [] ZS) X.env) :: backTo pos [])) _ _ s from Sd ?_);refine RK (eE I hgs hms boot_range ?_);refine QD ?_ hs rfl;rw[hs];refine(show wpAny _ _ (spliced ((false,eval e X.env) :: backTo ZS [])) _ _ s from Sd (bf (he ξ s σ H _ I h) λu s1 ⟨x,H1,I1,r1,q1⟩=>Sw ?_));obtain⟨n,rfl,hn,q⟩:=q1;obtain⟨t,rfl⟩:=r1;refine call_range_1 (Sw ?_);refine call_list_range (n:=n) (I1.ok.hd hc) (IsRange.new ..) (small_one (by lia) (by lia) (by lia) (by lia)) (by rw[rangeSize_nat];lia) (by lia) λh' tk acc c kp ha hit=>?_
 have hsz:(s1.heap.push {cls:=.type "range",data:=.fields #[.int 0 s1.toks,.int (n:Int) t,.int 1 (s1.toks+1)]}).objs.size=s1.heap.objs.size+1:=size_push' _ _
 have hi:To acc.toList ((Pi n).map λk:Nat=>(k:Int)):=ints_of (by rw[P1,O0,PN];exact hit.1) λj v hj=>by
  rw[P3] at hj;obtain⟨u,e2⟩:=hit.2 j v hj
  have lj:j<n:=by
   have:=(VA.mp hj).1
   rw[hit.1] at this;exact this
  exact⟨_,u,by rw[O4,Qs lj];rfl,by rw[e2];simp⟩
 have lS:s1.heap.objs.size<=(s1.heap.push {cls:=.type "range",data:=.fields #[.int 0 s1.toks,.int (n:Int) t,.int 1 (s1.toks+1)]}).objs.size:=by rw[hsz];exact WR _
 refine⟨.ref _,_,I1.laid (t':=tk) (o:=.lst ((Pi n).map λk:Nat=>.int (k:Int))) (λb o e=>kp b o (Pf _ e)) lS ⟨?_,acc.toList,c,?_,by rw[US];exact ha⟩,rfl,q _ (I1.hok.fresh lS)⟩
 .rw[O0,PN,Sv];lia
 .have:=sN hi
  rw[Qz] at this;exact this
abbrev Nc:List V->Hp->VK->Prop:=λxs H Q=>∃i j,xs=[.int i,.int j]/\Q (.int (if j > i then j else i)) H
end
abbrev J6:List V->Hp->VK->Prop:=λxs H Q=>∃a de,xs=[V.ref a]/\H a=some (.dK de)/\Q (.int de.length) H
def GN{k:a7}(h:mJ k v=true):RelV (kV k) v:=by
 cases k with
 |inl i =>
  cases v <;> simp[mJ,RF] at h
  subst h;exact⟨_,rfl⟩
 |inr x =>
  cases v <;> simp[mJ,Xg] at h
  subst h;exact⟨_,rfl⟩
def o8{P:P6}{w:Qp}:∀{es:List Vo} {vs:List (a7×O6)},Pairs (bF P w) es vs->Vals (vs.map λkv=>kV kv.1) (es.map λe=>e.key)
 |_,_,.nil=>.nil
 |_,_,.cons h _ r=>.cons (GN h) (o8 r)
def pairs_len{P:P6}{w:Qp}:∀{es:List Vo} {vs:List (a7×O6)},Pairs (bF P w) es vs->es.length=vs.length
 |_,_,.nil=>rfl
 |_,_,.cons _ _ r=>congrArg (· + 1) (pairs_len r)
abbrev yo:List V->Hp->VK->Prop:=λxs H Q=>∃a de,xs=[.ref a]/\H a=some (.dK de)/\∀l:Addr,H l=none->Q (.ref l) (upd H l (.lst (de.map λkv=>kV kv.1)))
def so{X:Cx} (hc:X.calm=true):e_ X (.type "list") yo:=by
 intro ξ s σ H xs us Q I r h;obtain⟨a,de,rfl,ha,q⟩:=h;obtain⟨u,rfl,ru⟩:=vals1 r;cases ru;obtain⟨z,lo,vs,kv,o,es,ep,ho,ex,dt,_,pr,_⟩:=IR I.hok ha
 have ek:(de.map λkv=>kV kv.1)=vs.map λkv=>kV kv.1:=by
  have:=congrArg (Y5 kV) kv.keys
  rw[Qz,Qz] at this;exact this
 have lk:de.length=vs.length:=by have:=congrArg Rg ek;rwa [O0,O0] at this
 have sz:es.size=de.length:=by rw[<- P1,pairs_len pr,lk]
 refine Yi (yl (es:=es) (ep:=ep) lo) (I.ok.hd hc) ⟨o,ho,ex,dt⟩ (by rw[sz];exact z) λh' tk acc c kp hl hit=>?_
 have Z_:acc.toList=es.toList.map λe=>e.key:=by
  refine Sy λj=>?_
  by_cases lt:j<es.size
  .have hj:j<acc.toList.length:=by rw[P1];rw[hit.1];exact lt
   have e1:acc.toList[j]?=some acc.toList[j]:=O1 hj;obtain⟨e,ee,ev⟩:=hit.2 j acc.toList[j] (by rw[<- P3];exact e1);rw[e1,ev,O4,P3,ee];rfl
  .rw[PY (by rw[P1,hit.1];lia),PY];rw[O0,P1];lia
 have vals:Vals (de.map λkv=>kV kv.1) acc.toList:=by
  rw[Z_,ek];exact o8 pr
 refine⟨.ref s.heap.objs.size,_,I.laid (t':=tk) kp (Pa _) (show b5 X.prog X.w _ h' _ (.lst (de.map λkv=>kV kv.1)) from⟨?_,acc.toList,c,vals,by rw[US];exact hl⟩),rfl,q _ (I.hok.fresh (Pa _))⟩;rw[O0];exact z
open PySem.Builtin.Str (occurrences lastOccurrence strSub subAt partsBetween)
open PySem PySem.Spec PyProof.Rows PySem.W
end L2
namespace L2
open PySem PySem.Spec PyProof.Rows
open PySem.Builtin.Str (strSub subAt occurrences)
def pX.of{sc scope:Scope}{N M ys:List Str}(h:decide (scope.kind=.function/\(∀y∈scope.names,y.2≠.cell)/\(∀y∈scope.names,y.2=.local->scope.names.lookup y.1=some .local)/\(∀y∈ys,scope.names.lookup y=some .local)/\(ys++M).Nodup/\M.length=N.length/\(∀p∈M.zip N,p.1=p.2\/(Cs scope sc).lookup p.1=none)/\(∀y∈M,(Cs scope sc).lookup y≠some .local)/\∀n∈scope.names,n.2=.free->sc.names.lookup n.1=some .cell)=true):pX sc N M ys scope:=by
 obtain⟨a,b,c,d,e,f,g,i,j⟩:=of_decide_eq_true h;exact⟨a,b,c,d,e,f,g,i,j⟩
abbrev OH:Expr->List Str
 |.Name x _=>[x]
 |.Tuple es _ _=>es.map λe=>match e with|.Name x _=>x|_=>V6
 |_=>[]
section
variable{X:Cx}{x:Str}{scope:Scope}{elt iter tg cn:Expr}{pos py sp:Pos}{wi:TI}{g:TG}{tc:TT}{te:TE}{n i:Nat}{y:Str}
abbrev OV:=@KC X x X.N scope
abbrev OT:=@Kz X scope elt iter tg pos wi g te n (OH tg) X.N
abbrev OU:=@KB X scope elt iter tg cn pos wi g tc te n (OH tg) X.N
end
def oT{x:Int}(h:x.natAbs<2 ^ 13500):U9 x y=false:=by
 unfold U9;by_cases z:x=0
 .subst z;simp
 .have l:x.natAbs.log2<13500:=(WS (by lia)).mpr h;have e:(x == 0)=false:=by simp[z]
  simp only[e];simp;intro _;lia
abbrev MQ(i j:Int):Prop:=j≠0/\i.natAbs<2 ^ 13500
def Dj:eJ X (binaryOp .FloorDiv) (rI MQ λi j=>.int (i.fdiv j)):=E2 λ_ _ _ _ _ _ _ hc q=>XH hc.1 q (.inl (oT hc.2))
nonrec abbrev uW:R2:=rI MQ λi j=>.int (i.fdiv j)
abbrev J5(K:Fg):List V->Hp->VK->Prop:=λxs H Q=>∃(a:Addr) (ns:List Int),xs=[.ref a]/\SqT K H a (ns.map V.int)/\ns≠[]/\∀m,m∈ns->(∀x∈ns,m<=x)->Q (.int m) H
def Az{X:Cx} (hc:X.calm=true):e_ X (.builtin "min") (J5 X.K):=by
 intro ξ s σ H xs us Q I r h;obtain⟨a,ns,rfl,q1,ne,q⟩:=h;obtain⟨u,rfl,ru⟩:=vals1 r;cases ru;obtain⟨gV,rv,p,_⟩:=I.tuple q1;obtain⟨l,e1,e2⟩:=kg rv;have p:s.heap.IsTuple a gV.toArray:=p;rw[e1,show(l.map λp=>Tf p.1 p.2).toArray=intItems l.toArray by simp[intItems]] at p;have ln:l.length=ns.length:=by rw[<- e2,O0]
 have pos:=TX.mpr ne;have Ad:a<s.heap.objs.size:=by obtain⟨_,e,_⟩:=p;exact PF e
 refine call_min_walk (Vt p ⟨_,_,_,_,_,_,_,rfl,XG.tuple (A:=X.A.in1) (I.ok.hd hc) s.heap.objs.size a (Qb Ad) (intItems l.toArray),⟨⟨_,PR _ rfl,rfl,rfl⟩,p.push _⟩,λb hb=>?_,by simp[intItems];lia,CmpOf.ints_lt (numAt l.toArray) (λ_ _=>intItems_at),λv h' tk hP hk=>?_⟩)
 .show b<(s.heap.push _).objs.size;rw[RP];rcases Py.mp hb with rfl|hb
  .exact UH _
  .cases Po.mp hb;exact VS Ad
 have ZQ:∀b o,s.heap.get? b=some o->h'.get? b=some o:=λb o e=>hk b o (λhm=>by cases Po.mp hm;exact absurd (PF e) (R5 _)) (Pf _ e)
 obtain⟨t,rfl⟩:=intItems_at hP;have sz:(intItems l.toArray).size=l.length:=by simp[intItems]
 obtain⟨h1,h2⟩:=argBest_lt (numAt l.toArray) ((intItems l.toArray).size-1);have el:l.toArray.toList.map (·.1)=ns:=by simpa using e2
 refine⟨.int _,H,I.kept (t':=tk) ZQ,⟨_,rfl⟩,q _ ?_ λx hx=>?_⟩
 .rw[numAt_eq,el];exact getD_mem (by lia)
 .obtain⟨j,hj,rfl⟩:=mem_getD hx;rw[<- el,<- numAt_eq];exact h2 j (by lia)
nonrec abbrev J3:R2:=λx y H Q=>∃b,x=.bl b/\y=.bl true/\Q (.bl (!b)) H
def HS:eJ X (compareOp .IsNot) J3:=by
 intro ξ s σ H x y v u Q I rx ry h;obtain⟨b,rfl,rfl,q⟩:=h;cases rx;cases ry;cases b
 .exact Pt (aZ I q rfl)
 .exact Pt (aZ I q rfl)
end L2
open L2
local macro_rules | `(tactic| fail "z")=>`(tactic| first
 |(show(0:Int)<_;omega)
 |(unfold Jh;omega)
 |(unfold CMul;omega)
 |exact⟨by decide,by decide,by decide⟩)
local macro_rules | `(tactic| fail "1")=>`(tactic| first
 |(with_reducible first|apply NI|apply LJ|apply zA)
 |((with_reducible refine' vf ?k1 ?_);(case k1=>exact rfl))
 |(with_reducible first|apply OW|apply NS|apply NO|apply N3|apply NT|apply NZ|apply Ln|apply NG|apply N9|apply NL|apply Lx|apply Iy|apply Lw|apply N_|apply NR|apply LK|apply N1|apply IC|apply DM|apply LG|apply LI|apply N6|apply NF|apply NU|apply NE|apply Lr|apply NH|apply DL|apply Lu|apply NX|apply LD|apply IA|apply IB|apply LC|apply LF|apply DN|apply Iz|apply ND|apply NW|apply Lv|apply N2|apply LH|apply Lp|apply Iw|apply Lz|apply N8|apply N7|apply N5|apply Ix|apply LA|apply Ly|apply vj|apply zC|apply Iu|apply Iv)
 |((with_reducible refine' cP ?k1 ?_);(case k1=>fail "z"))
 |((with_reducible refine' NP ?k1 ?_);(case k1=>(constructor <;> omega)))
 |((with_reducible refine' NQ ?k1 ?_);(case k1=>(constructor <;> omega))))
local macro_rules | `(tactic| cbv)=>`(tactic| repeat fail "1")
namespace G1
open PySem L2 Fr
open PySem.W (Dat kqdOk)
nonrec abbrev ends(Q:VK):cu:={nx:=λ_ H'=>Q .non H',rt:=Q}
abbrev eK(n:Nat)(hs:List Int):Prop:=hs.length=n/\∀x∈hs,0<=x/\x<=3
nonrec abbrev dI(ns:List Int):Dat:=.tuple (ns.map Qm)
def AccZ.ints{K:Fg}{ns:List Int}(A:AccZ K H0 l H (ns.map Qm)):H l=some (.lst (ns.map V.int)):=by
 obtain⟨xs,h1,h2⟩:=A.at_;rw[RpL.ints_of h2] at h1;exact h1
def AccZ.strs{K:Fg}{ns:List Str}(A:AccZ K H0 l H (ns.map Wv)):H l=some (.lst (ns.map V.str)):=by
 obtain⟨xs,h1,h2⟩:=A.at_;rw[RpL.xp h2] at h1;exact h1
nonrec abbrev az:Str:="abcdefghijklmnopqrstuvwxyz"
def Ov:∀j:Nat,j<26->az.cps.toList[j]?=some (97+j):=by decide +kernel
def Mr:az.length<=sizeLine:=by decide +kernel
def Ou{i:Int}(h0:0<=i)(h1:i<26):ur az.cps.toList i=some (97+i.toNat):=by
 have e:i=((i.toNat:Nat):Int):=by lia
 have q:=aO (Ov i.toNat (by lia));rw[<- e] at q;exact q
abbrev Low(z:Str):Prop:=∀x∈z.cps.toList,97<=x/\x<=122
def FA(z:Str):z.cps.toList.length=z.length:=by simp[YK]
def Il{c:Nat}(h0:97<=c)(h1:c<=122):Low ⟨#[c]⟩:=λx hx=>by
 have:x=c:=by simpa using hx
 lia
def Im{lo:Option Int}(h:Low z):Low (jS z lo hi):=λx hx=>by
 have q:x∈(IF z.cps.toList hi).drop (lo.getD 0).toNat:=by simpa[jS] using hx
 have q2:=Tz q;cases hi with
 |none=>exact h x q2
 |some j=>exact h x (QP q2)
def Cf(z:Str)(lo hi:Option Int):(jS z lo hi).length=(IF z.cps.toList hi).length-(lo.getD 0).toNat:=by
 show(W6 (lo.getD 0).toNat (IF z.cps.toList hi)).toArray.size=_;rw[PM,Rc]
abbrev Mv(w:Str):Prop:=1<=w.length/\w.length<=8/\Low w
abbrev sA(ws:List Str):Prop:=ws.Nodup/\∀w∈ws,Mv w
def cC{α:Type}{xs:List α}{x:α}(h:xs.Nodup)(n:x∉xs):(xs++[x]).Nodup:=by
 rw[Tq];refine⟨h,by simp,?_⟩;intro a ha b hb e;rw[Po.mp hb] at e;exact n (e ▸ ha)
def ck{α:Type}{P:α->Prop}{xs:List α}{x:α}(h:∀y∈xs,P y)(n:P x):∀y∈xs++[x],P y:=λy hy=>by
 rcases Pz.mp hy with q|q
 .exact h y q
 .rw[Po.mp q];exact n
abbrev ga(q d:Int):Prop:=0<q/\0<d/\Gd.gd q d=1/\q<=10000000000/\d<=10000000000
def vc(ns:List Int)(n:Nat):kqdOk (n+1) (dI ns)=true:=by
 show((ns.map Qm).all (kqdOk n))=true;rw[UI];intro x hx;obtain⟨i,_,rfl⟩:=Pl.mp hx;cases n <;> rfl
def Fy(h:dI a=dI b):a=b:=by
 have:=Dat.tuple.inj h
 exact(XA (λx y e=>Qm.inj e)).mp this
def K5{hs:List (List Int)}:dI a∈hs.map dI↔a∈hs:=by
 rw[Pl];constructor
 .rintro⟨b,hb,e⟩;rw[<- Fy e];exact hb
 .intro h;exact⟨a,h,rfl⟩
abbrev uy(n:Nat)(hs:List (List Int)):Prop:=hs.Nodup/\∀h∈hs,eK n h
end G1
namespace G1
open PySem L2 Fr
open PySem.W (Dat kqdOk)
structure Tn where
 fr:List Int
 to:List Int
 q:Int
 d:Int
abbrev dT(t:Tn):Dat:=.tuple [dI t.fr,dI t.to,dI [t.q,t.d]]
abbrev TurnOk(hs:List (List Int))(t:Tn):Prop:=t.fr∈hs/\t.to∈hs/\t.fr≠t.to/\ga t.q t.d
abbrev bZ(t:Tn):List Int×List Int:=(t.fr,t.to)
structure sC (hs:List (List Int)) (ts:List Tn):Prop where
 ne:ts≠[]
 le:ts.length<=8
 nd:(ts.map bZ).Nodup
 ok:∀t∈ts,TurnOk hs t
abbrev dP(p:Nat×Nat):Dat:=dI [(p.1:Int),(p.2:Int)]
def L8(h:dP a=dP b):a=b:=by
 have e:=Fy h;have e1:(a.1:Int)=b.1:=(SK e).1;have e2:(a.2:Int)=b.2:=(SK (SK e).2).1;obtain⟨a1,a2⟩:=a;obtain⟨b1,b2⟩:=b;have e1':a1=b1:=T8 e1;have e2':a2=b2:=T8 e2;rw[e1',e2']
def K4{ps:List (Nat×Nat)}:dP a∈ps.map dP↔a∈ps:=by
 rw[Pl];constructor
 .rintro⟨b,hb,e⟩;rw[<- L8 e];exact hb
 .intro h;exact⟨a,h,rfl⟩
abbrev kK(n:Nat)(p:Nat×Nat):Prop:=p.1<n/\p.2<n/\p.1≠p.2
abbrev kh(hs:List (List Int))(p:Nat×Nat):List Int×List Int:=(hs.getD p.1 [],hs.getD p.2 [])
structure Good (hs:List (List Int)) (ps:List (Nat×Nat)) (ts:List Tn):Prop where
 nd:ps.Nodup
 le:ps.length<=8
 eq:ts.map bZ=ps.map (kh hs)
 ok:∀p∈ps,kK hs.length p
 pc:∀t∈ts,ga t.q t.d
def getD_mem{hs:List (List Int)}{i:Nat}(h:i<hs.length):hs.getD i []∈hs:=by
 rw[O2,O1 h];exact Qx h
def jv{hs:List (List Int)}(nd:hs.Nodup){i j:Nat}(hi:i<hs.length)(hj:j<hs.length)(e:hs.getD i []=hs.getD j []):i=j:=by
 rw[O2,O1 hi,O2,O1 hj] at e;have e':hs[i]=hs[j]:=e;have pw:=List.pairwise_iff_getElem.mp nd;rcases X0 i j with z|z|z
 .exact absurd e' (pw i j hi hj z)
 .exact z
 .exact absurd e'.symm (pw j i hj hi z)
def nodup_map_on{α β:Type}{f:α->β}:∀{xs:List α},xs.Nodup->(∀a∈xs,∀b∈xs,f a=f b->a=b)->(xs.map f).Nodup
 |[],_,_=>RB
 |x :: xs,h,hf=>by
  rw[Qn,Qf];refine⟨λhm=>?_,nodup_map_on (Qf.mp h).2 λa ha b hb=>hf a (O9 _ ha) b (O9 _ hb)⟩;obtain⟨y,hy,e⟩:=Pl.mp hm;rw[<- hf y (O9 _ hy) x O8 e] at h;exact(Qf.mp h).1 hy
def Good.turns(g:Good hs ps ts)(nd:hs.Nodup)(ne:ps≠[]):sC hs ts:=by
 have len:ts.length=ps.length:=by have:=congrArg Rg g.eq;simpa using this
 refine⟨λz=>?_,by rw[len];exact g.le,?_,λt ht=>?_⟩
 .rw[z] at len;exact ne (Q9.mp len.symm)
 .rw[g.eq];refine nodup_map_on g.nd λa ha b hb e=>?_
  have oa:=g.ok a ha;have ob:=g.ok b hb;have e1:=jv nd oa.1 ob.1 (congrArg UY e);have e2:=jv nd oa.2.1 ob.2.1 (congrArg Uu e);obtain⟨a1,a2⟩:=a;obtain⟨b1,b2⟩:=b;simp only at e1 e2;rw[e1,e2]
 .have hm:bZ t∈ps.map (kh hs):=by rw[<- g.eq];exact Pl.mpr ⟨t,ht,rfl⟩
  obtain⟨p,hp,e⟩:=Pl.mp hm;have op:=g.ok p hp;have e1:hs.getD p.1 []=t.fr:=congrArg UY e;have e2:hs.getD p.2 []=t.to:=congrArg Uu e;refine⟨e1 ▸ getD_mem op.1,e2 ▸ getD_mem op.2.1,λz=>op.2.2 ?_,g.pc t ht⟩;rw[<- e1,<- e2] at z;exact jv nd op.1 op.2.1 z
structure nh (ws:List Str) (ts:List Tn):Prop where
 words:sA ws
 w1:1<=ws.length
 w5:ws.length<=5
 turns:∃hs,uy ws.length hs/\hs.length<=8/\sC hs ts
abbrev dV(ws:List Str)(ts:List Tn):Dat:=.tuple [.tuple (ws.map Wv),.tuple (ts.map dT)]
end G1
namespace Sm
end Sm
namespace L2
nonrec abbrev ρ(n:Nat)(sp:Sp)(t:TS):Prop:=∀⦃vs:List V⦄⦃H:Hp⦄⦃Q:VK⦄⦃E:XK⦄⦃N:List PySem.Str⦄,N.length=n->sp vs H Q E->t (G1.ends Q) (L2.start N vs) H
end L2
set_option hygiene false in
local macro_rules | `(tactic| fail "R")=>`(tactic| intro vs H Q E N hN h)
namespace Vs
open PySem L2 Fr G1 Sm
open PySem.W (Dat kqdOk)
abbrev cK(hs:List (List Int))(h:List Int):List (List Int):=if h∈hs then hs else hs++[h]
abbrev ik(hs:List (List Int))(ts:List Tn):List (List Int):=ts.foldl (λhs t=>cK (cK hs t.fr) t.to) hs
abbrev aF(ts:List Tn):List (List Int):=ik [] ts
def t5(hs:List (List Int))(h:List Int):(cK hs h).length<=hs.length+1:=by
 unfold cK;split
 .lia
 .simp
def mP:∀(ts:List Tn) (hs:List (List Int)),(ik hs ts).length<=hs.length+2*ts.length
 |[],hs=>by simp[ik]
 |t :: ts,hs=>by
  have h1:=mP ts (cK (cK hs t.fr) t.to);have h2:=t5 (cK hs t.fr) t.to;have h3:=t5 hs t.fr;show(ik (cK (cK hs t.fr) t.to) ts).length<=_;rw[P7];lia
def zJ(hs:List (List Int))(ts:List Tn)(t:Tn):ik hs (ts++[t])=cK (cK (ik hs ts) t.fr) t.to:=by
 unfold ik;rw[Rh];rfl
abbrev iz(h:List Int):List a7:=h.map TF
def kj(h:List Int):(iz h).map kV=h.map V.int:=by
 unfold iz;rw[Qz];rfl
def vZ(h:iz a=iz b):a=b:=(XA (λx y e=>Uf e)).mp h
def oD{de:List (List a7×V)}{hs:List (List Int)}(e:de.map (·.1)=hs.map iz)(h:List Int)(v:V):(cc de (iz h) v).map (·.1)=(cK hs h).map iz:=by
 have any:(de.any λkv=>decide (kv.1=iz h))=decide (h∈hs):=by
  rw[RV,List.any_eq_true,decide_eq_true_iff];constructor
  .rintro⟨kv,hm,q⟩
   have:kv.1∈hs.map iz:=by rw[<- e];exact Pl.mpr ⟨kv,hm,rfl⟩
   obtain⟨g,hg,eg⟩:=Pl.mp this;rw[of_decide_eq_true q] at eg;rw[<- vZ eg];exact hg
  .intro hm
   have:iz h∈de.map (·.1):=by rw[e];exact Pl.mpr ⟨h,hm,rfl⟩
   obtain⟨kv,hk,ek⟩:=Pl.mp this;exact⟨kv,hk,decide_eq_true ek⟩
 unfold cc cK;rw[any];by_cases z:h∈hs
 .rw[if_pos z,decide_eq_true z,if_pos rfl,Qz,<- e];refine Q3 λkv _=>?_
  show(if kv.1=iz h then (kv.1,v) else kv).1=kv.1;split <;> rfl
 .rw[if_neg z,decide_eq_false z,if_neg PZ,O_,O_,e];rfl
def zu{K:Fg}{H:Hp}:∀{de:List (List a7×V)} {hs:List (List Int)} {bs:List Addr},de.map (·.1)=hs.map iz->Paired (λ(p:List a7×V) b=>H b=some (.tup (p.1.map kV))) de bs->RzL K H (bs.map V.ref) (hs.map dI)
 |[],[],_,_,.nil=>.nil
 |[],h :: hs,_,e,_=>by simp at e
 |kv :: de,[],_,e,_=>by simp at e
 |kv :: de,h :: hs,_,e,.cons q t=>by
  have e1:kv.1=iz h:=(SK e).1;have e2:=(SK e).2;rw[e1,kj] at q;exact .cons (.tup q (RpL.ints h)) (zu e2 t)
abbrev iQ(K:Fg):Sp:=λvs H Q _=>∃(v:V) (ts:List Tn),vs=[v]/\Rz K H v (.tuple (ts.map dT))/\ts.length<=100/\∀(p:Addr) (H':Hp),AccZ K H p H' ((aF ts).map dI)->Q (.ref p) H'
abbrev iJ(K:Fg):TS:=(aq (av xk (al 1))
 (aq (a5 (vm K (aa 0)) (al 2)
 (aq (oz (aa 1) (ar (aD K) (aa 2) (tC (.int 0))) (tC (.bl true)))
 (oz (aa 1) (ar (aD K) (aa 2) (tC (.int 1))) (tC (.bl true)))))
 (aI (b_ EL (ae (aa 1) aj)))))
def kc{K:Fg}(h:Rz K H v (dT t)):∃(a:Addr) (v1 v2 v3:V),v=.ref a/\H a=some (.tup [v1,v2,v3])/\Rz K H v1 (dI t.fr)/\Rz K H v2 (dI t.to)/\Rz K H v3 (dI [t.q,t.d]):=by
 obtain⟨a,xs,e,ha,r⟩:=h.cF;cases r with
 |cons r1 r =>
  cases r with
  |cons r2 r =>
   cases r with
   |cons r3 r =>
    cases r;exact⟨a,_,_,_,e,ha,r1,r2,r3⟩
def bN{K:Fg}(h:Rz K H v (dI ns)):∃a:Addr,v=.ref a/\H a=some (.tup (ns.map V.int)):=by
 obtain⟨a,xs,e,ha,r⟩:=h.cF;rw[RpL.ints_of r] at ha;exact⟨a,e,ha⟩
def uV{K:Fg}:ρ 3 (iQ K) (iJ K):=by
 fail "R";obtain⟨v,ts,rfl,rv,hl,k⟩:=h;obtain⟨a,xs,rfl,ha,rx⟩:=rv.cF;rw[L2.aP hN];walk_at "t";have lx:xs.length=ts.length:=by rw[rx.length,O0]
 unfold iJ;cbv;intro d nd;cbv;refine NJ (SqT.of ((ak nd _) _ _ ha)) ?_;refine Ae (xs:=xs) (λi σ H2=>∃(de:List (List a7×V)) (u:Option V),σ=[⇑a,⇑d,u]/\Same H H2/\H2 d=some (.dT de)/\de.map (·.1)=(aF (ts.take i)).map iz) ⟨[],none,rfl,ak nd _,ag,rfl⟩ ?_ ?_ ?_
 .rintro i σ H2 _ ⟨de,u,rfl,S,ed,ek⟩;exact SqT.of (S _ _ ha)
 .rintro i z σ H2 hz ⟨de,u,rfl,S,ed,ek⟩;obtain⟨dd,g1,g2⟩:=rx.get hz;rw[O4] at g1;obtain⟨t,ht,rfl⟩:=Pb.mp g1;obtain⟨at_,v1,v2,v3,rfl,hat,r1,r2,_⟩:=kc (g2.same S);obtain⟨b1,rfl,Z3⟩:=bN r1;obtain⟨b2,rfl,hb2⟩:=bN r2;have ti:i<ts.length:=(O3.mp ht).1;have kl:de.length=(aF (ts.take i)).length:=by have:=congrArg Rg ek;simpa using this
  have hl2:=mP (ts.take i) [];rw[Px] at hl2;have kl2:de.length<=2*i:=by rw[kl];unfold aF;simp only[T_] at hl2;lia
  have e1:=oD ek t.fr (.bl true);have e2:=oD e1 t.to (.bl true);have le1:=ce de (iz t.fr) (.bl true);have n1:b1≠d:=j9 Z3 ed (by intro z;cases z);have n2:b2≠d:=j9 hb2 ed (by intro z;cases z);have n3:at_≠d:=j9 hat ed (by intro z;cases z);cbv;refine aG (SqT.of hat) (v:=.ref b1) rfl ?_;refine⟨d,_,rfl,DPut.t ed (k:=iz t.fr) (by rw[kj];exact Z3) (au (by lia)),?_⟩;cbv;refine aG (SqT.of (by rw[aE n3];exact hat)) (v:=.ref b2) rfl ?_;refine⟨d,_,rfl,DPut.t ag (k:=iz t.to) (by rw[kj,aE n2];exact hb2) (au (by lia)),?_⟩;rw[FW];refine⟨_,_,rfl,λb o q=>?_,ag,?_⟩
  .rw[aE (aw q nd)];exact S _ _ q
  .rw[e2];congr 1;have et:ts.take (i+1)=ts.take i++[t]:=by rw[Ps,ht];rfl
   rw[et];exact(zJ [] (ts.take i) t).symm
 .rintro σ H2 ⟨de,u,rfl,S,ed,ek⟩;rw[lx,Pc (Pa _)] at ek;cbv;refine⟨d,de,rfl,ed,λl bs nl pr=>?_⟩;have S2:=ak nl (.lst (bs.map V.ref));exact k l _ ⟨S.trans S2,S.free nl,_,ag,(zu ek pr).same S2⟩
abbrev gy(K:Fg):Sp:=λvs H Q _=>∃(v:V) (ws:List Str) (ts:List Tn),vs=[v]/\Rz K H v (dV ws ts)/\ts.length<=100/\∀(p:Addr) (H':Hp),AccZ K H p H' ((aF ts).map dI)->Q (.ref p) H'
def si{K:Fg}(h:Rz K H v (dV ws ts)):∃(a:Addr) (v1 v2:V),v=.ref a/\H a=some (.tup [v1,v2])/\Rz K H v1 (.tuple (ws.map Wv))/\Rz K H v2 (.tuple (ts.map dT)):=by
 obtain⟨a,xs,e,ha,r⟩:=h.cF;cases r with
 |cons r1 r =>
  cases r with
  |cons r2 r =>
   cases r;exact⟨a,_,_,e,ha,r1,r2⟩
abbrev qy(K:Fg):TS:=(aI (aC (iQ K) [] E0 (ae (ar (aD K) (aa 0) (tC (.int 1))) aj)))
def CJ{K:Fg}:ρ 1 (gy K) (qy K):=by
 fail "R";obtain⟨v,ws,ts,rfl,rv,hl,k⟩:=h;obtain⟨a,v1,v2,rfl,ha,r1,r2⟩:=si rv;rw[L2.aP hN];walk_at "t";unfold qy;cbv;refine aG (SqT.of ha) (v:=v2) rfl ?_;exact⟨v2,ts,rfl,r2,hl,k⟩
end Vs
namespace G2
open PySem L2 Fr G1
open PySem.W (Dat kqdOk)
abbrev OZ(n:Int):Prop:=0<=n/\n<2147483587
abbrev dC:Sp:=λvs H Q _=>∃c p:Int,vs=[.int c,.int p]/\0<=p/\p<=1000/\∀m:Int,OZ m->Q (.int m) H
nonrec abbrev BO(K:Fg):TS:=(aq (av (ar aS (ar aX (ar aX (ar (rI CMul λi j=>.int (i*j)) (aa 2) (aa 2)) (ar (rI CMul λi j=>.int (i*j)) (tC (.int 48271)) (aa 1))) (tC (.int 7))) (tC (.int 2147483629))) (al 2))
 (aI (ar aS (ar aX (ar (rI CMul λi j=>.int (i*j)) (aa 2) (aa 2)) (tC (.int 69621))) (tC (.int 2147483587)))))
abbrev wE(K:Fg):TS:=(aq (av (ar aS (ar aX (ar aX (ar (rI CMul λi j=>.int (i*j)) (ar aS (aa 0) (tC (.int 2147483629))) (tC (.int 16807))) (ar (rI CMul λi j=>.int (i*j)) (tC (.int 69621)) (aa 1))) (tC (.int 11))) (tC (.int 2147483629))) (al 2))
 (BO K))
def GZ{K:Fg}:ρ 3 dC (wE K):=by
 fail "R";obtain⟨c,p,rfl,h0,h1,k⟩:=h;rw[L2.aP hN];walk_at "t";unfold wE;cbv;generalize hx:(c % 2147483629*16807+69621*p+11) % 2147483629=x;have x0:0<=x/\x<2147483629:=by lia
 cbv;generalize hy:(x*x+48271*p+7) % 2147483629=y;have y0:0<=y/\y<2147483629:=by lia
 cbv;exact k _ ⟨by lia,by lia⟩
abbrev wY(K:Fg):TS:=(aq (gR (aR (ar EK (aa 1) (tC (.int 0))))
 (JA 0 1 (ae (aa 1) (ae (ar Hk (aa 0) (aa 1)) aj))))
 (aI (b_ J8 (ae (aa 0) aj))))
def G9{K:Fg}:ρ 2 nQ (wY K):=by
 fail "R";obtain⟨a,b,rfl,k⟩:=h;rw[L2.aP hN];walk_at "t";unfold wY
 refine iy (λσ H'=>H'=H/\∃i j:Int,σ=[↥i,↥j]/\Gd.gd i j=Gd.gd a b)
  (λσ _=>match σ with | [_,↥j]=>j.natAbs|_=>0) ⟨rfl,a,b,rfl,rfl⟩ ?_ ?_
 .rintro σ H' ⟨rfl,i,j,rfl,e⟩;refine⟨_,rfl,rfl,_,rfl,LQ (λhj=>?_) (λhj=>?_)⟩
  .refine⟨_,rfl,_,rfl,_,rfl,_,_,rfl,rfl,hj,_,_,rfl,⟨rfl,j,i.fmod j,rfl,(Gd.zO i j).trans e⟩,?_⟩;exact Gd.zQ hj
  .subst hj;refine⟨_,rfl,_,rfl,?_⟩;rw[Gd.Fk,e];exact k
 .rintro σ H' R R' h ⟨v,e,sc,c,ec,q⟩;exact⟨v,e,sc,c,ec,h _ _ q⟩
abbrev iP(K:Fg):Sp:=λvs H Q _=>∃a b:Int,vs=[.int a,.int b]/\∀(p:Addr) (q d:Int) (H':Hp),Same H H'->ga q d->Rz K H' (.ref p) (dI [q,d])->Q (.ref p) H'
def p9:(10:Int) ^ (9:Int).toNat=1000000000:=by decide +kernel
def Oi:Gd.gd 1 1=1:=by decide +kernel
abbrev fT(K:Fg):Sp:=λvs H Q _=>∃n m:Int,vs=[.int n,.int m]/\0<=n/\1<=m/\m<=5/\∀(p:Addr) (H':Hp) (ws:List Str),Same H H'->sA ws->ws.length=m.toNat->Rz K H' (.ref p) (.tuple (ws.map Wv))->Q (.ref p) H'
def FS:∀j:Nat,j<4->(jS "xyz" none (some (j:Int))).length<=3/\Low (jS "xyz" none (some (j:Int))):=by
 intro j hj;have sl:=Cf ("xyz":Str) none (some (j:Int));have l3:(("xyz":Str)).length=3:=by decide +kernel
 refine⟨?_,Im ?_⟩
 .rw[sl];simp only[IF,Px,FA,l3,Option.getD];lia
 .intro x hx
  have:(("xyz":Str)).cps.toList=[120,121,122]:=by decide +kernel
  rw[this] at hx;simp only[Py,Sc,or_false] at hx;lia
def jB(a b:Str):(a++b).cps.toList=a.cps.toList++b.cps.toList:=by
 show(a.cps++b.cps).toList=_;exact Array.toList_append
def zg(h1:Low a)(h2:Low b):Low (a++b):=λx hx=>by
 rw[jB] at hx;rcases Pz.mp hx with q|q
 .exact h1 x q
 .exact h2 x q
nonrec abbrev uH (K:Fg):TS:=(bM (dU K "list" aN (aa 3) (ae (ar Hr (ar Hr (aa 5) (MT J1 (tC (.str "xyz")) lE (BW (ar aS (ar b9 (aa 0) (tC (.int 26))) (tC (.int 4)))))) (ar Hh (aa 5) (ar aS (ar b9 (aa 0) (tC (.int 104))) (tC (.int 2))))) aj)))
nonrec abbrev uG(K:Fg):TS:=(aq (a5 (cw (ae (aa 1) aj)) (al 4)
 (aq (av (ar Hl (aa 2) (ar aS (ar aX (aa 0) (ar (rI CMul λi j=>.int (i*j)) (tC (.int 5)) (aa 4))) (tC (.int 26)))) (al 5))
 (uH K)))
 (aI (b_ (cz K) (ae (aa 3) aj))))
abbrev kX (K:Fg):TS:=(aq (av (tC (.str "abcdefghijklmnopqrstuvwxyz")) (al 2))
 (aq (av (bU aj) (al 3))
 (uG K)))
def x_{K:Fg}:ρ 6 (fT K) (kX K):=by
 fail "R";obtain⟨n,m,rfl,n0,m1,m5,k⟩:=h;rw[L2.aP hN];walk_at "t";unfold kX;cbv;refine⟨by decide,λl nl=>?_⟩;cbv
 refine aW (λi σ H2=>∃(ws:List Str) (v4 v5:Option V),σ=[↥n,↥m,some (.str az),⇑l,v4,v5]/\AccZ K H l H2 (ws.map Wv)/\ws.length=i/\sA ws /\
   ∀(j:Nat) (w:Str),ws[j]?=some w->w.cps.toList[0]?=some (97+((n+5*(j:Int)) % 26).toNat))
  ⟨[],none,none,rfl,AccZ.start (Same.refl _) nl,rfl,⟨RB,by simp⟩,by simp⟩ ?_ ?_
 .rintro i σ H2 hi ⟨ws,v4,v5,rfl,A,hl,hw,hj⟩;have e0:(0:Int)+(i:Int)=(i:Int):=by lia
  rw[e0];have f0:=Q0 (n+5*(i:Int)) (b:=26) (by lia);have f1:=QR (n+5*(i:Int)) (b:=26) (by lia);cbv;refine NV Mr (Ou f0 f1) ?_;have lf:=Il (c:=97+((n+5*(i:Int)) % 26).toNat) (by lia) (by lia);have len1:(⟨#[97+((n+5*(i:Int)) % 26).toNat]⟩:Str).length=1:=rfl;have hd1:(⟨#[97+((n+5*(i:Int)) % 26).toNat]⟩:Str).cps.toList[0]?=some (97+((n+5*(i:Int)) % 26).toNat):=rfl;generalize hf:(⟨#[97+((n+5*(i:Int)) % 26).toNat]⟩:Str)=fw at lf len1 hd1 ⊢;cbv;refine⟨A.ty,?_⟩;cbv;have j0:0<=n / 26 % 4:=by lia
  have ej:n / 26 % 4=(((n / 26 % 4).toNat:Nat):Int):=by lia
  have xc:=FS (n / 26 % 4).toNat (by lia);rw[<- ej] at xc;refine⟨_,rfl,by decide +kernel,trivial,j0,?_⟩;generalize jS "xyz" none (some (n / 26 % 4))=mid at xc ⊢;refine Ff (by rw[len1,show sizeLine=16777216 by decide];lia) ?_;cbv;refine Lq (by lia) ?_;generalize he:(if n / 104 % 2=0 then V6 else fw)=tl
  have tlo:tl.length<=1/\Low tl:=by
   rw[<- he];split
   .exact⟨by decide,λx hx=>by cases hx⟩
   .exact⟨by lia,lf⟩
  have lnew:(fw++mid++tl).length=fw.length+mid.length+tl.length:=by rw[Xm,Xm]
  refine Ff (by rw[Xm,len1,show sizeLine=16777216 by decide];lia) ?_;cbv;refine b6 A (.str _) (au (by rw[O0];lia)) λH3 A3 _ _ _=>?_
  have hd2:(fw++mid++tl).cps.toList[0]?=some (97+((n+5*(i:Int)) % 26).toNat):=by
   rw[jB,jB,QF,Qu (by rw[FA,len1];lia)];exact hd1
  cbv;refine⟨ws++[fw++mid++tl],_,_,rfl,by rw[O_];exact A3,by simp[hl],⟨cC hw.1 λhx=>?_,ck hw.2 ⟨by lia,by lia,zg (zg lf xc.2) tlo.2⟩⟩,λj w e=>?_⟩
  .obtain⟨j,hj1,hj2⟩:=QE.mp hx;have g:=hj j _ (by rw[O1 hj1,hj2]);rw[hd2] at g;have g':=PD g;omega
  .by_cases lt:j<ws.length
   .rw[Qu lt] at e;exact hj j w e
   .rw[QG (by lia)] at e
    have z:j-ws.length=0:=by
     rcases XB (j-ws.length) with z|z
     .exact z
     .rw[PY (by simp;lia)] at e;cases e
    rw[z] at e;have e':fw++mid++tl=w:=by simpa using e
    have ej2:j=i:=by lia
    rw[<- e',ej2];exact hd2
 .rintro σ H2 ⟨ws,v4,v5,rfl,A,hl,hw,hj⟩;have e:=AccZ.strs A;cbv;refine eG (SqL.of e) λp np=>?_
  exact k p _ ws (A.same.trans (ak np _)) hw hl (.tup ag (RpL.strs ws))
abbrev qV(K:Fg):Sp:=λvs H Q _=>∃(c k m t:Int) (pl:Bool),vs=[.int c,.int k,.int m,.int t,.bl pl]/\0<=k/\k<=100/\0<=m/\m<=5/\2<=t/\t<=4/\∀(p:Addr) (H':Hp) (hs:List Int),Same H H'->eK m.toNat hs->Rz K H' (.ref p) (dI hs)->Q (.ref p) H'
nonrec abbrev wL(K:Fg):TS:=(a8 (tB (aa 4))
 (aq (bM (dU K "list" aN (aa 6) (ae (ar aS (aa 5) (aa 3)) aj)))
 (av (ar b9 (aa 5) (aa 3)) (al 5)))
 (bM (dU K "list" aN (aa 6) (ae (ar aS (aC dC [] E0 (ae (aa 0) (ae (ar aX (ar (rI CMul λi j=>.int (i*j)) (tC (.int 5)) (aa 1)) (aa 7)) aj))) (aa 3)) aj))))
nonrec abbrev wK(K:Fg):TS:=(aq (a8 (aR (ar CV (aa 1) (tC (.int 5))))
 (av (ar b9 (aa 0) (tC (.int 1024))) (al 5))
 bw)
 (aq (av (bU aj) (al 6))
 (aq (a5 (cw (ae (aa 2) aj)) (al 7)
 (wL K))
 (aI (b_ (cz K) (ae (aa 6) aj))))))
abbrev qz(K:Fg):TS:=(aq (av (aa 0) (al 5))
 (wK K))
def CK{K:Fg}:ρ 8 (qV K) (qz K):=by
 fail "R";obtain⟨c,kk,m,t,pl,rfl,k0,k1,m0,m5,t2,t4,k⟩:=h;rw[L2.aP hN];walk_at "t";unfold qz;cbv;have rest:∀z0:Int,(aq (av (bU aj) (al 6)) (aq (a5 (cw (ae (aa 2) aj)) (al 7)
 (a8 (tB (aa 4))
 (aq (bM (dU K "list" aN (aa 6) (ae (ar aS (aa 5) (aa 3)) aj)))
 (av (ar b9 (aa 5) (aa 3)) (al 5)))
 (bM (dU K "list" aN (aa 6) (ae (ar aS (aC dC [] E0 (ae (aa 0) (ae (ar aX (ar (rI CMul λi j=>.int (i*j)) (tC (.int 5)) (aa 1)) (aa 7)) aj))) (aa 3)) aj)))))
 (aI (b_ (cz K) (ae (aa 6) aj))))) (ends Q) [↥c,↥kk,↥m,↥t,some (.bl pl),↥z0,none,none] H:=by
  intro z0;cbv;refine⟨by decide,λl nl=>?_⟩;cbv;refine aW (λi σ H2=>∃(ns:List Int) (z:Int) (v:Option V),σ=[↥c,↥kk,↥m,↥t,some (.bl pl),↥z,⇑l,v]/\AccZ K H l H2 (ns.map Qm)/\eK i ns) ⟨[],z0,none,rfl,AccZ.start (Same.refl _) nl,rfl,by simp⟩ ?_ ?_
  .rintro i σ H2 hi ⟨ns,z,v,rfl,A,hl,hb⟩
   have one:∀x:Int,eK (i+1) (ns++[x % t]):=λx=>⟨by simp[hl],λy hy=>by
    rcases Pz.mp hy with q|q
    .exact hb y q
    .rw[Po.mp q]
     have e1:=Q0 x (b:=t) (by lia)
     have e2:=QR x (b:=t) (by lia)
     exact⟨by lia,by lia⟩⟩
   cbv;cases pl with
   |true =>
    cbv;refine⟨A.ty,?_⟩;cbv;refine b6 A (.int _) (au (by rw[O0];lia)) λH3 A3 _ _ _=>?_
    cbv;exact⟨ns++[z % t],_,_,rfl,by simpa using A3,one z⟩
   |false =>
    cbv;refine⟨A.ty,?_⟩;cbv;refine⟨c,5*kk+(0+(i:Int)),rfl,by lia,by lia,λx hx=>?_⟩;cbv;refine b6 A (.int _) (au (by rw[O0];lia)) λH3 A3 _ _ _=>?_
    cbv;exact⟨ns++[x % t],_,_,rfl,by simpa using A3,one x⟩
  .rintro σ H2 ⟨ns,z,v,rfl,A,hh⟩;cbv;have e:=AccZ.ints A;refine eG (SqL.of e) λp np=>?_
   exact k p _ ns (A.same.trans (ak np _)) hh (.tup ag (RpL.ints ns))
 refine a9 (λ_=>?_) (λ_=>?_)
 .fail "1";fail "1";fail "1";fail "1";fail "1";fail "1";exact rest _
 .exact rest _
def uu{K:Fg}(S:Same H H3)(A:AccZ K H3 l H' ds):AccZ K H l H' ds:=⟨S.trans A.same,S.free A.new,A.at_⟩
abbrev dX(h1:Int)(m:Nat):List Int:=(Pi m).map λj=>if j=0 then (if decide (h1=0)=true then 1 else 0) else 0
abbrev qP(K:Fg):Sp:=λvs H Q _=>∃(a:Addr) (ns:List Int) (t m s tp:Int) (pl:Bool),vs=[.ref a,.int t,.int m,.int s,.int tp,.bl pl]/\SqL K H a (ns.map V.int)/\0<=t/\1<=m/\m<=5/\2<=s/\s<=8/\2<=tp/\tp<=4 /\
 ∀(p:Addr) (H':Hp) (hs:List (List Int)),AccZ K H p H' (hs.map dI)->uy m.toNat hs->2<=hs.length->hs.length<=8->Q (.ref p) H'
nonrec abbrev wy(K:Fg):TS:=(aq (av (aC (qV K) [] E0 (ae (aC (c7 K) [] E0 (ae (aa 0) (ae (ar aX (aa 1) (ar aS (aa 7) (tC (.int 6)))) aj))) (ae (aa 7) (ae (aa 2) (ae (aa 4) (ae (aa 5) aj)))))) (al 8))
 (a8 (aR (ar (oC K true) (aa 8) (aa 6)))
 (bM (dU K "list" aN (aa 6) (ae (aa 8) aj)))
 bw))
nonrec abbrev wx (K:Fg):TS:=(bM (dU K "list" aN (aa 6) (ae (b_ (cz K) (ae (fE (cw (ae (aa 2) aj)) (b_ Hm (ae (BX (ar hJ (aa 0) (tC (.int 0))) (ar hJ (ar (aD K) (ar (bY K) (aa 7) (tC (.int 0))) (tC (.int 0))) (tC (.int 0)))) aj))) aj)) aj)))
abbrev qk(K:Fg):TS:=(aq (av (bU aj) (al 6))
 (aq (a5 (cw (ae (aa 3) aj)) (al 7)
 (wy K))
 (aq (a8 (aR (ar hJ (b_ (cH K) (ae (aa 6) aj)) (tC (.int 1))))
 (wx K)
 bw)
 (aI (aa 6)))))
def CA{K:Fg}:ρ 9 (qP K) (qk K):=by
 fail "R";obtain⟨a,ns,t,m,s,tp,pl,rfl,hS,t0,m1,m5,s2,s8,p2,p4,k⟩:=h;rw[L2.aP hN];walk_at "t";unfold qk;cbv;refine⟨by decide,λl nl=>?_⟩;cbv
 refine aW (λi σ H2=>∃(hs:List (List Int)) (v7 v8:Option V),σ=[⇑a,↥t,↥m,↥s,↥tp,some (.bl pl),⇑l,v7,v8]/\AccZ K H l H2 (hs.map dI)/\hs.length<=i/\uy m.toNat hs/\(0<i->hs≠[]))
  ⟨[],none,none,rfl,AccZ.start (Same.refl _) nl,Pa _,⟨RB,by simp⟩,by simp⟩ ?_ ?_
 .rintro i σ H2 hi ⟨hs,v7,v8,rfl,A,hl,hp,_⟩;cbv;refine⟨a,ns,t+(0+(i:Int)) % 6,rfl,A.same.seq hS,by lia,?_⟩;generalize cellOf ns (t+(0+(i:Int)) % 6)=c1;cbv;refine⟨c1,0+(i:Int),m,tp,pl,rfl,by lia,by lia,by lia,by lia,p2,p4,λph H4 h S4' oh rh=>?_⟩;have A4:=A.on S4';cbv;refine mK rh.rep A4.rep (λe he=>by obtain⟨b,_,rfl⟩:=Pl.mp he;exact vc b 7) (vc h 7) (λnm=>?_) (λmm=>?_)
  .cbv;refine⟨A4.ty,?_⟩;cbv;refine b6 A4 rh (au (by rw[O0];lia)) λH5 A5 _ _ _=>?_
   cbv;exact⟨hs++[h],_,_,rfl,by rw[O_];exact A5,by simp;lia,⟨cC hp.1 λz=>nm (K5.mpr z),ck hp.2 oh⟩,by simp⟩
  .cbv;exact⟨hs,_,_,rfl,A4,by lia,hp,λ_ z=>by rw[z] at mm;cases mm⟩
 .rintro σ H2 ⟨hs,v7,v8,rfl,A,hl,hp,ZR⟩;have ne:=ZR (by lia);obtain⟨xs,sx,lx,rx⟩:=A.sq;rw[O0] at lx;cbv;refine cR sx ?_;cbv;refine a9 (λfew=>?_) (λfew=>?_)
  .have l1:hs.length=1:=by lia
   obtain⟨h,rfl⟩:∃x,hs=[x]:=RY.mp l1;have oh:=hp.2 h (by simp);obtain⟨h1,hr,eh⟩:∃h1 hr,h=h1 :: hr:=SV (by have:=oh.1;lia);obtain⟨v,ev,rv⟩:=RpL.get' (i:=0) rx (d:=dI h) rfl;obtain⟨ah,ys,e1,sh,rh⟩:=rv.Ju;cases e1;cases RpL.ints_of rh;cbv;refine⟨A.ty,?_⟩;cbv;refine c_ λDl nD=>⟨λj H4=>AccZ K H2 Dl H4 ((dX h1 j).map Qm),AccZ.start (Same.refl _) nD,?_,?_⟩
   .intro j H4 hj B
    have put:∀x:Int,x=(if j=0 then (if decide (h1=0)=true then 1 else 0) else 0)->nB Dl m.toNat j (λj H4=>AccZ K H2 Dl H4 ((dX h1 j).map Qm)) (.int x) H4:=by
     intro x ex;refine a6 hj (B.cI (.int x) (au ?_) λH5 B5=>?_)
     .rw[O0];unfold dX;rw[O0,PN];lia
     .show AccZ K H2 Dl H5 ((dX h1 (j+1)).map Qm);unfold dX;rw[Rr,O_,O_,Ue,Ue,<- ex];exact B5
    cbv;refine a9 (λj0=>?_) (λj0=>?_)
    .cbv;refine cf (B.same.seq sx) (aO (j:=0) ev) ?_;cbv;refine aG (B.same.seqT sh) (v:=.int h1) (aO (j:=0) (by rw[eh];rfl)) ?_;cbv;refine put _ ?_;rw[if_pos (show j=0 by lia)]
    .cbv;refine put _ ?_;rw[if_neg (show ¬ j=0 by lia)];rfl
   .intro H4 B;have eB:=AccZ.ints B;cbv;refine eG (SqL.of eB) λp np=>?_
    cbv;have Sp:=ak np (.tup ((dX h1 m.toNat).map V.int));have A5:=(A.on B.same).on Sp;refine b6 A5 (d:=dI (dX h1 m.toNat)) (.tup ag (RpL.ints _)) (au (by simp)) λH6 A6 _ _ _=>?_
    cbv
    have e0:(dX h1 m.toNat)[0]?=some (if decide (h1=0)=true then 1 else 0):=by
     unfold dX;rw[O4,Qs (by lia)];rfl
    refine k l H6 ([h]++[_]) (by rw[O_];exact A6) ⟨cC hp.1 λz=>?_,ck hp.2 ⟨?_,λx hx=>?_⟩⟩ (by simp) (by simp)
    .have z':=Po.mp z;rw[z',eh] at e0;have z2:h1=(if decide (h1=0)=true then 1 else 0):=PD e0;by_cases h10:h1=0
     .rw[decide_eq_true h10] at z2;simp at z2;lia
     .rw[decide_eq_false h10] at z2;simp at z2;lia
    .unfold dX;rw[O0,PN]
    .unfold dX at hx;obtain⟨j,_,rfl⟩:=Pl.mp hx;split
     .split <;> decide
     .decide
  .cbv
   have:0<hs.length:=TX.mpr ne
   exact k l H2 hs A hp (by lia) (by lia)
abbrev Fz(p:Int×Int):Dat:=dI [p.1,p.2]
abbrev FP(s:Int)(p:Int×Int):Prop:=0<=p.1/\p.1<s/\0<=p.2/\p.1≠p.2
abbrev lK(K:Fg):Sp:=λvs H Q _=>∃(a:Addr) (ns:List Int) (t s kd:Int) (pl:Bool),vs=[.ref a,.int t,.int s,.int kd,.bl pl]/\SqL K H a (ns.map V.int)/\0<=t/\2<=s/\s<=8/\0<=kd/\kd<=3 /\
 ∀(p:Addr) (H':Hp) (ps:List (Nat×Nat)),AccZ K H p H' (ps.map dP)->ps.Nodup->ps.length<=8->ps≠[]->(∀q∈ps,kK s.toNat q)->Q (.ref p) H'
nonrec abbrev uN(K:Fg):TS:=(aq (a8 (jR (aR (ar hJ (aa 3) (tC (.int 3)))) (aR (ar CV (aa 2) (tC (.int 3)))))
 (bM (dU K "list" aN (aa 5) (ae (be (ae (aa 6) (ae (ar aX (ar (rI CMul λi j=>.int (i*j)) (ar b9 (aa 6) (tC (.int 2))) (tC (.int 2))) (ar aS (ar aX (aa 6) (tC (.int 1))) (tC (.int 2)))) aj))) aj)))
 (a8 (aR (ar CV (aa 3) (tC (.int 0))))
 (bM (dU K "list" aN (aa 5) (ae (be (ae (aa 6) (ae (aa 7) aj))) aj)))
 bw))
 (a8 (aR (ar hJ (aa 3) (tC (.int 2))))
 (bM (dU K "list" aN (aa 5) (ae (be (ae (aa 7) (ae (aa 6) aj))) aj)))
 bw))
nonrec abbrev uM(K:Fg):TS:=(aq (a8 (tB (aa 4))
 (aq (av (ar aS (ar aS (ar b9 (aa 8) (tC (.int 5))) (tC (.int 8))) (aa 2)) (al 9))
 (av (ar aS (ar aS (ar b9 (aa 8) (tC (.int 40))) (tC (.int 8))) (ar hX (aa 2) (tC (.int 1)))) (al 10)))
 bw)
 (bM (dU K "list" aN (aa 5) (ae (be (ae (aa 9) (ae (ar aS (ar aX (ar aX (aa 9) (tC (.int 1))) (aa 10)) (aa 2)) aj))) aj))))
nonrec abbrev uL(K:Fg):TS:=(aq (av (ar aS (aC dC [] E0 (ae (aa 8) (ae (tC (.int 50)) aj))) (aa 2)) (al 9))
 (aq (av (ar aS (aC dC [] E0 (ae (aa 8) (ae (tC (.int 51)) aj))) (ar hX (aa 2) (tC (.int 1)))) (al 10))
 (uM K)))
nonrec abbrev uK(K:Fg):TS:=(aq (av (aC (c7 K) [] E0 (ae (aa 0) (ae (ar aX (aa 1) (aa 6)) aj))) (al 8))
 (a8 (Jl (aR (ar hJ (aa 3) (tC (.int 0)))) (aR (ar hJ (ar aS (aa 8) (tC (.int 5))) (tC (.int 1)))))
 (uL K)
 bw))
nonrec abbrev uJ(K:Fg):TS:=(a8 (jR (aR (ar (oC K true) (be (ae (aa 9) (ae (aa 12) aj))) (aa 11))) (jR (aR (ar yn (aa 12) (aa 2))) (aR (ar yn (b_ (cH K) (ae (aa 11) aj)) (tC (.int 8))))))
 (bM (dU K "list" aN (aa 11) (ae (be (ae (aa 9) (ae (aa 12) aj))) aj)))
 bw)
nonrec abbrev uI(K:Fg):TS:=(aq (a5 (cw (ae (aa 2) aj)) (al 6)
 (aq (av (ar aS (ar aX (aa 6) (tC (.int 1))) (aa 2)) (al 7))
 (uN K)))
 (aq (a5 (cw (ae (tC (.int 8)) aj)) (al 6)
 (uK K))
 (aq (av (bU aj) (al 11))
 (aq (a5 (cx K (aa 5)) (cg K 2 (aT (al 9) (aT (al 12) ci)))
 (uJ K))
 (aI (aa 11))))))
abbrev k9(K:Fg):TS:=(aq (av (bU aj) (al 5))
 (uI K))
def kA{K:Fg}{fs:List (Int×Int)}{x y:Int}{Q:VK}(A:AccZ K H l H2 (fs.map Fz))(n:fs.length<=100)(k:∀H3,AccZ K H l H3 ((fs++[(x,y)]).map Fz)->Q .non H3) :
  ([V.int x,.int y].length<=sizeLine/\∀p,H2 p=none->aj σ (upd H2 p (.tup [.int x,.int y])) λxs H3=>aN (.ref l) (.ref p :: xs) H3 Q):=by
 refine⟨aM,λp np=>?_⟩;have S:=ak np (.tup [V.int x,.int y]);refine DM ?_;refine b6 (A.on S) (d:=Fz (x,y)) (.tup ag (RpL.ints [x,y])) (au (by rw[O0];lia)) λH3 A3 _ _ _=>k H3 ?_
 rw[O_];exact A3
def gN{fs:List (Int×Int)}(h:∀q∈fs,FP s q)(n:FP s p):∀q∈fs++[p],FP s q:=ck h n
def K1{n u v:Int}(h1:0<=u)(h2:u<n)(h3:0<=v)(h4:v<n-1):(u+1+v) % n≠u:=by
 intro e;by_cases z:u+1+v<n
 .rw[X1 (by lia) z] at e;lia
 .have e2:(u+1+v) % n=u+1+v-n:=by
   rw[<- Int.sub_emod_right,X1 (by lia) (by lia)]
  lia
def Af{s:Int}{fs:List (Int×Int)}{p:Int×Int}(h:∃q∈fs,q.2<s):∃q∈fs++[p],q.2<s:=by
 obtain⟨q,h1,h2⟩:=h;exact⟨q,PK _ h1,h2⟩
def jx{s:Int}{fs:List (Int×Int)}{p:Int×Int}(h:p.2<s):∃q∈fs++[p],q.2<s:=⟨p,PB _ (Po.mpr rfl),h⟩
def yg{K:Fg}:ρ 13 (lK K) (k9 K):=by
 fail "R";obtain⟨a,ns,t,s,kd,pl,rfl,hS,t0,s2,s8,k0,k3,k⟩:=h;rw[L2.aP hN];walk_at "t";unfold k9;cbv;refine⟨by decide,λl nl=>?_⟩;cbv
 refine aW (λi σ H2=>∃(fs:List (Int×Int)) (v6 v7:Option V),σ=[⇑a,↥t,↥s,↥kd,some (.bl pl),⇑l,v6,v7,none,none,none,none,none]/\AccZ K H l H2 (fs.map Fz)/\fs.length<=2*i/\(∀q∈fs,FP s q)/\(0<i->0<kd->∃q∈fs,q.2<s))
  ⟨[],none,none,rfl,AccZ.start (Same.refl _) nl,Pa _,by simp,by simp⟩ ?_ ?_
 .rintro i σ H2 hi ⟨fs,v6,v7,rfl,A,hl,hf,hx⟩;have i8:(i:Int)<s:=by lia
  have hm0:=Q0 (0+(i:Int)+1) (b:=s) (by lia);have hm1:=QR (0+(i:Int)+1) (b:=s) (by lia)
  have ZR:(0+(i:Int)+1) % s≠0+(i:Int):=by
   have z:=K1 (n:=s) (u:=0+(i:Int)) (v:=0) (by lia) (by lia) (by lia) (by lia);rw[SB] at z;exact z
  have back:∀(gs:List (Int×Int)) (H3:Hp) (D':cu),AccZ K H l H3 (gs.map Fz)->gs.length<=2*i+1->(∀q∈gs,FP s q)->(0<kd->∃q∈gs,q.2<s) ->
    (∀σ' H',(∃(fs:List (Int×Int)) (v6 v7:Option V),σ'=[⇑a,↥t,↥s,↥kd,some (.bl pl),⇑l,v6,v7,none,none,none,none,none]/\AccZ K H l H' (fs.map Fz)/\fs.length<=2*(i+1)/\(∀q∈fs,FP s q)/\(0<i+1->0<kd->∃q∈fs,q.2<s))->D'.nx σ' H') ->
    (a8 (aR (ar hJ (aa 3) (tC (.int 2))))
     (bM (dU K "list" aN (aa 5) (ae (be (ae (aa 7) (ae (aa 6) aj))) aj))) bw) D' [⇑a,↥t,↥s,↥kd,some (.bl pl),⇑l,some (.int (0+(i:Int))),some (.int ((0+(i:Int)+1) % s)),none,none,none,none,none] H3:=by
   intro gs H3 D' B lg fg xg fin;cbv;refine a9 (λ_=>?_) (λ_=>?_)
   .cbv;refine⟨B.ty,?_⟩;cbv;refine kA B (by lia) λH4 B4=>?_
    exact fin _ _ ⟨_,_,_,rfl,B4,by simp;lia,gN fg ⟨hm0,hm1,by dsimp only;lia,λe=>ZR e⟩,λ_ z=>Af (xg z)⟩
   .cbv;exact fin _ _ ⟨gs,_,_,rfl,B,by lia,fg,λ_ z=>xg z⟩
  cbv;refine a9 (λe3=>?_) (λe3=>?_)
  .cbv;refine a9 (λs3=>?_) (λs3=>?_)
   .cbv;refine⟨A.ty,?_⟩;cbv;refine kA A (by lia) λH3 B=>?_
    refine back _ _ _ B (by simp;lia) (gN hf ⟨by dsimp only;lia,by dsimp only;lia,by dsimp only;lia,by dsimp only;lia⟩) (λz=>?_) λσ' H' z=>z
    by_cases i0:0<i
    .exact Af (hx i0 z)
    .exact jx (by dsimp only;lia)
   .cbv;refine a9 (λ_=>?_) (λz=>absurd z (by lia));cbv;refine⟨A.ty,?_⟩;cbv;refine kA A (by lia) λH3 B=>?_
    exact back _ _ _ B (by simp;lia) (gN hf ⟨by dsimp only;lia,by dsimp only;lia,hm0,λe=>ZR e.symm⟩) (λz=>jx hm1) λσ' H' z=>z
  .cbv;refine a9 (λkp=>?_) (λkp=>?_)
   .cbv;refine⟨A.ty,?_⟩;cbv;refine kA A (by lia) λH3 B=>?_
    exact back _ _ _ B (by simp;lia) (gN hf ⟨by dsimp only;lia,by dsimp only;lia,hm0,λe=>ZR e.symm⟩) (λz=>jx hm1) λσ' H' z=>z
   .exact back fs _ _ A (by lia) hf (λz=>absurd z kp) λσ' H' z=>z
 rintro σ H2 ⟨fs,v6,v7,rfl,A,hl,hf,hx⟩;have s8':s.toNat<=8:=by lia
 cbv
 refine aW (λi σ H3=>∃(gs:List (Int×Int)) (u6 u7 u8 u9 u10:Option V),σ=[⇑a,↥t,↥s,↥kd,some (.bl pl),⇑l,u6,u7,u8,u9,u10,none,none]/\AccZ K H l H3 (gs.map Fz)/\gs.length<=16+i/\(∀q∈gs,FP s q)/\(0<kd\/0<i->∃q∈gs,q.2<s))
  ⟨fs,v6,v7,none,none,none,rfl,A,by lia,hf,λz=>hx (by lia) (by lia)⟩ ?_ ?_
 .rintro i σ H3 hi ⟨gs,u6,u7,u8,u9,u10,rfl,B,lg,fg,xg⟩;cbv;refine⟨a,ns,t+(0+(i:Int)),rfl,B.same.seq hS,by lia,?_⟩;generalize cellOf ns (t+(0+(i:Int)))=c
  have draw:∀(D':cu),(∀σ' H',(∃(gs:List (Int×Int)) (u6 u7 u8 u9 u10:Option V),σ'=[⇑a,↥t,↥s,↥kd,some (.bl pl),⇑l,u6,u7,u8,u9,u10,none,none]/\AccZ K H l H' (gs.map Fz)/\gs.length<=16+(i+1)/\(∀q∈gs,FP s q)/\(0<kd\/0<i+1->∃q∈gs,q.2<s))->D'.nx σ' H') ->
    (aq (av (ar aS (aC dC [] E0 (ae (aa 8) (ae (tC (.int 50)) aj))) (aa 2)) (al 9))
    (aq (av (ar aS (aC dC [] E0 (ae (aa 8) (ae (tC (.int 51)) aj))) (ar hX (aa 2) (tC (.int 1)))) (al 10))
    (aq (a8 (tB (aa 4))
    (aq (av (ar aS (ar aS (ar b9 (aa 8) (tC (.int 5))) (tC (.int 8))) (aa 2)) (al 9))
    (av (ar aS (ar aS (ar b9 (aa 8) (tC (.int 40))) (tC (.int 8))) (ar hX (aa 2) (tC (.int 1)))) (al 10)))
    bw)
    (bM (dU K "list" aN (aa 5) (ae (be (ae (aa 9) (ae (ar aS (ar aX (ar aX (aa 9) (tC (.int 1))) (aa 10)) (aa 2)) aj))) aj)))))) D'
     [⇑a,↥t,↥s,↥kd,some (.bl pl),⇑l,some (.int (0+(i:Int))),u7,↥c,u9,u10,none,none] H3:=by
   intro D' fin
   have last:∀o st:Int,0<=o->o<s->0<=st->st<s-1->FP s (o,(o+1+st) % s)/\(o+1+st) % s<s:=λo st h1 h2 h3 h4 =>
    ⟨⟨h1,h2,Q0 _ (by lia),λe=>K1 h1 h2 h3 h4 e.symm⟩,QR _ (by lia)⟩
   cbv;refine⟨c,50,rfl,by decide,by decide,λy hy=>?_⟩;have y0:=Q0 y (b:=s) (by lia);have y1:=QR y (b:=s) (by lia);cbv;refine⟨c,51,rfl,by decide,by decide,λw hw=>?_⟩;have w0:=Q0 w (b:=s-1) (by lia);have w1:=QR w (b:=s-1) (by lia);cbv;cases pl with
   |true =>
    have z0:=Q0 (c / 5 % 8) (b:=s) (by lia);have z1:=QR (c / 5 % 8) (b:=s) (by lia);have x0:=Q0 (c / 40 % 8) (b:=s-1) (by lia);have x1:=QR (c / 40 % 8) (b:=s-1) (by lia);cbv;refine⟨B.ty,?_⟩;cbv;refine kA B (by lia) λH4 B4=>?_
    obtain⟨o1,o2⟩:=last (c / 5 % 8 % s) (c / 40 % 8 % (s-1)) z0 z1 x0 x1;exact fin _ _ ⟨_,_,_,_,_,_,rfl,B4,by simp;lia,gN fg o1,λ_=>jx o2⟩
   |false =>
    cbv;refine⟨B.ty,?_⟩;cbv;refine kA B (by lia) λH4 B4=>?_
    obtain⟨o1,o2⟩:=last (y % s) (w % (s-1)) y0 y1 w0 w1;exact fin _ _ ⟨_,_,_,_,_,_,rfl,B4,by simp;lia,gN fg o1,λ_=>jx o2⟩
  cbv;refine a9 (λz=>?_) (λz=>?_)
  .fail "1";exact draw _ λσ' H' z=>z
  .cbv;refine a9 (λy=>?_) (λy=>?_)
   .exact draw _ λσ' H' z=>z
   .cbv;exact⟨gs,_,_,_,_,_,rfl,B,by lia,fg,λ_=>xg (.inl (by lia))⟩
 rintro σ H3 ⟨gs,u6,u7,u8,u9,u10,rfl,B,lg,fg,xg⟩;have xg':=xg (.inr (by decide));obtain⟨xs,hl3,rx⟩:=B.at_;have lx:xs.length=gs.length:=by rw[rx.length,O0]
 cbv;refine⟨by decide,λl2 nl2=>?_⟩;cbv;have S2:=ak nl2 (.lst []);refine ig (SqL.of (S2 _ _ hl3)) ?_
 refine bn (xs:=xs) (λi σ H4=>∃(ps:List (Nat×Nat)) (w6 w7 w8 w9 w10 w12:Option V),σ=[⇑a,↥t,↥s,↥kd,some (.bl pl),⇑l,w6,w7,w8,w9,w10,⇑l2,w12]/\AccZ K H3 l2 H4 (ps.map dP)/\ps.Nodup/\ps.length<=8/\(∀q∈ps,kK s.toNat q)/\((∃q∈gs.take i,q.2<s)->ps≠[]))
  ⟨[],u6,u7,u8,u9,u10,none,rfl,AccZ.start (Same.refl _) nl2,RB,by decide,by simp,by simp⟩ ?_ ?_ ?_
 .rintro i σ H4 _ ⟨ps,w6,w7,w8,w9,w10,w12,rfl,C,_⟩;exact SqL.of (C.same _ _ hl3)
 .rintro i z σ H4 hz ⟨ps,w6,w7,w8,w9,w10,w12,rfl,C,nd,l8,okp,ZR⟩;obtain⟨dd,g1,g2⟩:=rx.get hz;rw[O4] at g1;obtain⟨g,eg,rfl⟩:=Pb.mp g1;have og:=fg g (O7 eg);obtain⟨tz,zs,e1,st,rt⟩:=(g2.same C.same).cF;cases e1;cases RpL.ints_of (ns:=[g.1,g.2]) rt;obtain⟨x,y⟩:=g;obtain⟨o0,o1,o2,o3⟩:=og;dsimp only at o0 o1 o2 o3
  have oo:y<s->kK s.toNat (x.toNat,y.toNat):=λys=>by
   clear ZR xg xg' hx;exact⟨by show x.toNat<s.toNat;lia,by show y.toNat<s.toNat;lia,by show x.toNat≠y.toNat;lia⟩
  have tk:gs.take (i+1)=gs.take i++[(x,y)]:=by rw[Ps,eg];rfl
  have old:(∃q∈gs.take (i+1),q.2<s)->¬ y<s->∃q∈gs.take i,q.2<s:=by
   rintro⟨q,h1,h2⟩ ny;rw[tk] at h1;rcases Pz.mp h1 with h|h
   .exact⟨q,h,h2⟩
   .rw[Po.mp h] at h2;exact absurd h2 ny
  have Z2:H4 tz=some (.tup [.int x,.int y]):=st;refine bI (SqT.of Z2) rfl ?_;cbv;refine⟨aM,λp np=>?_⟩;have S5:=ak np (.tup [V.int x,.int y]);have C5:=C.on S5;have r5:Rz K (upd H4 p (.tup [V.int x,.int y])) (.ref p) (dI [x,y]):=.tup ag (RpL.ints [x,y])
  have eP:dI [x,y]=dP (x.toNat,y.toNat):=by
   show dI [x,y]=dI [((x.toNat:Nat):Int),((y.toNat:Nat):Int)];rw[Xc o0,Xc o2]
  rw[eP] at r5;cbv;refine mK r5.rep C5.rep (λe he=>by obtain⟨b,_,rfl⟩:=Pl.mp he;exact vc _ 7) (vc _ 7) (λnm=>?_) (λmm=>?_)
  .cbv;refine a9 (λys=>?_) (λys=>?_)
   .obtain⟨xs5,s5,n5,_⟩:=C5.sq;rw[O0] at n5;cbv;refine cR s5 ?_;cbv;refine a9 (λlt=>?_) (λge=>?_)
    .cbv;refine⟨C5.ty,?_⟩;cbv;refine⟨aM,λp' np'=>?_⟩;have S6:=ak np' (.tup [V.int x,.int y]);refine DM ?_;refine b6 (C5.on S6) (d:=dP (x.toNat,y.toNat)) (by rw[<- eP];exact .tup ag (RpL.ints [x,y])) (au (by rw[O0];lia)) λH6 C6 _ _ _=>?_
     cbv;exact⟨ps++[(x.toNat,y.toNat)],_,_,_,_,_,_,rfl,by rw[O_];exact C6,cC nd λz=>nm (K4.mpr z),by simp;lia,ck okp (oo ys),by simp⟩
    .have lz:ps=[]->False:=λz=>by
      have z0:ps.length=0:=by rw[z];rfl
      clear ZR xg xg' hx;lia
     cbv;exact⟨ps,_,_,_,_,_,_,rfl,C5,nd,l8,okp,λ_ z=>lz z⟩
   .cbv;exact⟨ps,_,_,_,_,_,_,rfl,C5,nd,l8,okp,λz=>ZR (old z ys)⟩
  .cbv;exact⟨ps,_,_,_,_,_,_,rfl,C5,nd,l8,okp,λ_ z=>by rw[z] at mm;cases mm⟩
 .rintro σ H4 ⟨ps,w6,w7,w8,w9,w10,w12,rfl,C,nd,l8,okp,ZR⟩;rw[lx,Pc (Pa _)] at ZR;cbv;exact k l2 H4 ps (uu B.same C) nd l8 (ZR xg') okp
abbrev xE(K:Fg):Sp:=λvs H Q _=>∃(a:Addr) (ns:List Int) (t:Int),vs=[.ref a,.int t]/\SqL K H a (ns.map V.int)/\0<=t/\∀(p:Addr) (H':Hp) (ws:List Str) (ts:List Tn),Same H H'->nh ws ts->Rz K H' (.ref p) (dV ws ts)->Q (.ref p) H'
nonrec abbrev BE (K:Fg):TS:=(bM (dU K "list" aN (aa 8) (ae (be (ae (ar (bY K) (aa 6) (aa 11)) (ae (ar (bY K) (aa 6) (aa 12)) (ae (aC (iP K) [] E0 (ae (ar b9 (aa 10) (tC (.int 320))) (ae (ar aS (ar b9 (aa 2) (tC (.int 420))) (tC (.int 3))) aj))) aj)))) aj)))
nonrec abbrev BD(K:Fg):TS:=(aq (av (aC (c7 K) [] E0 (ae (aa 0) (ae (ar aX (ar aX (aa 1) (tC (.int 7))) (aa 9)) aj))) (al 10))
 (aq (av (ar (bY K) (aa 7) (aa 9)) (cg K 2 (aT (al 11) (aT (al 12) ci))))
 (BE K)))
nonrec abbrev BC(K:Fg):TS:=(aq (a5 (cw (ae (b_ (cH K) (ae (aa 7) aj)) aj)) (al 9)
 (BD K))
 (aI (be (ae (aC (fT K) [] E0 (ae (ar b9 (aa 2) (tC (.int 2520))) (ae (aa 3) aj))) (ae (b_ (cz K) (ae (aa 8) aj)) aj)))))
nonrec abbrev BA(K:Fg):TS:=(aq (av (aC (lK K) [] E0 (ae (aa 0) (ae (ar aX (aa 1) (tC (.int 7))) (ae (b_ (cH K) (ae (aa 6) aj)) (ae (ar aS (ar b9 (aa 2) (tC (.int 105))) (tC (.int 4))) (ae (aa 5) aj)))))) (al 7))
 (aq (av (bU aj) (al 8))
 (BC K)))
nonrec abbrev Bz(K:Fg):TS:=(aq (av (aC (qP K) [] E0 (ae (aa 0) (ae (ar aX (aa 1) (tC (.int 1))) (ae (aa 3) (ae (ar aX (tC (.int 2)) (ar aS (ar b9 (aa 2) (tC (.int 15))) (tC (.int 7)))) (ae (aa 4) (ae (aa 5) aj))))))) (al 6))
 (BA K))
nonrec abbrev By(K:Fg):TS:=(aq (av (ar aX (tC (.int 1)) (ar aS (aa 2) (tC (.int 5)))) (al 3))
 (aq (av (ar aX (tC (.int 2)) (ar aS (ar b9 (aa 2) (tC (.int 5))) (tC (.int 3)))) (al 4))
 (aq (av (ar hJ (ar aS (ar b9 (aa 2) (tC (.int 1260))) (tC (.int 2))) (tC (.int 1))) (al 5))
 (Bz K))))
abbrev we(K:Fg):TS:=(aq (av (aC dC [] E0 (ae (aC (c7 K) [] E0 (ae (aa 0) (ae (aa 1) aj))) (ae (tC (.int 1)) aj))) (al 2))
 (By K))
def GR{K:Fg}:ρ 13 (xE K) (we K):=by
 fail "R";obtain⟨a,ns,t,rfl,hS,t0,k⟩:=h;rw[L2.aP hN];walk_at "t";unfold we;cbv;refine⟨a,ns,t,rfl,hS,t0,?_⟩;generalize cellOf ns t=c;cbv;refine⟨c,1,rfl,by decide,by decide,λn ω=>?_⟩;obtain⟨n0,_⟩:=ω;cbv;generalize decide (n / 1260 % 2=1)=pl;refine⟨a,ns,t+1,1+n % 5,2+n / 15 % 7,2+n / 5 % 3,pl,rfl,hS,by lia,by lia,by lia,by lia,by lia,by lia,by lia,λpp H1 hs A1 op h2 h8=>?_⟩;obtain⟨xs,hpp,rz⟩:=A1.at_;have lx:xs.length=hs.length:=by rw[rz.length,O0]
 have S1:=A1.same;cbv;refine cR (SqL.of hpp) ?_;cbv;refine⟨a,ns,t+7,(xs.length:Int),n / 105 % 4,pl,rfl,S1.seq hS,by lia,by lia,by lia,by lia,by lia,λpr H2 ps A2 nd l8 ne okp=>?_⟩;obtain⟨ys,hpr,ry⟩:=A2.at_;have ly:ys.length=ps.length:=by rw[ry.length,O0]
 have S2:=A2.same;have S02:=S1.trans S2;cbv;refine⟨by decide,λl nl=>?_⟩;cbv;have Sl:=ak nl (.lst []);refine cR (SqL.of (Sl _ _ hpr)) ?_;rw[ly];cbv;have et:((ps.length:Nat):Int).toNat=ps.length:=by lia
 rw[et]
 refine aW (λi σ H3=>∃(ts:List Tn) (v9 v10 v11 v12:Option V),σ=[⇑a,↥t,↥n,↥(1+n % 5),↥(2+n / 5 % 3),some (.bl pl),⇑pp,⇑pr,⇑l,v9,v10,v11,v12]/\AccZ K H2 l H3 (ts.map dT)/\ts.map bZ=(ps.take i).map (kh hs)/\∀t∈ts,ga t.q t.d)
  ⟨[],none,none,none,none,rfl,AccZ.start (Same.refl _) nl,rfl,by simp⟩ ?_ ?_
 .rintro i σ H3 hi ⟨ts,v9,v10,v11,v12,rfl,A,em,pc⟩;have S3:=A.same
  have lts:ts.length=i:=by
   have:=congrArg Rg em
   rw[O0,O0,Px] at this;lia
  have eq1:ps[i]?=some ps[i]:=O1 hi;have oq:=okp _ (Qx hi);generalize ps[i]=q at eq1 oq;have oq1:q.1<hs.length:=by have:=oq.1;lia
  have oq2:q.2<hs.length:=by have:=oq.2.1;lia
  obtain⟨w,ew,rw_⟩:=ry.get' (i:=i) (d:=dP q) (by rw[O4,eq1];rfl);cbv;refine⟨a,ns,t+7+(0+(i:Int)),rfl,(S02.trans S3).seq hS,by lia,?_⟩;generalize cellOf ns (t+7+(0+(i:Int)))=c2;cbv;refine cf (SqL.of (S3 _ _ hpr)) (v:=w) (by rw[SD];exact aO ew) ?_;obtain⟨tz,zs,rfl,st,rt⟩:=(rw_.same S3).cF;cases RpL.ints_of (ns:=[(q.1:Int),(q.2:Int)]) rt;have Z2:H3 tz=some (.tup [.int (q.1:Int),.int (q.2:Int)]):=st;refine bI (SqT.of Z2) rfl ?_;have g1:(hs.map dI)[q.1]?=some (dI (hs.getD q.1 [])):=by rw[O4,O2,O1 oq1];rfl
  have g2:(hs.map dI)[q.2]?=some (dI (hs.getD q.2 [])):=by rw[O4,O2,O1 oq2];rfl
  obtain⟨w1,ew1,rw1⟩:=rz.get' g1;obtain⟨w2,ew2,rw2⟩:=rz.get' g2;have S13:=S2.trans S3;cbv;refine⟨A.ty,?_⟩;cbv;refine cf (SqL.of (S13 _ _ hpp)) (aO ew1) ?_;cbv;refine cf (SqL.of (S13 _ _ hpp)) (aO ew2) ?_;cbv;refine⟨_,_,rfl,λpa pq pd H4 S4 ok4 r4=>?_⟩;cbv;refine⟨fG,λpt npt=>?_⟩;have S5:=ak npt (.tup [w1,w2,.ref pa]);have S15:=S13.trans (S4.trans S5);have r5:Rz K (upd H4 pt (.tup [w1,w2,.ref pa])) (.ref pt) (dT ⟨hs.getD q.1 [],hs.getD q.2 [],pq,pd⟩):=.tup ag (.cons (rw1.same S15) (.cons (rw2.same S15) (.cons (r4.same S5) .nil)));cbv;refine b6 (A.on (S4.trans S5)) r5 (au (by rw[O0];lia)) λH6 A6 _ _ _=>?_
  cbv;refine⟨ts++[_],_,_,_,_,rfl,by rw[O_];exact A6,?_,ck pc ok4⟩;rw[O_,em,Ps,eq1,O_];rfl
 .rintro σ H3 ⟨ts,v9,v10,v11,v12,rfl,A,em,pc⟩;rw[Pc (Pa _)] at em;have S3:=A.same;obtain⟨zs,hl,rzs⟩:=A.at_;have gd:G1.Good hs ps ts:=⟨nd,l8,em,λp hp=>by have:=okp p hp;have e:((xs.length:Nat):Int).toNat=hs.length:=(by lia);rw[e] at this;exact this,pc⟩
  have tk:=gd.turns op.1 ne;cbv;refine⟨n / 2520,1+n % 5,rfl,by lia,by lia,by lia,λpw H4 ws S4 ow lw r4=>?_⟩;cbv;refine eG (SqL.of (S4 _ _ hl)) λp np=>?_
  have S5:=ak np (.tup zs);cbv;refine⟨aM,λr nr=>?_⟩;have S6:=ak nr (.tup [.ref pw,.ref p]);have r5:Rz K (upd H4 p (.tup zs)) (.ref p) (.tuple (ts.map dT)):=.tup ag ((rzs.same S4).same S5);refine k r _ ws ts (S02.trans (S3.trans (S4.trans (S5.trans S6)))) ⟨ow,by lia,by lia,hs,?_,h8,tk⟩ (.tup ag (.cons ((r4.same S5).same S6) (.cons (r5.same S6) .nil)));rw[lw];exact op
end G2
namespace Ti
open PySem L2 Fr G1 Sm Vs G2
open PySem.W (Dat kqdOk)
abbrev ix:List (List Int)->List Int->Nat
 |[],_=>0
 |x :: xs,h=>if x=h then 0 else ix xs h+1
def DQ:∀{hs:List (List Int)} {h:List Int},h∈hs->hs[ix hs h]?=some h
 |x :: xs,h,m=>by
  unfold ix;by_cases e:x=h
  .rw[if_pos e,e];rfl
  .rw[if_neg e,Uh];exact DQ ((Py.mp m).resolve_left λz=>e z.symm)
def LO:∀{hs:List (List Int)} {h:List Int} {i:Nat},hs.Nodup->hs[i]?=some h->ix hs h=i
 |x :: xs,h,0,nd,e=>by
  unfold ix;rw[if_pos (PD e)]
 |x :: xs,h,i+1,nd,e=>by
  rw[Qf] at nd;rw[Uh] at e;unfold ix;rw[if_neg (show ¬ x=h from λz=>nd.1 (by rw[z];exact O7 e)),LO nd.2 e]
def LP{hs:List (List Int)}{h:List Int}(m:h∈hs):ix hs h<hs.length:=(O3.mp (DQ m)).1
def mL{hs:List (List Int)}{x:List Int}(m:x∈hs):x∈cK hs h:=by
 unfold cK;split
 .exact m
 .exact PK _ m
def tZ(hs:List (List Int))(h:List Int):h∈cK hs h:=by
 unfold cK;split
 .assumption
 .exact PB _ (Po.mpr rfl)
def mO:∀{ts:List Tn} {hs:List (List Int)} {x:List Int},x∈hs->x∈ik hs ts
 |[],_,_,m=>m
 |t :: ts,hs,x,m=>mO (ts:=ts) (mL (mL m))
def du:∀{ts:List Tn} {hs:List (List Int)} {t:Tn},t∈ts->t.fr∈ik hs ts/\t.to∈ik hs ts
 |u :: ts,hs,t,m=>by
  rcases Py.mp m with rfl|m
  .exact⟨mO (ts:=ts) (mL (tZ _ _)),mO (ts:=ts) (tZ _ _)⟩
  .exact du (ts:=ts) m
def zF{hs:List (List Int)}(nd:hs.Nodup):(cK hs h).Nodup:=by
 unfold cK;split
 .exact nd
 .rename_i z;exact cC nd z
def zK:∀(ts:List Tn) {hs:List (List Int)},hs.Nodup->(ik hs ts).Nodup
 |[],_,nd=>nd
 |t :: ts,_,nd=>zK ts (zF (zF nd))
def pB(ts:List Tn):(aF ts).Nodup:=zK ts RB
def zI{ts:List Tn}(l:ts.length<=100):(aF ts).length<=200:=by
 have:=mP ts []
 unfold aF;simp only[T_] at this;lia
abbrev am(ts:List Tn):List (Nat×Nat):=ts.map λt=>(ix (aF ts) t.fr,ix (aF ts) t.to)
abbrev MN(n:Nat)(es:List (Nat×Nat)):Prop:=∀e∈es,e.1<n/\e.2<n
def bO(ts:List Tn):MN (aF ts).length (am ts):=λe he=>by
 obtain⟨t,ht,rfl⟩:=Pl.mp he
 have:=du (hs:=[]) ht
 exact⟨LP this.1,LP this.2⟩
abbrev iT(K:Fg):Sp:=λvs H Q _=>∃(v:V) (ws:List Str) (ts:List Tn),vs=[v]/\Rz K H v (dV ws ts)/\ts.length<=100/\∀(p:Addr) (H':Hp),AccZ K H p H' ((am ts).map dP)->Q (.ref p) H'
def IP{K:Fg}{H:Hp}{σ:St}{Q:VK}{te:TE}{ts:List Tn}(l:ts.length<=100)(hb:H b=some (.tup xs))(rx:RzL K H xs (ts.map dT))
  (ht:∀(H2:Hp) (v:V) (t:Tn) (Q':VK),t∈ts->Same H H2->Rz K H2 v (dT t)->(∀p,H2 p=none->Q' (.ref p) (upd H2 p (.tup [.int (ix (aF ts) t.fr),.int (ix (aF ts) t.to)])))->te (some v :: σ) H2 Q')
  (hq:∀(D:Addr) (H':Hp),AccZ K H D H' ((am ts).map dP)->Q (.ref D) H'):cS (vH K b) te σ Q H:=by
 have lx:xs.length=ts.length:=by rw[rx.length,O0]
 refine uo (xs:=xs) λD nD=>⟨λi H2=>AccZ K H D H2 (((ts.take i).map λt=>(ix (aF ts) t.fr,ix (aF ts) t.to)).map dP),AccZ.start (Same.refl _) nD,λi H2 _ A=>SqT.of (A.same _ _ hb),?_,?_⟩
 .intro i z H2 hz A;obtain⟨dd,g1,g2⟩:=rx.get hz;rw[O4] at g1;obtain⟨t,et,rfl⟩:=Pb.mp g1;have li:i<ts.length:=(O3.mp et).1;refine ht H2 z t _ (O7 et) A.same (g2.same A.same) λp np=>?_
  have S3:=ak np (.tup [V.int (ix (aF ts) t.fr),.int (ix (aF ts) t.to)]);refine a6 (by lia) ((A.on S3).cI (d:=dP (ix (aF ts) t.fr,ix (aF ts) t.to)) (.tup ag (RpL.ints [_,_])) (au ?_) λH4 A4=>?_)
  .rw[O0,O0,Px];lia
  .show AccZ K H D H4 (((ts.take (i+1)).map λt=>(ix (aF ts) t.fr,ix (aF ts) t.to)).map dP);rw[Ps,et,O_,O_];exact A4
 .intro H2 A;rw[lx,Pc (Pa _)] at A;exact hq D H2 A
nonrec abbrev BS(K:Fg):TS:=(aq (a5 (ii K (ae (aC (gy K) [] E0 (ae (aa 0) aj)) aj)) (cg K 2 (aT (al 2) (aT (al 3) ci)))
 (oz (aa 1) (aa 3) (aa 2)))
 (aI (fE (vm K (ar (aD K) (aa 0) (tC (.int 1)))) (be (ae (qH (aa 2) (ar (aD K) (aa 0) (tC (.int 0)))) (ae (qH (aa 2) (ar (aD K) (aa 0) (tC (.int 1)))) aj))))))
abbrev wJ(K:Fg):TS:=(aq (av xk (al 1))
 (BS K))
def G5{K:Fg}:ρ 4 (iT K) (wJ K):=by
 fail "R";obtain⟨v,ws,ts,rfl,rv,hl,k⟩:=h;rw[L2.aP hN];walk_at "t";have hl2:=zI hl;have nd:=pB ts;unfold wJ;cbv;intro d fd;have S0:=ak fd (.dT []);cbv;refine⟨v,ws,ts,rfl,rv.same S0,hl,λp H1 A1=>?_⟩;obtain⟨xs,hp,rx⟩:=A1.at_;have lx:xs.length=(aF ts).length:=by rw[rx.length,O0]
 have S1:=A1.same;have e1:H1 d=some (.dT []):=S1 _ _ ag;cbv;refine⟨p,xs,rfl,SqL.of hp,?_⟩
 refine dB (xs:=xs) (λi σ H2=>∃(de:List (List a7×V)) (u2 u3:Option V),σ=[some v,⇑d,u2,u3]/\Same H H2/\(∀b o,b≠d->H1 b=some o->H2 b=some o)/\H2 d=some (.dT de)/\de.length<=i/\∀g:List Int,g∈(aF ts).take i->bK de (iz g)=some (.int (ix (aF ts) g)))
  ⟨[],none,none,rfl,S0.trans S1,λ_ _ _ z=>z,e1,Pa _,by simp⟩ ?_ ?_ ?_
 .rintro i σ H2 _ ⟨de,u2,u3,rfl,S,kp,ed,ek,eg⟩;exact SqL.of (kp p _ (j9 hp e1 (by intro z;cases z)) hp)
 .rintro i z σ H2 T hz ⟨de,u2,u3,rfl,S,kp,ed,ek,eg⟩ nT;obtain⟨dd,g1,g2⟩:=rx.get hz;rw[O4] at g1;obtain⟨g,hg,rfl⟩:=Pb.mp g1;have li:i<(aF ts).length:=(O3.mp hg).1;obtain⟨b,rfl,hb⟩:=bN g2;have nbd:b≠d:=j9 hb e1 (by intro z;cases z);have S2:=ak nT (.tup [.int (i:Int),.ref b]);have nTd:T≠d:=(aw ed nT).symm;have ed2:=S2 _ _ ed;have hb2:=S2 _ _ (kp b _ nbd hb);refine bI (SqT.of ag) rfl ?_;cbv;refine⟨d,_,rfl,DPut.t ed2 (k:=iz g) (by rw[kj];exact hb2) (au (by lia)),?_⟩;have le1:=ce de (iz g) (.int (i:Int));refine⟨_,_,_,rfl,λb' o q=>?_,λb' o n q=>?_,ag,by lia,λg' mg=>?_⟩
  .rw[aE (aw q fd)];exact S2 _ _ (S _ _ q)
  .rw[aE n];exact S2 _ _ (kp b' o n q)
  .rw[kT];by_cases e:iz g'=iz g
   .rw[if_pos e,vZ e,LO nd hg]
   .rw[if_neg e];refine eg g' ?_;rw[Ps,hg] at mg;rcases Pz.mp mg with m|m
    .exact m
    .exact absurd (by rw[Po.mp m]) e
 .rintro σ H2 ⟨de,u2,u3,rfl,S,kp,ed,ek,eg⟩;rw[lx,Pc (Pa _)] at eg;obtain⟨a0,y1,y2,rfl,ha0,_,r2⟩:=si (rv.same S);obtain⟨a,zs,rfl,ha,rz⟩:=r2.cF;cbv;refine aG (SqT.of ha0) (v:=.ref a) rfl ?_;refine NK (SqT.of ha) ?_;refine IP hl ha rz (λH3 z t Q' mt S3 rt q=>?_) λD H' A=>k D H' (uu S A)
  obtain⟨b,w1,w2,w3,rfl,hb,q1,q2,_⟩:=kc rt;obtain⟨b1,rfl,Z3⟩:=bN q1;obtain⟨b2,rfl,hb2⟩:=bN q2;have mm:=du (hs:=[]) mt;cbv;refine aG (SqT.of hb) (v:=.ref b1) rfl ?_;refine⟨d,_,rfl,(by have:=DGet.t (S3 _ _ ed) (k:=iz t.fr) (b:=b1) (by rw[kj];exact Z3);rw[eg t.fr mm.1] at this;exact this),?_⟩;cbv;refine aG (SqT.of hb) (v:=.ref b2) rfl ?_;refine⟨d,_,rfl,(by have:=DGet.t (S3 _ _ ed) (k:=iz t.to) (b:=b2) (by rw[kj];exact hb2);rw[eg t.to mm.2] at this;exact this),?_⟩;cbv;exact⟨aM,q⟩
def cq{α:Type}[DecidableEq α]:∀{l hs:List α},l.Nodup->(∀x∈l,x∈hs)->l.length<=hs.length
 |[],_,_,_=>Ql _
 |x :: l,hs,nd,sub=>by
  rw[Qf] at nd;have hx:=sub x O8
  have h:=cq (l:=l) (hs:=hs.erase x) nd.2 λy hy=>by
   refine(List.mem_erase_of_ne ?_).mpr (sub y (O9 _ hy));rintro rfl;exact nd.1 hy
  rw[List.length_erase_of_mem hx] at h
  have:=Wx hx
  rw[P7];lia
inductive Rch (es:List (Nat×Nat)) (a:Nat):Nat->Prop
 |refl:Rch es a a
 |step {x y:Nat}:Rch es a x->(x,y)∈es->Rch es a y
abbrev Cl(es:List (Nat×Nat))(S:List Nat):Prop:=∀e∈es,e.1∈S->e.2∈S
def JZ{S:List Nat}{a:Nat}(ha:a∈S)(c:Cl es S)(h:Rch es a b):b∈S:=by
 induction h with
 |refl=>exact ha
 |step _ m ih=>exact c _ m ih
abbrev dN(n:Nat):Dat:=.int (n:Int)
def An{K:Fg}(h:Rz K H v (dP q)):∃a:Addr,v=.ref a/\H a=some (.tup [.int (q.1:Int),.int (q.2:Int)]):=by
 obtain⟨a,xs,e,ha,r⟩:=h.cF;cases RpL.ints_of (ns:=[(q.1:Int),(q.2:Int)]) r;exact⟨a,e,ha⟩
abbrev tq(K:Fg):Sp:=λvs H Q _=>∃(v:V) (ws:List Str) (ts:List Tn) (n:Nat),vs=[v,.int (n:Int)]/\Rz K H v (dV ws ts)/\ts.length<=100/\n<(aF ts).length/\∀H',Same H H'->Q .non H'
abbrev xf(K:Fg):TS:=(a8 (Jl (iL (tB (aC iO [] E0 (ae (aa 1) aj)))) (iL (aR (sS Nd yn (tC (.int 0)) (aa 1) (b_ (cH K) (ae (aC (gy K) [] E0 (ae (aa 0) aj)) aj))))))
 iM
 bw)
def Hb{K:Fg}:ρ 2 (tq K) (xf K):=by
 fail "R";obtain⟨v,ws,ts,n,rfl,rv,hl,ln,k⟩:=h;rw[L2.aP hN];walk_at "t";unfold xf;cbv;refine⟨(n:Int),rfl,?_⟩;cbv;refine a9 (λ_=>?_) (λz=>absurd z (by lia));cbv;refine⟨v,ws,ts,rfl,rv,hl,λp H1 A1=>?_⟩;obtain⟨xs,hp,lx,_⟩:=A1.sq;rw[O0] at lx;cbv;refine cR hp ?_;cbv;refine gW (λz=>absurd z (by lia)) (λ_=>?_);cbv;exact k H1 A1.same
structure RI (es:List (Nat×Nat)) (a n:Nat) (H3:Hp) (rd ct:Addr) (cs:List Nat) (H:Hp):Prop where
 same:Same H3 H
 dict:∃de:List (a7×V),H rd=some (.dK de)/\de.length<=cs.length/\(∀c:Nat,(bK de (.inl (c:Int))).isSome=true↔c∈cs)/\∀k v,bK de k=some v->∃q xs,v=.ref q/\H q=some (.lst xs)/\q≠ct/\xs.length<=cs.length
 come:H ct=some (.lst (cs.map λc:Nat=>V.int (c:Int)))
 nd:cs.Nodup
 lt:∀c∈cs,c<n
 one:a∈cs
 rch:∀c∈cs,Rch es a c
def RI.on(R:RI es a n H3 rd ct cs H)(S:Same H H'):RI es a n H3 rd ct cs H':=by
 obtain⟨de,h1,h2,h3,h4⟩:=R.dict;refine⟨R.same.trans S,⟨de,S _ _ h1,h2,h3,λk v e=>?_⟩,S _ _ R.come,R.nd,R.lt,R.one,R.rch⟩;obtain⟨q,xs,e1,e2,e3⟩:=h4 k v e;exact⟨q,xs,e1,S _ _ e2,e3⟩
def RI.len(R:RI es a n H3 rd ct cs H):cs.length<=n:=by
 have:=cq (hs:=Pi n) R.nd λx hx=>PJ.mpr (R.lt x hx)
 rwa [PN] at this
def RI.more{de:List (a7×V)}{y:Nat}(R:RI es a n H3 rd ct cs H)(nr:H3 rd=none)(nc:H3 ct=none)(ed:H rd=some (.dK de))(ny:y∉cs)(ly:y<n)(ry:Rch es a y)
  (hp:H p=some (.lst xs)) (npc:p≠ct) (lxs:xs.length<=cs.length+1) :
  RI es a n H3 rd ct (cs++[y]) (upd (upd H rd (.dK (cc de (.inl (y:Int)) (.ref p)))) ct (.lst ((cs.map λc:Nat=>V.int (c:Int))++[.int (y:Int)]))):=by
 obtain⟨kvs',h1,h2,h3,h4⟩:=R.dict;rw[ed] at h1;cases h1;have ncr:rd≠ct:=j9 ed R.come (by intro z;cases z);have lp:=ce de (TF (y:Int):a7) (.ref p);refine⟨λb o q=>?_,⟨_,by rw[aE ncr];exact ag,by rw[Pm];simp only[Rj];lia,λc=>?_,λk v e=>?_⟩,by rw[ag,O_];rfl,cC R.nd ny,ck R.lt ly,PK _ R.one,ck R.rch ry⟩
 .rw[aE (aw q nc),aE (aw q nr)];exact R.same b o q
 .rw[kT,Pz,Po];by_cases e:c=y
  .subst e;simp
  .rw[if_neg (show ¬ ((TF (c:Int):a7)=TF (y:Int)) from λz=>e (T8 (Uf z))),h3 c];simp[e]
 .rw[kT] at e
  have keep:∀q ys,H q=some (.lst ys)->q≠ct->upd (upd H rd (.dK (cc de (.inl (y:Int)) (.ref p)))) ct (.lst ((cs.map λc:Nat=>V.int (c:Int))++[.int (y:Int)])) q=some (.lst ys):=λq ys hq nq=>by
   rw[aE nq,aE (j9 hq ed (by intro z;cases z))];exact hq
  rw[Pm];simp only[Rj];by_cases ek:k=.inl (y:Int)
  .rw[if_pos ek] at e;exact⟨p,xs,(PD e).symm,keep p xs hp npc,npc,lxs⟩
  .rw[if_neg ek] at e;obtain⟨q,ys,e1,e2,e3,e4⟩:=h4 k v e;exact⟨q,ys,e1,keep q ys e2 e3,e3,by lia⟩
abbrev xI(K:Fg):Sp:=λvs H Q _=>∃(v:V) (ws:List Str) (ts:List Tn) (a b:Nat),vs=[v,.int (a:Int),.int (b:Int)]/\Rz K H v (dV ws ts)/\ts.length<=100/\a<(aF ts).length/\b<(aF ts).length /\
 (Rch (am ts) a b->∀(p:Addr) (H':Hp),Same H H'->Q (.ref p) H')/\(¬ Rch (am ts) a b->∀H',Same H H'->Q .non H')
nonrec abbrev BM(K:Fg):TS:=(a8 (jR (aR (ar hJ (ar (aD K) (aa 9) (tC (.int 0))) (aa 7))) (tB (qG (ar (aD K) (aa 9) (tC (.int 1))) (aa 4))))
 (aq (oz (aa 4) (ar (aD K) (aa 9) (tC (.int 1))) (ar yp (qH (aa 4) (aa 7)) (bU (ae (aa 8) aj))))
 (bM (dU K "list" aN (aa 5) (ae (ar (aD K) (aa 9) (tC (.int 1))) aj))))
 bw)
nonrec abbrev BL(K:Fg):TS:=(aq (gR (aR (ar yn (aa 6) (b_ (cH K) (ae (aa 5) aj))))
 (aq (av (ar (bY K) (aa 5) (aa 6)) (al 7))
 (aq (a5 (ii K (ae (aa 3) aj)) (cg K 2 (aT (al 8) (aT (al 9) ci)))
 (BM K))
 (av (ar aX (aa 6) (tC (.int 1))) (al 6)))))
 (aI (xl (aa 4) (aa 2))))
nonrec abbrev BK(K:Fg):TS:=(aq (bM (aC (tq K) [] E0 (ae (aa 0) (ae (aa 2) aj))))
 (aq (av (aC (iT K) [] E0 (ae (aa 0) aj)) (al 3))
 (aq (av (Go [((aa 1),(bU aj))]) (al 4))
 (aq (av (bU (ae (aa 1) aj)) (al 5))
 (aq (av (tC (.int 0)) (al 6))
 (BL K))))))
abbrev wv(K:Fg):TS:=(aq (bM (aC (tq K) [] E0 (ae (aa 0) (ae (aa 1) aj))))
 (BK K))
def GV{K:Fg}:ρ 10 (xI K) (wv K):=by
 fail "R";obtain⟨v,ws,ts,a,b,rfl,rv,hl,la,lb,kyes,kno⟩:=h;rw[L2.aP hN];walk_at "t";have hl2:=zI hl;have eo:=bO ts;unfold wv;cbv;refine⟨v,ws,ts,a,rfl,rv,hl,la,λH1 S1=>?_⟩;cbv;refine⟨v,ws,ts,b,rfl,rv.same S1,hl,lb,λH2 S2=>?_⟩;cbv;refine⟨v,ws,ts,rfl,(rv.same S1).same S2,hl,λpe H3 A3=>?_⟩;have S03:=S1.trans (S2.trans A3.same);obtain⟨xs,hpe,rx⟩:=A3.at_;have le:(am ts).length=ts.length:=by unfold am;rw[O0]
 have lx:xs.length=(am ts).length:=by rw[rx.length,O0]
 generalize am ts=es at kyes kno rx lx eo le;generalize (aF ts).length=n at la lb hl2 eo;cbv;intro rd nr;have T1:=ak nr (.dK []);unfold iK;cbv;refine⟨by decide,λq0 nq0=>?_⟩;have T2:=ak nq0 (.lst []);unfold iK;refine⟨T2 _ _ ag,[(.inl (a:Int),.ref q0)],rfl,by show 1<=15;decide,?_⟩;have nq:q0≠rd:=(aw (show upd H3 rd (.dK []) rd=some _ from ag) nq0).symm
 have S4:Same H3 (upd (upd (upd H3 rd (.dK [])) q0 (.lst [])) rd (.dK (dF [] [(.inl (a:Int),.ref q0)]))):=λb' o q=>by
  rw[aE (aw q nr)];exact T2 _ _ (T1 _ _ q)
 have ed:upd (upd (upd H3 rd (.dK [])) q0 (.lst [])) rd (.dK (dF [] [(.inl (a:Int),.ref q0)])) rd=some (.dK [((.inl (a:Int):a7),.ref q0)]):=ag;have eq0:upd (upd (upd H3 rd (.dK [])) q0 (.lst [])) rd (.dK (dF [] [(.inl (a:Int),.ref q0)])) q0=some (.lst []):=by rw[aE nq];exact ag
 generalize upd (upd (upd H3 rd (.dK [])) q0 (.lst [])) rd (.dK (dF [] [(.inl (a:Int),.ref q0)]))=H4 at S4 ed eq0 ⊢;cbv;refine⟨gA,λct nct=>?_⟩;have S5:=ak nct (.lst [.int (a:Int)]);have nc:H3 ct=none:=S4.free nct
 have R0:RI es a n H3 rd ct [a] (upd H4 ct (.lst [.int (a:Int)])):=by
  refine⟨S4.trans S5,⟨_,S5 _ _ ed,by simp,λc=>?_,λk v e=>?_⟩,ag,by simp,λc hc=>by rw[Po.mp hc];exact la,by simp,λc hc=>by rw[Po.mp hc];exact .refl⟩
  .by_cases e:c=a
   .subst e;rw[bD rfl];simp
   .rw[bj (show ¬ (TF (a:Int):a7)=TF (c:Int) from λz=>e (T8 (Uf z)).symm)];simp[e,sO]
  .by_cases e':(TF (a:Int):a7)=k
   .rw[bD e'] at e;exact⟨q0,[],(PD e).symm,S5 _ _ eq0,aw eq0 nct,by simp⟩
   .rw[bj e',sO] at e;cases e
 generalize upd H4 ct (.lst [.int (a:Int)])=H5 at R0;cbv
 refine iy (λσ H6=>∃(cs:List Nat) (pl:Nat) (u7 u8 u9:Option V),σ=[some v,↥(a:Int),↥(b:Int),⇑pe,⇑rd,⇑ct,↥(pl:Int),u7,u8,u9]/\RI es a n H3 rd ct cs H6/\pl<=cs.length/\∀j<pl,∀x,cs[j]?=some x->∀y,(x,y)∈es->y∈cs)
  (λσ _=>match σ with | [_,_,_,_,_,_,↥pl,_,_,_]=>n-pl.toNat|_=>0) ⟨[a],0,none,none,none,rfl,R0,Ql _,λj hj=>absurd hj (Rq _)⟩ ?_ ?_
 .rintro σ H6 ⟨cs,pl,u7,u8,u9,rfl,R,lpl,done⟩;have lcs:=R.len;cbv;refine cR (SqL.of R.come) ?_;rw[O0];cbv;refine a9 (λlt=>?_) (λge=>?_)
  .have lt':pl<cs.length:=by lia
   have ehere:cs[pl]?=some cs[pl]:=O1 lt';have mhere:=Qx lt';generalize cs[pl]=hr at ehere mhere;cbv;refine cf (SqL.of R.come) (v:=.int (hr:Int)) (aO (by rw[O4,ehere];rfl)) ?_;cbv;refine⟨pe,xs,rfl,SqL.of (R.same _ _ hpe),?_⟩
   refine dB (xs:=xs) (λi σ H7=>∃(ex:List Nat) (w8 w9:Option V),σ=[some v,↥(a:Int),↥(b:Int),⇑pe,⇑rd,⇑ct,↥(pl:Int),↥(hr:Int),w8,w9]/\RI es a n H3 rd ct (cs++ex) H7/\∀j<i,∀y,es[j]?=some (hr,y)->y∈cs++ex)
    ⟨[],u8,u9,rfl,by rw[RW];exact R,λj hj=>absurd hj (Rq _)⟩ ?_ ?_ ?_
   .rintro i σ H7 _ ⟨ex,w8,w9,rfl,R7,_⟩;exact SqL.of (R7.same _ _ hpe)
   .rintro i z σ H7 T hz ⟨ex,w8,w9,rfl,R7,dn⟩ nT;obtain⟨dd,g1,g2⟩:=rx.get hz;rw[O4] at g1;obtain⟨e,he,rfl⟩:=Pb.mp g1;obtain⟨x,y⟩:=e;have mem:(x,y)∈es:=O7 he;have oe:=eo _ mem;have S8:=ak nT (.tup [.int (i:Int),z]);have R8:=R7.on S8;obtain⟨pb,rfl,hpb⟩:=An ((g2.same R7.same).same S8)
    have keep:(x=hr->y∈cs++ex)->∀j<i+1,∀y',es[j]?=some (hr,y')->y'∈cs++ex:=λq j hj y' ge=>by
     by_cases ji:j<i
     .exact dn j ji y' ge
     .have:j=i:=by lia
      rw[this,he] at ge;have e1:=PD ge;have e2:x=hr:=congrArg UY e1;have e3:y=y':=congrArg Uu e1;rw[<- e3];exact q e2
    have hT:upd H7 T (.tup [.int (i:Int),.ref pb]) T=some (.tup [.int (i:Int),.ref pb]):=ag;refine bI (SqT.of ag) rfl ?_;cbv;generalize upd H7 T (.tup [.int (i:Int),.ref pb])=H8 at S8 R8 hpb hT ⊢;refine aG (SqT.of hpb) (v:=.int (x:Int)) rfl ?_;cbv;refine a9 (λex1=>?_) (λex1=>?_)
    .have exh:x=hr:=T8 ex1;cbv;refine aG (SqT.of hpb) (v:=.int (y:Int)) rfl ?_;cbv;obtain⟨de,d1,d2,d3,d4⟩:=id R8.dict;refine⟨rd,_,rfl,(DGet.k d1:DGet H8 rd (kV (.inl (y:Int))) _),?_⟩;by_cases my:y∈cs++ex
     .rw[(d3 y).mpr my];cbv;exact⟨ex,_,_,rfl,R8,keep λ_=>my⟩
     .have nv:(bK de (.inl (y:Int))).isSome=false:=by
       cases hh:(bK de (.inl (y:Int):a7)).isSome with
       |false=>rfl
       |true=>exact absurd ((d3 y).mp hh) my
      rw[nv];cbv;obtain⟨vh,evh⟩:=T6.mp ((d3 hr).mpr (PK _ mhere));obtain⟨q,zs,rfl,hq,nqc,lz⟩:=d4 _ _ evh;have lall:=R8.len;refine⟨rd,_,rfl,(by have:=(DGet.k d1:DGet H8 rd (kV (.inl (hr:Int))) _);rw[evh] at this;exact this),?_⟩;cbv;refine⟨gA,λp1 np1=>?_⟩;have S9:=ak np1 (.lst [.int (i:Int)]);have hp1:upd H8 p1 (.lst [.int (i:Int)]) p1=some (.lst [.int (i:Int)]):=ag;have R9:=R8.on S9;have d9:=S9 _ _ d1;have hq9:=S9 _ _ hq;have hpb9:=S9 _ _ hpb;generalize upd H8 p1 (.lst [.int (i:Int)])=H9 at S9 hp1 R9 d9 hq9 hpb9 ⊢;refine⟨q,p1,zs,_,rfl,rfl,hq9,hp1,by rw[show sizeLine=16777216 by decide];simp only[Rj];lia,λp2 np2=>?_⟩;have S10:=ak np2 (.lst (zs++[.int (i:Int)]));have hp2:upd H9 p2 (.lst (zs++[.int (i:Int)])) p2=some (.lst (zs++[.int (i:Int)])):=ag;have R10:=R9.on S10;have d10:=S10 _ _ d9;have hpb10:=S10 _ _ hpb9;have np2c:p2≠ct:=(aw R9.come np2).symm;generalize upd H9 p2 (.lst (zs++[.int (i:Int)]))=H10 at S10 hp2 R10 d10 hpb10 ⊢;cbv;refine aG (SqT.of hpb10) (v:=.int (y:Int)) rfl ?_;refine⟨rd,_,rfl,(DPut.k d10 (au (by lia)):DPut H10 rd (kV (.inl (y:Int))) _ _),?_⟩;have ncr:ct≠rd:=(j9 d10 R10.come (by intro z;cases z)).symm;have npr:pb≠rd:=j9 hpb10 d10 (by intro z;cases z);have hc11:upd H10 rd (.dK (cc de (.inl (y:Int)) (.ref p2))) ct=some (.lst ((cs++ex).map λc:Nat=>V.int (c:Int))):=by rw[aE ncr];exact R10.come
      have R11:=R10.more (y:=y) (p:=p2) (xs:=zs++[.int (i:Int)]) nr nc d10 my oe.2 (.step (R8.rch x (exh ▸ PK _ mhere)) mem) hp2 np2c (by rw[Pm];simp only[Rj];lia);cbv;refine⟨vg hc11,?_⟩;cbv;refine aG (SqT.of (by rw[aE npr];exact hpb10)) (v:=.int (y:Int)) rfl ?_;refine DM ?_;refine DO hc11 (au (by rw[O0];lia)) ?_;cbv;refine⟨ex++[y],_,_,rfl,by rw[<- QF];exact R11,λj hj y' ge=>?_⟩;rw[<- QF];by_cases ji:j<i
      .exact PK _ (dn j ji y' ge)
      .have:j=i:=by lia
       rw[this,he] at ge;have e3:y=y':=congrArg Uu (PD ge);exact PB _ (by rw[e3];exact Po.mpr rfl)
    .cbv;exact⟨ex,_,_,rfl,R8,keep λz=>absurd (by rw[z]) ex1⟩
   .rintro σ H7 ⟨ex,w8,w9,rfl,R7,dn⟩;cbv;refine⟨⟨cs++ex,pl+1,_,_,_,rfl,R7,by rw[Pm];lia,λj hj x gx y my=>?_⟩,?_⟩
    .by_cases jp:j<pl
     .rw[Qu (by lia)] at gx;exact PK _ (done j jp x gx y my)
     .have:j=pl:=by lia
      rw[this,Qu lt',ehere] at gx;cases PD gx;obtain⟨m,hm,ge⟩:=QE.mp my;exact dn m (by lia) y (by rw[O1 hm,ge])
    .show n-((pl:Int)+1).toNat<n-((pl:Int)).toNat;lia
  .have epl:pl=cs.length:=by lia
   have cl:Cl es cs:=λe he m1=>by
    obtain⟨j,hj,gj⟩:=QE.mp m1;exact done j (by lia) e.1 (by rw[O1 hj,gj]) e.2 he
   obtain⟨de,d1,d2,d3,d4⟩:=id R.dict;cbv;refine⟨rd,rfl,.inl ⟨de,.inl d1⟩,?_⟩;cbv;refine⟨_,(DGet.k d1:DGet H6 rd (kV (.inl (b:Int))) _),?_⟩;cases hv:bK de (.inl (b:Int)) with
   |none =>
    refine kno (λr=>?_) H6 (S03.trans R.same)
    have:=(d3 b).mpr (JZ R.one cl r)
    rw[hv] at this;cases this
   |some w =>
    obtain⟨q,zs,rfl,_⟩:=d4 _ _ hv;exact kyes (R.rch b ((d3 b).mp (by rw[hv];rfl))) q H6 (S03.trans R.same)
 .rintro σ H' R R' h ⟨w1,e1,w2,e2,p,ys,e3,e4,i,j,e5,e6,kk,e7,q⟩;exact⟨w1,e1,w2,e2,p,ys,e3,e4,i,j,e5,e6,kk,e7,h _ _ q⟩
end Ti
namespace Sz
open PySem L2 Fr G1 Sm Vs G2 Rk
open PySem.W (Dat kqdOk)
abbrev dL(r:List Int):Dat:=.list (r.map Qm)
def vB{K:Fg}(h:Rp K S H v (dL r)):∃b,v=.ref b/\S b/\H b=some (.lst (r.map V.int)):=by
 obtain⟨b,xs,rfl,s,hb,rx⟩:=Rp.kx h;rw[RpL.ints_of rx] at hb;exact⟨b,rfl,s,hb⟩
def vA{K:Fg}{S:Addr->Prop}{H:Hp}{r:List Int}(s:S b)(h:H b=some (.lst (r.map V.int))):Rp K S H (.ref b) (dL r):=.lst s h (RpL.ints r)
abbrev Bi(n:Nat)(R:List (List Int)):Prop:=∀r∈R,∀c∈r,c.natAbs<2 ^ n
def oE{n:Nat}{r:List Int}(h:∀c∈r,c.natAbs<2 ^ n)(p:Nat):(pt r p).natAbs<2 ^ n:=by
 unfold pt;rw[O2];cases e:r[p]? with
 |none=>exact YA n
 |some c=>exact h c (O7 e)
def Ax{n:Nat}{Zg r:List Int}(hb:∀c∈Zg,c.natAbs<2 ^ n)(hr:∀c∈r,c.natAbs<2 ^ n):∀c∈jQ Zg p r,c.natAbs<2 ^ (2*n+1):=by
 intro c hc;unfold jQ at hc;obtain⟨i,hi⟩:=P_ hc;rw[Tl] at hi;cases e1:r[i]? with
 |none=>rw[e1] at hi;simp at hi
 |some one =>
  cases e2:Zg[i]? with
  |none=>rw[e1,e2] at hi;simp at hi
  |some kh =>
   rw[e1,e2] at hi;have hi':=PD hi;subst hi'
   have m1:(one*pt Zg p).natAbs<2 ^ n*2 ^ n:=by
    rw[P2];exact UJ (hr one (O7 e1)) (oE hb p)
   have m2:(pt r p*kh).natAbs<2 ^ n*2 ^ n:=by
    rw[P2];exact UJ (oE hr p) (hb kh (O7 e2))
   have e:2 ^ (2*n+1)=2 ^ n*2 ^ n+2 ^ n*2 ^ n:=by
    rw[QW,Nat.two_mul n,QU];lia
   rw[e];generalize one*pt Zg p=x at m1 ⊢;generalize pt r p*kh=y at m2 ⊢;generalize 2 ^ n*2 ^ n=z at m1 m2 ⊢;show(x-y).natAbs<z+z;lia
def E8{n:Nat}{x y:Int}(h:n<=20000)(hx:x.natAbs<2 ^ n)(hy:y.natAbs<2 ^ n):iu x y:=⟨PL hx (Ph (by decide) h),PL hy (Ph (by decide) h)⟩
def su{r:List Int}{i:Nat}(h:i<r.length):ur (r.map V.int) ((i:Nat):Int)=some (V.int (pt r i)):=by
 refine aO ?_;unfold pt;rw[O4,O2,O1 h];rfl
abbrev L_(t:Tn):List Int:=TH (λa b=>b-a) t.fr t.to
end Sz
namespace Sf
open Rk Sz
abbrev fp(r:List Int):Option Nat:=r.findIdx? (λx=>decide (x≠0))
def cZ{i:Nat}(h:fp r=some i):i<r.length/\pt r i≠0/\∀j,j<i->pt r j=0:=by
 unfold fp at h;rw[Sj] at h;obtain⟨l,h1,h2⟩:=h;refine⟨l,?_,λj hj=>?_⟩
 .unfold pt;rw[O2,O1 l];simpa using h1
 .have:=h2 j hj
  unfold pt;rw[O2,O1 (by lia)];simpa using this
def z_(h:fp r=none)(q:Nat):pt r q=0:=by
 unfold fp at h;rw[Sk] at h;unfold pt;rw[O2];cases e:r[q]? with
 |none=>rfl
 |some c=>simpa using h c (O7 e)
abbrev cM(r:List Int):Int:=r.foldl Gd.gd 0
def L1(a b:Int):Gd.gd a b∣a/\Gd.gd a b∣b:=⟨Wc ..,VQ ..⟩
def iH:∀(r:List Int) (g:Int),r.foldl Gd.gd g∣g/\∀x∈r,r.foldl Gd.gd g∣x
 |[],g=>⟨Int.dvd_refl g,by simp⟩
 |y :: r,g=>by
  obtain⟨h1,h2⟩:=iH r (Gd.gd g y);obtain⟨d1,d2⟩:=L1 g y;refine⟨Int.dvd_trans h1 d1,λx hx=>?_⟩;rcases Py.mp hx with rfl|hx
  .exact Int.dvd_trans h1 d2
  .exact h2 x hx
def zS(h:pt r i≠0):cM r≠0:=by
 intro z;unfold pt at h;rw[O2] at h;cases e:r[i]? with
 |none=>rw[e] at h;exact h rfl
 |some c =>
  rw[e] at h
  have:=(iH r 0).2 c (O7 e)
  unfold cM at z;rw[z] at this;exact h (Int.zero_dvd.mp this)
abbrev dJ(r:List Int)(i:Nat):Int:=if pt r i<0 then -cM r else cM r
abbrev bz(r:List Int):List Int:=match fp r with
 |none=>r
 |some i=>r.map λx=>x.fdiv (dJ r i)
def ui(h:pt r i≠0):dJ r i≠0:=by
 have:=zS h
 unfold dJ;split <;> lia
def r9(r:List Int)(i:Nat):∀x∈r,dJ r i∣x:=λx hx=>by
 have:=(iH r 0).2 x hx
 unfold dJ;split
 .exact(VR).mpr this
 .exact this
def dj(r:List Int):(bz r).length=r.length:=by
 unfold bz;split
 .rfl
 .rw[O0]
def jr(r:List Int):∃g:Int,g≠0/\∀q,g*pt (bz r) q=pt r q:=by
 unfold bz;split
 .exact⟨1,by decide,λq=>TB _⟩
 .rename_i i e
  have:=(cZ e).2.1
  refine⟨dJ r i,ui this,λq=>?_⟩;unfold pt;rw[O2,O4,O2];cases e2:r[q]? with
  |none=>exact R4 _
  |some c=>exact UZ (r9 r i c (O7 e2))
def tV{n:Nat}{r:List Int}(h:∀c∈r,c.natAbs<2 ^ n):∀c∈bz r,c.natAbs<2 ^ n:=by
 unfold bz;split
 .exact h
 .rename_i i e;intro c hc;obtain⟨x,hx,rfl⟩:=Pl.mp hc;exact Pk (Gd.mR (ui (cZ e).2.1) (r9 r i x hx)) (h x hx)
abbrev cQ(row s:List Int):List Int:=bz (jQ s ((fp s).getD 0) row)
abbrev aU(row:List Int)(S:List (List Int)):List Int:=S.foldl cQ row
abbrev bE(n i:Nat):List Int:=(Pi n).map λo=>if o=i then 1 else 0
structure qb where
 stairs:List (List Int)
 free:List Nat
 makers:List (List Int)
abbrev cG(n:Nat)(st:qb)(i:Nat)(r:List Int):List Int:=aU (r++bE n i) st.stairs
abbrev i6(n:Nat)(st:qb)(i:Nat)(r:List Int):qb :=
 if (fp (cG n st i r)).getD (r.length+n)<r.length then ⟨st.stairs++[cG n st i r],st.free++[i],st.makers⟩
 else ⟨st.stairs,st.free,st.makers++[bz ((cG n st i r).drop r.length)]⟩
abbrev x6(R:List (List Int)):Nat->qb
 |0=>⟨[],[],[]⟩
 |i+1=>i6 R.length (x6 R i) i (R.getD i [])
abbrev rowsOf(R:List (List Int))(ix:List Nat):List (List Int):=ix.map λi=>R.getD i []
open Classical in
abbrev pC (R:List (List Int)):Nat->List Nat
 |0=>[]
 |i+1=>if dO (rowsOf R (pC R i)++[R.getD i []]) then pC R i++[i] else pC R i
open Classical in
def zL{R:List (List Int)}{r:List Int}(e:R.getD i []=r)(h:dO (rowsOf R (pC R i)++[r])):pC R (i+1)=pC R i++[i]:=by
 subst e;exact if_pos h
open Classical in
def Fj{R:List (List Int)}{r:List Int}(e:R.getD i []=r)(h : ¬ dO (rowsOf R (pC R i)++[r])):pC R (i+1)=pC R i:=by
 subst e;exact if_neg h
def dZ{s:List Int}:pt (s.take w) q=if q<w then pt s q else 0:=by
 unfold pt;rw[O2,Xy,O2];split
 .rfl
 .rfl
def uk{w q:Nat}:∀(d:List Int) (S:List (List Int)),bC d (S.map (Ug w)) q=if q<w then bC d S q else 0
 |[],S=>by cases S <;> simp[bC]
 |x :: d,[]=>by simp[bC]
 |x :: d,s :: S=>by
  have ih:=uk (w:=w) (q:=q) d S;show x*pt (s.take w) q+bC d (S.map (Ug w)) q=_;rw[ih,dZ];split
  .rfl
  .simp
def km{w:Nat}:∀{S:List (List Int)} {ps:List Nat},cy S ps->(∀p∈ps,p<w)->cy (S.map (Ug w)) ps
 |_,_,.nil,_=>.nil
 |_,_,.cons h1 h2 r,hp=>.cons (by rw[dZ,if_pos (hp _ O8)];exact h1) (λt ht=>by
   obtain⟨u,hu,rfl⟩:=Pl.mp ht
   rw[dZ,if_pos (hp _ O8)]
   exact h2 u hu) (km r λp hpp=>hp p (O9 _ hpp))
def pH{w:Nat}(c:Clrd S ps x x')(hp:∀p∈ps,p<w):Clrd (S.map (Ug w)) ps (x.take w) (x'.take w):=by
 obtain⟨d,c0,G,ld,hc,hG,e⟩:=c.made;refine⟨⟨d,c0,G,by rw[ld,O0],hc,hG,λq=>?_⟩,λq hq=>by rw[dZ,if_pos (hp q hq)];exact c.nought q hq,by rw[Px,Px,c.len]⟩;rw[dZ,dZ,uk];split
 .exact e q
 .simp
def Eh{x:List Int}{L:Nat}(lx:x.length=L):∀{S:List (List Int)} {ps:List Nat},cy S ps->(∀s∈S,s.length=L)->S.map fp=ps.map some->Clrd S ps x (aU x S):=by
 have go:∀(T:List (List Int)) (qs:List Nat) (S:List (List Int)) (ps:List Nat) (y:List Int),Clrd S ps x y->S.length=ps.length->cy (S++T) (ps++qs)->(∀s∈T,s.length=L)->T.map fp=qs.map some->Clrd (S++T) (ps++qs) x (aU y T):=by
  intro T
  induction T with
  |nil =>
   intro qs S ps y c _ _ _ e;cases qs with
   |nil=>simpa[aU] using c
   |cons=>simp at e
  |cons s T ih =>
   intro qs S ps y c l st hl e;cases qs with
   |nil=>simp at e
   |cons p qs =>
    obtain⟨e1,e2⟩:=SK e;rw[show S++s :: T=(S++[s])++T by simp,show ps++p :: qs=(ps++[p])++qs by simp] at st ⊢
    have Z2:cy (S++[s]) (ps++[p]):=by
     have:∀(T:List (List Int)) {S:List (List Int)} {qs ps:List Nat},S.length=ps.length->cy (S++T) (ps++qs)->cy S ps:=by
      intro T S
      induction S with
      |nil =>
       intro qs ps l _
       have:ps=[]:=Q9.mp l.symm
       subst this;exact .nil
      |cons t S ihS =>
       intro qs ps l h;cases ps with
       |nil=>simp at l
       |cons q ps =>
        cases h with
        |cons h1 h2 r=>exact .cons h1 (λu hu=>h2 u (PK _ hu)) (ihS (by simpa using l) r)
     exact this T (by simp[l]) st
    obtain⟨g,hg,eg⟩:=jr (jQ s ((fp s).getD 0) y);have ls:s.length=L:=hl s O8;have ly:y.length=s.length:=by rw[c.len,lx,ls]
    have lz:(cQ y s).length=y.length:=by
     unfold cQ;rw[dj,mW ly,ly]
    refine ih qs (S++[s]) (ps++[p]) (cQ y s) (Clrd.snoc c Z2 l ly hg lz λq=>?_) (by simp[l]) st (λu hu=>hl u (O9 _ hu)) e2
    have:=eg q
    rw[e1] at this;unfold cQ;rw[e1];exact this
 intro S ps st hl e
 have:=go S ps [] [] x Clrd.start rfl st hl e
 simpa using this
abbrev bits(b k:Nat):Nat:=(b+1)*2 ^ k-1
def pO(b k:Nat):bits b (k+1)=2*bits b k+1:=by
 unfold bits;have pos:0<(b+1)*2 ^ k:=Qa (Vi _) (YA k)
 have:(b+1)*2 ^ (k+1)=2*((b+1)*2 ^ k):=by rw[QW,<- P9,Qv]
 lia
def f_{k m:Nat}(h:k<=m):bits b k<=bits b m:=by
 unfold bits
 have:=PU (b+1) (Ph (by decide:0<2) h)
 lia
abbrev Ji(b:Nat)(S:List (List Int)):Prop:=∀k s,S[k]?=some s->∀c∈s,c.natAbs<2 ^ bits b k
def fN{b:Nat}{x:List Int}(hx:∀c∈x,c.natAbs<2 ^ b){S:List (List Int)}(hS:Ji b S):∀k,k<=S.length->∀c∈aU x (S.take k),c.natAbs<2 ^ bits b k
 |0,_=>by simpa[aU,bits] using hx
 |k+1,h=>by
  have ih:=fN hx hS k (by lia);have lk:k<S.length:=by lia
  rw[Ps,O1 lk];show ∀c∈(S.take k++[S[k]]).foldl cQ x,c.natAbs<2 ^ bits b (k+1);rw[Rh];show ∀c∈cQ (aU x (S.take k)) S[k],c.natAbs<2 ^ bits b (k+1);rw[pO];exact tV (Ax (hS k _ (O1 lk)) ih)
def tP{w j:Nat}{r:List Int}(lr:r.length=w):pt (r++bE n i) (w+j)=if j<n/\j=i then 1 else 0:=by
 unfold pt bE;rw[O2,QG (by lia),lr,show w+j-w=j by lia,O4];by_cases h:j<n
 .rw[Qs h];by_cases e:j=i
  .simp[e,e ▸ h]
  .simp[e]
 .rw[PY (by simpa using h)];simp[h]
def c9:∀{S:List (List Int)},(∀s∈S,pt s q=0)->bC d S q=0:=by
 induction d with
 |nil=>intro S _;cases S <;> rfl
 |cons x d ih =>
  intro S h;cases S with
  |nil=>rfl
  |cons s S =>
   show x*pt s q+bC d S q=0;rw[h s O8,ih λt ht=>h t (O9 _ ht)];lia
structure SI (R:List (List Int)) (w b i:Nat) (st:qb):Prop where
 sta:∃ps,cy st.stairs ps/\(∀p∈ps,p<w)/\st.stairs.map fp=ps.map some/\Eqv (rowsOf R st.free) (st.stairs.map (Ug w))
 len:∀s∈st.stairs,s.length=w+R.length
 own:∀s∈st.stairs,∀j,i<=j->pt s (w+j)=0
 cnt:st.stairs.length<=i
 bnd:Ji b st.stairs
 free:st.free=pC R i
 mks:st.makers.length<=i
structure RI (R:List (List Int)) (w b i:Nat) (st:qb) (r rest:List Int):Prop where
 len:rest.length=w+R.length
 ne:∃q,fp rest=some q/\q<=w+i
 bnd:∀c∈rest,c.natAbs<2 ^ bits b st.stairs.length
 own:∀j,i+1<=j->pt rest (w+j)=0
 free:dO (rowsOf R (pC R i)++[r])↔∃q,fp rest=some q/\q<w
def GM{st:qb}{r:List Int}(I:SI R w b i st)(hb:1<=b)(hi:i<R.length)(lr:r.length=w)(br:∀c∈r,c.natAbs<2 ^ b) :
  RI R w b i st r (cG R.length st i r)/\∃ps,cy st.stairs ps/\(∀p∈ps,p<w)/\st.stairs.map fp=ps.map some/\Eqv (rowsOf R st.free) (st.stairs.map (Ug w))/\Clrd st.stairs ps (r++bE R.length i) (cG R.length st i r):=by
 obtain⟨ps,s1,s2,s3,s4⟩:=I.sta;have lx:(r++bE R.length i).length=w+R.length:=by unfold bE;rw[Pm,O0,PN,lr]
 have C:=Eh lx s1 I.len s3
 have hx:∀c∈r++bE R.length i,c.natAbs<2 ^ b:=by
  intro c hc;rcases Pz.mp hc with m|m
  .exact br c m
  .unfold bE at m;obtain⟨o,_,rfl⟩:=Pl.mp m
   have:2 ^ 1<=2 ^ b:=Ph (by decide) hb
   split <;> lia
 have hbn:=fN hx I.bnd st.stairs.length (Pa _);rw[QC] at hbn;obtain⟨d,c,G,ld,hc,hG,e⟩:=C.made
 have at_i:pt (cG R.length st i r) (w+i)≠0:=by
  intro z;have e1:=e (w+i);have z':pt (aU (r++bE R.length i) st.stairs) (w+i)=0:=z;rw[z',tP lr,c9 λs hs=>I.own s hs i (Pa _),if_pos ⟨hi,rfl⟩] at e1;lia
 have fq:∃q,fp (cG R.length st i r)=some q/\q<=w+i:=by
  cases f:fp (cG R.length st i r) with
  |none=>exact absurd (z_ f (w+i)) at_i
  |some q =>
   refine⟨q,rfl,?_⟩;by_cases l:q<=w+i
   .exact l
   .exact absurd ((cZ f).2.2 (w+i) (by lia)) at_i
 have tk:(r++bE R.length i).take w=r:=by rw[U0 (by lia),Pc (by lia)]
 refine⟨⟨?_,fq,hbn,λj hj=>?_,?_⟩,ps,s1,s2,s3,s4,C⟩
 .show(aU _ _).length=_;rw[C.len,lx]
 .have e1:=e (w+j);rw[tP lr,c9 λs hs=>I.own s hs j (by lia),if_neg (by lia)] at e1
  have:G*pt (cG R.length st i r) (w+j)=0:=by
   show G*pt (aU (r++bE R.length i) st.stairs) (w+j)=0;rw[e1];lia
  exact(QL.mp this).resolve_left hG
 .rw[<- I.free]
  have:=Aw s4 (km s1 s2) (pH C s2)
  rw[tk] at this;rw[this];constructor
  .rintro⟨q,hq⟩;rw[dZ] at hq;split at hq
   .rename_i lq;obtain⟨q',f1,f2⟩:=fq;refine⟨q',f1,?_⟩;by_cases l:q'<w
    .exact l
    .exact absurd ((cZ f1).2.2 q (by lia)) hq
   .exact absurd rfl hq
  .rintro⟨q,f1,f2⟩;refine⟨q,?_⟩;rw[dZ,if_pos f2];exact(cZ f1).2.1
def GE{st:qb}{r:List Int}(I:SI R w b i st)(hb:1<=b)(hr:R[i]?=some r)(lr:r.length=w)(br:∀c∈r,c.natAbs<2 ^ b):SI R w b (i+1) (i6 R.length st i r):=by
 have hi:i<R.length:=(O3.mp hr).1;obtain⟨Y,ps,s1,s2,s3,s4,C⟩:=GM I hb hi lr br;have er:R.getD i []=r:=by rw[O2,hr];rfl
 unfold i6;generalize hz:cG R.length st i r=z at Y C;obtain⟨q,f1,f2⟩:=Y.ne;rw[f1];show SI R w b (i+1) (if q<r.length then _ else _);split
 .rename_i lq;rw[lr] at lq;have fr:dO (rowsOf R (pC R i)++[r]):=Y.free.mpr ⟨q,f1,lq⟩;have tk:(r++bE R.length i).take w=r:=by rw[U0 (by lia),Pc (by lia)]
  refine⟨⟨ps++[q],s1.snoc C.nought (cZ f1).2.1,λp hp=>?_,?_,?_⟩,λs hs=>?_,λs hs j hj=>?_,?_,λk s hk=>?_,?_,X2 I.mks⟩
  .rcases Pz.mp hp with m|m
   .exact s2 p m
   .rw[Po.mp m];exact lq
  .show(st.stairs++[z]).map fp=_;rw[O_,O_,s3];show _++[fp z]=_++[some q]
   rw[f1]
  .show Eqv (rowsOf R (st.free++[i])) ((st.stairs++[z]).map (Ug w));unfold rowsOf at s4 ⊢;rw[O_,O_];show Eqv (_++[R.getD i []]) (_++[z.take w]);rw[er];obtain⟨d,c,G,ld,hc,hG,e⟩:=(pH C s2).made;rw[tk] at e;exact s4.snoc ld hc hG e
  .rcases Pz.mp hs with m|m
   .exact I.len s m
   .rw[Po.mp m];exact Y.len
  .rcases Pz.mp hs with m|m
   .exact I.own s m j (by lia)
   .rw[Po.mp m];exact Y.own j hj
  .show(st.stairs++[z]).length<=i+1;rw[Pm];exact UD I.cnt
  .have ZQ:(st.stairs++[z])[k]?=some s:=hk;by_cases l:k<st.stairs.length
   .rw[Qu l] at ZQ;exact I.bnd k s ZQ
   .rw[QG (by lia)] at ZQ
    have k0:k=st.stairs.length:=by
     have:=(O3.mp ZQ).1
     simp at this;lia
    subst k0;rw[XW] at ZQ;rw[<- PD ZQ];exact Y.bnd
  .show st.free++[i]=pC R (i+1);rw[I.free];rw[zL er fr]
 .rename_i lq;rw[lr] at lq
  have nf : ¬ dO (rowsOf R (pC R i)++[r]):=λh=>by
   obtain⟨q',g1,g2⟩:=Y.free.mp h;rw[f1] at g1;cases g1;exact lq g2
  refine⟨I.sta,I.len,λs hs j hj=>I.own s hs j (by lia),X2 I.cnt,I.bnd,?_,?_⟩
  .show st.free=pC R (i+1);rw[I.free];rw[Fj er nf]
  .show(st.makers++[_]).length<=i+1;rw[Pm];exact UD I.mks
def GF{R:List (List Int)}{w b:Nat}(hw:Wide w R)(hb:1<=b)(br:Bi b R):∀i,i<=R.length->SI R w b i (x6 R i)
 |0,_=>⟨⟨[],.nil,(by simp),rfl,λT=>Iff.rfl⟩,(λs hs=>by cases hs),(λs hs=>by cases hs),Pa _,(λk s hk=>by simp[x6] at hk),rfl,Pa _⟩
 |i+1,h=>by
  have hr:R[i]?=some (R.getD i []):=by rw[O2,O1 (by lia)];rfl
  exact GE (GF hw hb br i (by lia)) hb hr (hw _ (O7 hr)) (br _ (O7 hr))
end Sf
namespace Rw
open PySem L2 Fr G1 Sm Vs G2 Rk Sz Sf
open PySem.W (Dat kqdOk)
abbrev Fn(r:List Int):V:=match fp r with
 |some i=>.int i
 |none=>.non
abbrev iR(K:Fg):Sp:=λvs H Q _=>∃(a:Addr) (r:List Int),vs=[.ref a]/\H a=some (.lst (r.map V.int))/\∀H',Same H H'->Q (Fn r) H'
def On{i:Nat}{c:Int}(h:∀j,j<i->pt r j=0)(hi:r[i]?=some c)(hc:c≠0):fp r=some i:=by
 unfold fp;rw[Sj];obtain⟨l,e⟩:=O3.mp hi;refine⟨l,by rw[e];simpa using hc,λj hj=>?_⟩
 have:=h j hj
 unfold pt at this;rw[O2,O1 (by lia)] at this;simpa using this
def Om{r:List Int}(h:∀j,j<r.length->pt r j=0):fp r=none:=by
 unfold fp;rw[Sk];intro x hx;obtain⟨j,l,rfl⟩:=QE.mp hx
 have:=h j l
 unfold pt at this;rw[O2,O1 l] at this;simpa using this
abbrev qB(K:Fg):TS:=(aq (a5 (ii K (ae (aa 0) aj)) (cg K 2 (aT (al 1) (aT (al 2) ci)))
 (a8 (aR (ar EK (aa 2) (tC (.int 0))))
 (aI (aa 1))
 bw))
 (aI (tC .non)))
def CM{K:Fg}:ρ 3 (iR K) (qB K):=by
 fail "R";obtain⟨a,r,rfl,ha,k⟩:=h;rw[L2.aP hN];walk_at "t";unfold qB;cbv;refine⟨a,_,rfl,SqL.of ha,?_⟩;refine dB (xs:=r.map V.int) (λi σ H2=>∃u1 u2:Option V,σ=[⇑a,u1,u2]/\Same H H2/\∀j<i,pt r j=0) ⟨none,none,rfl,Same.refl _,λj hj=>absurd hj (Rq _)⟩ (by rintro i σ H2 _ ⟨_,_,_,S,_⟩;exact SqL.of (S _ _ ha)) ?_ ?_
 .rintro i z σ H2 T hz ⟨u1,u2,rfl,S,d⟩ nT;rw[O4] at hz;obtain⟨c,hc,rfl⟩:=Pb.mp hz;have S2:=S.trans (ak nT (.tup [.int (i:Int),.int c]));have hT:upd H2 T (.tup [.int (i:Int),.int c]) T=some (.tup [.int (i:Int),.int c]):=ag;generalize upd H2 T (.tup [.int (i:Int),.int c])=H3 at S2 hT ⊢;refine bI (SqT.of hT) rfl ?_;cbv;have ec:pt r i=c:=by unfold pt;rw[O2,hc];rfl
  refine gW (λnz=>?_) (λz=>?_)
  .cbv
   have:=k H3 S2
   unfold Fn at this;rw[On d hc nz] at this;exact this
  .cbv;refine⟨_,_,rfl,S2,λj hj=>?_⟩;by_cases e:j=i
   .rw[e,ec,z]
   .exact d j (by lia)
 .rintro σ H2 ⟨u1,u2,rfl,S,d⟩;cbv
  have:=k H2 S
  unfold Fn at this;rw[Om λj hj=>d j (by rw[O0];exact hj)] at this;exact this
abbrev s_(K:Fg):Sp:=λvs H Q _=>∃(a:Addr) (r:List Int),vs=[.ref a]/\H a=some (.lst (r.map V.int))/\r.length<=100/\(∀c∈r,c.natAbs<2 ^ 9000)/\∀(p:Addr) (H':Hp),AccZ K H p H' ((bz r).map Qm)->Q (.ref p) H'
def zU{r:List Int}{i:Nat}{c:Int}(h:r[i]?=some c):(r.take (i+1)).foldl Gd.gd 0=Gd.gd ((r.take i).foldl Gd.gd 0) c:=by
 rw[Ps,h,Rh];rfl
def IJ{n:Nat}(h:pt r i≠0)(hb:∀c∈r,c.natAbs<2 ^ n):(cM r).natAbs<2 ^ n:=by
 have d:cM r∣pt r i:=by
  unfold pt at h ⊢;rw[O2] at h ⊢;cases e:r[i]? with
  |none=>rw[e] at h;exact absurd rfl h
  |some c=>exact(iH r 0).2 c (O7 e)
 have:=RM (by lia) (Int.natAbs_dvd_natAbs.mpr d)
 exact Pk this (oE hb i)
abbrev Gv(K:Fg):Sp:=λvs H Q _=>∃(a:Addr) (r:List Int),vs=[.ref a]/\H a=some (.lst (r.map V.int))/\∀H',Same H H'->Q (.int (cM r)) H'
abbrev Ge(K:Fg):TS:=(aq (av (tC (.int 0)) (al 1))
 (aq (a5 (cx K (aa 0)) (al 2)
 (av (aC nQ [] E0 (ae (aa 1) (ae (aa 2) aj))) (al 1)))
 (aI (aa 1))))
def JV{K:Fg}:ρ 3 (Gv K) (Ge K):=by
 fail "R";obtain⟨a,r,rfl,ha,k⟩:=h;rw[L2.aP hN];walk_at "t";unfold Ge;cbv;refine ig (SqL.of ha) ?_;refine bn (xs:=r.map V.int) (λj σ H2=>∃u3:Option V,σ=[⇑a,some (.int ((r.take j).foldl Gd.gd 0)),u3]/\Same H H2) ⟨_,rfl,Same.refl _⟩ (by rintro j σ H2 _ ⟨_,_,S⟩;exact SqL.of (S _ _ ha)) ?_ ?_
 .rintro j z σ H2 hz ⟨u3,rfl,S⟩;rw[O4] at hz;obtain⟨c,hc,rfl⟩:=Pb.mp hz;cbv;refine⟨_,_,rfl,?_⟩;cbv;refine⟨_,by rw[zU hc];rfl,S⟩
 .rintro σ H2 ⟨u3,rfl,S⟩;rw[Pc (by rw[O0];exact Pa _)];cbv;exact k H2 S
nonrec abbrev BP(K:Fg):TS:=(aq (av (aC (Gv K) [] E0 (ae (aa 0) aj)) (al 2))
 (aq (a8 (aR (ar yn (ar (bY K) (aa 0) (aa 1)) (tC (.int 0))))
 (av (Jk (rU λi=>.int (-i)) (aa 2)) (al 2))
 bw)
 (aI (fE (cx K (aa 0)) (ar CW (aa 0) (aa 3))))))
abbrev wG(K:Fg):TS:=(aq (av (aC (iR K) [] E0 (ae (aa 0) aj)) (al 1))
 (aq (a8 (aR (ar CU (aa 1) (tC .non)))
 (aI (b_ (fJ K) (ae (aa 0) aj)))
 bw)
 (BP K)))
def G3{K:Fg}:ρ 3 (s_ K) (wG K):=by
 fail "R";obtain⟨a,r,rfl,ha,hl,hb,k⟩:=h;rw[L2.aP hN];walk_at "t";unfold wG;cbv;refine⟨a,r,rfl,ha,λH1 S1=>?_⟩;unfold Fn;cases f:fp r with
 |none =>
  cbv;refine a9 (λ_=>?_) (λz=>absurd rfl z);cbv;refine rS (SqL.of (S1 _ _ ha)) λl nl=>?_
  have e:bz r=r:=by unfold bz;rw[f]
  rw[e] at k;exact k l _ ⟨S1.trans (ak nl _),S1.free nl,_,ag,RpL.ints r⟩
 |some i =>
  obtain⟨f1,f2,f3⟩:=cZ f;cbv;refine a9 (λz=>by cases z) (λ_=>?_);cbv;refine⟨a,r,rfl,S1 _ _ ha,λH2 S2=>?_⟩;have S:=S1.trans S2;cbv;refine cf (SqL.of (S _ _ ha)) (su f1) ?_
  have fin:cS (uz K a) (ar CW (aa 0) (aa 3)) [⇑a,↥i,↥(dJ r i)] (ends Q).rt H2:=by
   refine df (xs:=r.map V.int) λD nD=>⟨λj H3=>AccZ K H D H3 (((bz r).take j).map Qm),by simpa using AccZ.start S nD,λj H3 _ A=>SqL.of (A.same _ _ ha),?_,?_⟩
   .intro j x H3 hx A;have lj:=(O3.mp hx).1;rw[O4] at hx;obtain⟨c,hc,rfl⟩:=Pb.mp hx;cbv;refine⟨c,dJ r i,rfl,rfl,⟨ui f2,?_⟩,?_⟩
    .have:=IJ f2 hb
     have e:(dJ r i).natAbs=(cM r).natAbs:=by unfold dJ;split <;> lia
     rw[e];exact this
    refine a6 lj ?_;refine A.cI (.int _) (au (by rw[O0,Px,dj];lia)) λH4 A4=>?_
    have e:(bz r)[j]?=some (c.fdiv (dJ r i)):=by unfold bz;rw[f];show(r.map _)[j]? = _;rw[O4,hc];rfl
    show AccZ K H D H4 (((bz r).take (j+1)).map Qm);rw[Ps,e,O_];exact A4
   .intro H3 A;rw[Pc (by rw[dj,O0];exact Pa _)] at A;exact k D H3 A
  cbv;refine a9 (λng=>?_) (λng=>?_)
  .cbv;refine rP (SqL.of (S _ _ ha)) ?_;have e:dJ r i = -cM r:=by unfold dJ;rw[if_pos ng]
   rw[e] at fin;exact fin
  .cbv;refine rP (SqL.of (S _ _ ha)) ?_;have e:dJ r i=cM r:=by unfold dJ;rw[if_neg ng]
   rw[e] at fin;exact fin
abbrev MB(K:Fg)(S:Addr->Prop)(H:Hp)(a:Addr)(T:List (List Int)):Prop:=∃xs,H a=some (.lst xs)/\RpL K S H xs (T.map dL)
abbrev Gw(K:Fg):Sp:=λvs H Q _=>∃(a s:Addr) (r:List Int) (T:List (List Int)) (b:Nat),vs=[.ref a,.ref s]/\H a=some (.lst (r.map V.int))/\MB K (λ_=>True) H s T/\r.length<=100/\(∀t∈T,t.length=r.length/\∃i,fp t=some i)/\(∀c∈r,c.natAbs<2 ^ b)/\Ji b T/\bits b T.length<=9000 /\
 ∀(p:Addr) (H':Hp),Same H H'->(p=a\/H p=none)->H' p=some (.lst ((aU r T).map V.int))->Q (.ref p) H'
def pI{r:List Int}:∀{T:List (List Int)},(∀t∈T,t.length=r.length)->(aU r T).length=r.length:=by
 intro T
 have go:∀(T:List (List Int)) (y:List Int),y.length=r.length->(∀t∈T,t.length=r.length)->(aU y T).length=r.length:=by
  intro T
  induction T with
  |nil=>intro y ly _;exact ly
  |cons t T ih =>
   intro y ly h;refine ih (cQ y t) ?_ λu hu=>h u (O9 _ hu)
   unfold cQ
   have:=h t O8
   rw[dj,mW (by lia)];exact this
 exact go T r rfl
def mX{t:List Int}{T:List (List Int)}{i:Nat}(h:T[i]?=some t):aU r (T.take (i+1))=cQ (aU r (T.take i)) t:=by
 unfold aU;rw[Ps,h,Rh];rfl
nonrec abbrev BV(K:Fg):TS:=(av (aC (s_ K) [] E0 (ae (fS (pA K .L .L (ae (aa 0) (ae (aa 2) aj))) 2 (cg K 2 (aT (al 0) (aT (al 1) ci))) (ar hX (ar cV (ar (bY K) (aa 4) (aa 5)) (aa 0)) (ar cV (ar (bY K) (aa 2) (aa 5)) (aa 1)))) aj)) (al 0))
abbrev w_(K:Fg):TS:=(aq (a5 (cx K (aa 1)) (al 2)
 (aq (av (aC (iR K) [] E0 (ae (aa 2) aj)) (al 3))
 (BV K)))
 (aI (aa 0)))
def Ha{K:Fg}:ρ 4 (Gw K) (w_ K):=by
 fail "R";obtain⟨a,s,r,T,b,rfl,ha,⟨xs,hs,rx⟩,hl,hT,hb,hB,hbits,k⟩:=h;rw[L2.aP hN];walk_at "t";have lx:xs.length=T.length:=by rw[rx.length,O0]
 unfold w_;cbv;refine ig (SqL.of hs) ?_;refine bn (xs:=xs) (λj σ H2=>∃(p:Addr) (u2 u3:Option V),σ=[⇑p,⇑s,u2,u3]/\Same H H2/\(p=a\/H p=none)/\H2 p=some (.lst ((aU r (T.take j)).map V.int))) ⟨a,none,none,rfl,Same.refl _,.inl rfl,by simpa[aU] using ha⟩ (by rintro j σ H2 _ ⟨_,_,_,_,S,_⟩;exact SqL.of (S _ _ hs)) ?_ ?_
 .rintro j z σ H2 hz ⟨p,u2,u3,rfl,S,hp,h2⟩;obtain⟨d,g1,g2⟩:=rx.get hz;rw[O4] at g1;obtain⟨t,ht,rfl⟩:=Pb.mp g1;obtain⟨b0,rfl,_,hb0⟩:=vB g2;obtain⟨lt,i,fi⟩:=hT t (O7 ht);obtain⟨f1,f2,f3⟩:=cZ fi;have lj:j<T.length:=(O3.mp ht).1;have ly:(aU r (T.take j)).length=r.length:=pI λt ht=>(hT t (QP ht)).1
  have Zg:=fN hb hB j (by lia);have bm:bits b (j+1)<=bits b T.length:=f_ (by lia);rw[pO] at bm;have hBt:=hB j t ht;rw[mX ht];generalize aU r (T.take j)=y at h2 ly Zg ⊢;cbv;refine⟨b0,t,rfl,S _ _ hb0,λH3 S3=>?_⟩;have fv:Fn t=.int i:=by unfold Fn;rw[fi]
  rw[fv];have S4:=S.trans S3;have h3:=S3 _ _ h2;cbv;refine⟨p,b0,_,_,rfl,SqL.of h3,SqL.of (S4 _ _ hb0),?_⟩;refine um (xs:=y.map V.int) (ys:=t.map V.int) λD nD=>⟨λm H5=>AccZ K H3 D H5 (((jQ t i y).take m).map Qm),AccZ.start (Same.refl _) nD,λm H5 _ C=>⟨SqL.of (C.same _ _ h3),SqL.of (C.same _ _ (S4 _ _ hb0))⟩,?_,?_⟩
  .intro m y1 y2 H5 T' e1 e2 C nT us hu
   obtain⟨u1,u2',rfl⟩:∃u0 u1,us=[u0,u1]:=ex2 hu
   rw[O4] at e1 e2;obtain⟨m1,g1,rfl⟩:=Pb.mp e1;obtain⟨m2,g2,rfl⟩:=Pb.mp e2;have ec:(jQ t i y)[m]?=some (m1*pt t i-pt y i*m2):=by unfold jQ;rw[Tl,g1,g2]
   have lm:=(O3.mp g1).1;have lm2:=(O3.mp g2).1;have C2:=C.on (ak nT (.tup [.int m1,.int m2]));have hT':upd H5 T' (.tup [.int m1,.int m2]) T'=some (.tup [.int m1,.int m2]):=ag;generalize upd H5 T' (.tup [.int m1,.int m2])=H7 at C2 hT' ⊢;refine bI (SqT.of hT') rfl ?_;cbv;refine⟨⟨[↥m1,↥m2],rfl,rfl⟩,?_⟩;cbv;refine cf (SqL.of (C2.same _ _ (S4 _ _ hb0))) (su f1) ?_;cbv;refine⟨pt t i,m1,rfl,rfl,E8 (by lia) (oE hBt i) (Zg _ (O7 g1)),?_⟩;cbv;refine cf (SqL.of (C2.same _ _ h3)) (su (by lia)) ?_;cbv;refine⟨pt y i,m2,rfl,rfl,E8 (by lia) (oE Zg i) (hBt _ (O7 g2)),?_⟩;cbv;refine a6 (by rw[O0,O0];lia) ?_;rw[R3 (pt t i) m1];refine C2.cI (.int _) (au ?_) λH8 C8=>?_
   .rw[O0,Px];lia
   .show AccZ K H3 D H8 (((jQ t i y).take (m+1)).map Qm);rw[Ps,ec,O_];exact C8
  .intro H5 C;have lc:(jQ t i y).length=t.length:=mW (by lia);rw[Pc (by rw[O0,O0];lia)] at C;cbv;refine⟨D,jQ t i y,rfl,AccZ.ints C,by lia,λc hc=>?_,λp2 H6 A6=>?_⟩
   .exact PL (Ax hBt Zg c hc) (Ph (by decide) (by lia))
   .cbv;refine⟨p2,_,_,rfl,S4.trans (C.same.trans A6.same),.inr ((S4.trans C.same).free A6.new),?_⟩;have e:cQ y t=bz (jQ t i y):=by unfold cQ;rw[fi];rfl
    rw[e];exact AccZ.ints A6
 .rintro σ H2 ⟨p,u2,u3,rfl,S,hp,h2⟩;rw[Pc (by lia)] at h2;cbv;exact k p H2 S hp h2
abbrev SS(H:Hp)(D1 D2 D3:Addr):Addr->Prop:=λa=>H a=none/\a≠D1/\a≠D2/\a≠D3
abbrev ni(l:List Nat):List Int:=l.map λi:Nat=>(i:Int)
structure SH (K:Fg) (H H2:Hp) (D1 D2 D3:Addr) (st:qb):Prop where
 same:Same H H2
 n1:H D1=none
 n2:H D2=none
 n3:H D3=none
 d12:D1≠D2
 d13:D1≠D3
 d23:D2≠D3
 a1:∃xs,H2 D1=some (.lst xs)/\RpL K (SS H D1 D2 D3) H2 xs (st.stairs.map dL)
 a2:H2 D2=some (.lst ((ni st.free).map V.int))
 a3:∃xs,H2 D3=some (.lst xs)/\RpL K (SS H D1 D2 D3) H2 xs (st.makers.map dL)
def SH.on{K:Fg}{st:qb}(A:SH K H H2 D1 D2 D3 st)(e:Same H2 H3):SH K H H3 D1 D2 D3 st:=by
 obtain⟨xs,h1,r1⟩:=A.a1;obtain⟨zs,h3,r3⟩:=A.a3;exact⟨A.same.trans e,A.n1,A.n2,A.n3,A.d12,A.d13,A.d23,⟨xs,e _ _ h1,r1.same e⟩,e _ _ A.a2,⟨zs,e _ _ h3,r3.same e⟩⟩
def SH.M7{K:Fg}{H H2:Hp}{D1 D2 D3:Addr}{st:qb}{p:Addr}{z:List Int}{i:Nat}(A:SH K H H2 D1 D2 D3 st)(hp:SS H D1 D2 D3 p)(h:H2 p=some (.lst (z.map V.int))):∃xs,H2 D1=some (.lst xs)/\xs.length=st.stairs.length/\upd H2 D1 (.lst (xs++[.ref p])) D2=some (.lst ((ni st.free).map V.int)) /\
  SH K H (upd (upd H2 D1 (.lst (xs++[.ref p]))) D2 (.lst ((ni st.free).map V.int++[.int i]))) D1 D2 D3 ⟨st.stairs++[z],st.free++[i],st.makers⟩:=by
 obtain⟨xs,h1,r1⟩:=A.a1;obtain⟨zs,h3,r3⟩:=A.a3;have e2:upd H2 D1 (.lst (xs++[.ref p])) D2=some (.lst ((ni st.free).map V.int)):=by rw[aE A.d12.symm];exact A.a2
 refine⟨xs,h1,by rw[r1.length,O0],e2,⟨λb o q=>?_,A.n1,A.n2,A.n3,A.d12,A.d13,A.d23,⟨xs++[.ref p],?_,?_⟩,?_,⟨zs,?_,?_⟩⟩⟩
 .rw[aE (aw q A.n2),aE (aw q A.n1)];exact A.same b o q
 .rw[aE A.d12];exact ag
 .show RpL K (SS H D1 D2 D3) _ _ ((st.stairs++[z]).map dL);rw[O_];exact((r1.append (.cons (vA hp h) .nil)).agr (Agr.d_ h1 λw=>w.2.1 rfl)).agr (Agr.d_ e2 λw=>w.2.2.1 rfl)
 .show upd _ D2 _ D2=some (.lst ((ni (st.free++[i])).map V.int));rw[ag];unfold ni;rw[O_,O_];rfl
 .rw[aE A.d23.symm,aE A.d13.symm];exact h3
 .exact(r3.agr (Agr.d_ h1 λw=>w.2.1 rfl)).agr (Agr.d_ e2 λw=>w.2.2.1 rfl)
def SH.maker{K:Fg}{st:qb}{z:List Int}(A:SH K H H2 D1 D2 D3 st)(hp:SS H D1 D2 D3 p)(h:H2 p=some (.lst (z.map V.int))):∃xs,H2 D3=some (.lst xs)/\xs.length=st.makers.length /\
  SH K H (upd H2 D3 (.lst (xs++[.ref p]))) D1 D2 D3 ⟨st.stairs,st.free,st.makers++[z]⟩:=by
 obtain⟨xs,h1,r1⟩:=A.a1;obtain⟨zs,h3,r3⟩:=A.a3;refine⟨zs,h3,by rw[r3.length,O0],⟨λb o q=>?_,A.n1,A.n2,A.n3,A.d12,A.d13,A.d23,⟨xs,?_,?_⟩,?_,⟨zs++[.ref p],ag,?_⟩⟩⟩
 .rw[aE (aw q A.n3)];exact A.same b o q
 .rw[aE A.d13];exact h1
 .exact r1.agr (Agr.d_ h3 λw=>w.2.2.2 rfl)
 .rw[aE A.d23];exact A.a2
 .show RpL K (SS H D1 D2 D3) _ _ ((st.makers++[z]).map dL);rw[O_];exact(r3.append (.cons (vA hp h) .nil)).agr (Agr.d_ h3 λw=>w.2.2.2 rfl)
abbrev RowV(H:Hp)(x:V)(r:List Int):Prop:=∃c,x=.ref c/\(H c=some (.lst (r.map V.int))\/H c=some (.tup (r.map V.int)))
abbrev AS(H:Hp)(a:Addr)(R:List (List Int)):Prop:=∃xs,H a=some (.lst xs)/\xs.length=R.length/\∀(i:Nat) (x:V) (r:List Int),xs[i]?=some x->R[i]?=some r->RowV H x r
def RowV.same(h:RowV H x r)(e:Same H H'):RowV H' x r:=by
 obtain⟨c,rfl,h⟩:=h;exact⟨c,rfl,h.imp (e _ _) (e _ _)⟩
abbrev MU(R:List (List Int)):qb:=x6 R R.length
abbrev dS(st:qb):Dat:=.tuple [dL (ni st.free),.list (st.makers.map dL)]
abbrev xH(K:Fg):Sp:=λvs H Q _=>∃(a:Addr) (R:List (List Int)) (w b:Nat),vs=[.ref a]/\AS H a R/\Wide w R/\R.length<=20/\w<=20/\Bi b R/\1<=b/\bits b R.length<=9000 /\
 ∀(p:Addr) (H':Hp),Same H H'->Rp K (λa=>H a=none) H' (.ref p) (dS (MU R))->Q (.ref p) H'
def Cq{R:List (List Int)}{i:Nat}{r:List Int}(h:R[i]?=some r):x6 R (i+1)=i6 R.length (x6 R i) i r:=by
 show i6 R.length (x6 R i) i (R.getD i [])=_;rw[O2,h];rfl
def Ir{K:Fg}{Q:VK}(e:RowV H x r)(h:∀l,H l=none->Q (.ref l) (upd H l (.lst (r.map V.int)))):fJ K [x] H Q:=by
 obtain⟨c,rfl,e|e⟩:=e
 .exact rS (SqL.of e) h
 .exact zz (SqT.of e) h
def Fd{K:Fg}{Q:VK}(e:RowV H x r)(h:Q (.int r.length) H):cH K [x] H Q:=by
 obtain⟨c,rfl,e|e⟩:=e
 .exact cR (SqL.of e) (by rw[O0];exact h)
 .exact o_ (SqT.of e) (by rw[O0];exact h)
def Ao(xs:List V)(k:Nat):vC xs (some (k:Int)) none=xs.drop k:=by
 have e:HT.sIx xs.length 0 (some (k:Int))=min k xs.length:=by
  show(if (k:Int)<0 then ((k:Int)+(xs.length:Nat)).toNat else min (k:Int).toNat xs.length)=_;rw[if_neg (by lia),Qc]
 have e2:HT.sIx xs.length xs.length none=xs.length:=rfl;unfold vC;rw[e,e2];by_cases h:k<=xs.length
 .rw[U6 h,Pc (by rw[Rc];exact Pa _)]
 .rw[UE (by lia),Wy (Pa _),Wy (by lia),List.take_nil]
abbrev qL(K:Fg):Sp:=λvs H Q _=>∃n i:Nat,vs=[.int (n:Int),.int (i:Int)]/\n<=100/\∀(p:Addr) (H':Hp),AccZ K H p H' ((bE n i).map Qm)->Q (.ref p) H'
def tQ(n i:Nat):(bE n i).length=n:=by unfold bE;rw[O0,PN]
abbrev qg(K:Fg):TS:=(aI (fE (cw (ae (aa 0) aj)) (JC (aR (ar hJ (aa 0) (aa 2))) (tC (.int 1)) (tC (.int 0)))))
def Cv{K:Fg}:ρ 2 (qL K) (qg K):=by
 fail "R";obtain⟨n,i,rfl,hn,k⟩:=h;rw[L2.aP hN];walk_at "t";unfold qg;cbv;rw[Qc];refine c_ (n:=n) λD nD=>⟨λj H4=>AccZ K H D H4 (((bE n i).take j).map Qm),by simpa using AccZ.start (Same.refl _) nD,?_,?_⟩
 .intro j H4 hj B;have eo:(bE n i)[j]?=some (if j=i then 1 else 0):=by unfold bE;rw[O4,Qs hj];rfl
  have fin:∀(v:Int),v=(if j=i then 1 else 0)->nB D n j (λj H4=>AccZ K H D H4 (((bE n i).take j).map Qm)) (.int v) H4:=by
   rintro v rfl;refine a6 hj ?_;refine B.cI (.int _) (au (by rw[O0,Px];lia)) λH5 B5=>?_
   show AccZ K H D H5 (((bE n i).take (j+1)).map Qm);rw[Ps,eo,O_];exact B5
  rw[SD];cbv;refine a9 (λe=>?_) (λe=>?_)
  .cbv;exact fin 1 (by rw[if_pos (by lia)])
  .cbv;exact fin 0 (by rw[if_neg (by lia)])
 intro H4 B;rw[Pc (by rw[tQ];exact Pa _)] at B;exact k D H4 B
abbrev oH(n:Nat):List (List Int):=(Pi n).map (bE n)
def yO(n:Nat):(oH n).length=n:=by unfold oH;rw[O0,PN]
def tO{n i:Nat}(h:i<n):(oH n)[i]?=some (bE n i):=by unfold oH;rw[O4,Qs h];rfl
abbrev qK(K:Fg):Sp:=λvs H Q _=>∃n:Nat,vs=[.int (n:Int)]/\n<=100/\∀(p:Addr) (H':Hp),Acc K H p H' ((oH n).map dL)->Q (.ref p) H'
abbrev qe(K:Fg):TS:=(aI (fE (cw (ae (aa 0) aj)) (aC (qL K) [] E0 (ae (aa 1) (ae (aa 0) aj)))))
def Cu{K:Fg}:ρ 1 (qK K) (qe K):=by
 fail "R";obtain⟨n,rfl,hn,k⟩:=h;rw[L2.aP hN];walk_at "t";unfold qe;cbv;rw[Qc];refine c_ (n:=n) λD nD=>⟨λj H3=>Acc K H D H3 (((oH n).take j).map dL),by simpa using Acc.start nD,?_,?_⟩
 .intro j H3 hj A;rw[SD];cbv;refine⟨n,j,rfl,hn,λp H4 C=>?_⟩;refine a6 hj ?_;refine A.cI C.same (d:=dL (bE n j)) C.ref (au (by rw[O0,Px];lia)) λH5 A5=>?_
  show Acc K H D H5 (((oH n).take (j+1)).map dL);rw[Ps,tO hj,O_];exact A5
 .intro H3 A;rw[Pc (by rw[yO];exact Pa _)] at A;exact k D H3 A
structure UN (K:Fg) (H H2:Hp) (D1 D2 D3 U:Addr) (n:Nat):Prop where
 s:SS H D1 D2 D3 U
 at_:∃xs,H2 U=some (.lst xs)/\RpL K (SS H D1 D2 D3) H2 xs ((oH n).map dL)
def UN.on{K:Fg}(A:UN K H H2 D1 D2 D3 U n)(e:Same H2 H3):UN K H H3 D1 D2 D3 U n:=by
 obtain⟨xs,h1,r1⟩:=A.at_;exact⟨A.s,xs,e _ _ h1,r1.same e⟩
def UN.upd{K:Fg}{D:Addr}(A:UN K H H2 D1 D2 D3 U n)(hD:D=D1\/D=D2\/D=D3)(h:H2 D=some (.lst l)):UN K H (L2.upd H2 D o) D1 D2 D3 U n:=by
 obtain⟨xs,h1,r1⟩:=A.at_
 have no:∀a,SS H D1 D2 D3 a->a≠D:=λa z e=>by
  rcases hD with rfl|rfl|rfl
  .exact z.2.1 e
  .exact z.2.2.1 e
  .exact z.2.2.2 e
 exact⟨A.s,xs,by rw[aE (no _ A.s)];exact h1,r1.agr (Agr.d_ h λw=>no _ w rfl)⟩
def UN.get{K:Fg}{i:Nat}(A:UN K H H2 D1 D2 D3 U n)(hi:i<n):∃xs c,H2 U=some (.lst xs)/\xs[i]?=⇑c/\H2 c=some (.lst ((bE n i).map V.int)):=by
 obtain⟨xs,h1,r1⟩:=A.at_;obtain⟨x,e0,q0⟩:=r1.get' (i:=i) (d:=dL (bE n i)) (by rw[O4,tO hi];rfl);obtain⟨c,rfl,_,hc⟩:=vB q0;exact⟨xs,c,h1,e0,hc⟩
nonrec abbrev BJ(K:Fg):TS:=(a8 (aR (ar yn (aC (iR K) [] E0 (ae (aa 7) aj)) (b_ (cH K) (ae (aa 6) aj))))
 (aq (bM (dU K "list" aN (aa 1) (ae (aa 7) aj)))
 (bM (dU K "list" aN (aa 2) (ae (aa 5) aj))))
 (bM (dU K "list" aN (aa 3) (ae (aC (s_ K) [] E0 (ae (MT (J2 K) (aa 7) (BW (b_ (cH K) (ae (aa 6) aj))) lE) aj)) aj))))
nonrec abbrev BI(K:Fg):TS:=(aq (a5 (ii K (ae (aa 0) aj)) (cg K 2 (aT (al 5) (aT (al 6) ci)))
 (aq (av (aC (Gw K) [] E0 (ae (ar yp (b_ (fJ K) (ae (aa 6) aj)) (ar (bY K) (aa 4) (aa 5))) (ae (aa 1) aj))) (al 7))
 (BJ K)))
 (aI (be (ae (aa 2) (ae (aa 3) aj)))))
abbrev wu(K:Fg):TS:=(aq (av (bU aj) (al 1))
 (aq (av (bU aj) (al 2))
 (aq (av (bU aj) (al 3))
 (aq (av (aC (qK K) [] E0 (ae (b_ (cH K) (ae (aa 0) aj)) aj)) (al 4))
 (BI K)))))
def GU{K:Fg}:ρ 8 (xH K) (wu K):=by
 fail "R";obtain⟨a,R,w,b,rfl,⟨xs,ha,lx,rx⟩,hw,hl,hw1,hb,Z3,hbits,k⟩:=h;rw[L2.aP hN];walk_at "t";unfold wu;cbv;refine⟨by decide,λD1 n1=>?_⟩;cbv;refine⟨by decide,λD2 n2=>?_⟩;cbv;refine⟨by decide,λD3 n3=>?_⟩
 have A0:SH K H (upd (upd (upd H D1 (.lst [])) D2 (.lst [])) D3 (.lst [])) D1 D2 D3 (x6 R 0):=by
  have S1:=ak n1 (.lst []);have S2:=ak n2 (.lst []);have S3:=ak n3 (.lst []);have h1:upd H D1 (.lst []) D1=some (.lst []):=ag;have h2:upd (upd H D1 (.lst [])) D2 (.lst []) D2=some (.lst []):=ag;exact⟨S1.trans (S2.trans S3),n1,S1.free n2,(S1.trans S2).free n3,aw h1 n2,aw (S2 _ _ h1) n3,aw h2 n3,⟨[],S3 _ _ (S2 _ _ h1),.nil⟩,S3 _ _ h2,⟨[],ag,.nil⟩⟩
 generalize upd (upd (upd H D1 (.lst [])) D2 (.lst [])) D3 (.lst [])=H0 at A0 ⊢;cbv;refine cR (SqL.of (A0.same _ _ ha)) ?_;rw[lx];cbv;refine⟨R.length,rfl,by lia,λU H1 AU=>?_⟩
 have B0:UN K H H1 D1 D2 D3 U R.length:=by
  obtain⟨x1,hx1,_⟩:=A0.a1;obtain⟨x3,hx3,_⟩:=A0.a3;have ss:∀q,H0 q=none->SS H D1 D2 D3 q:=λq nq=>⟨A0.same.free nq,(aw hx1 nq).symm,(aw A0.a2 nq).symm,(aw hx3 nq).symm⟩
  obtain⟨ys,hy,ry⟩:=AU.at_;exact⟨ss U AU.new,ys,hy,ry.mono λq z=>ss q z.1⟩
 replace A0:=A0.on AU.same;clear AU;cbv;refine⟨a,xs,rfl,SqL.of (A0.same _ _ ha),?_⟩;refine dB (xs:=xs) (λi σ H2=>∃u5 u6 u7:Option V,σ=[⇑a,⇑D1,⇑D2,⇑D3,⇑U,u5,u6,u7]/\SH K H H2 D1 D2 D3 (x6 R i)/\UN K H H2 D1 D2 D3 U R.length) ⟨none,none,none,rfl,A0,B0⟩ (by rintro i σ H2 _ ⟨_,_,_,_,A,_⟩;exact SqL.of (A.same _ _ ha)) ?_ ?_
 .clear A0 B0 n1 n2 n3;rintro i x σ H2 T hx ⟨u5,u6,u7,rfl,A,B⟩ nT;have li:i<R.length:=by rw[<- lx];exact(O3.mp hx).1
  obtain⟨r,hr⟩:∃r,R[i]?=some r:=⟨_,O1 li⟩
  have rv:=rx i x r hx hr;have I:=GF hw Z3 hb i (by lia);have lr:=hw r (O7 hr);have Y:=(GM I Z3 li lr (hb r (O7 hr))).1;have es:=Cq hr;rw[es];generalize x6 R i=st at A I Y ⊢;have A2:=A.on (ak nT (.tup [.int (i:Int),x]));have B2:=B.on (ak nT (.tup [.int (i:Int),x]));have hT:upd H2 T (.tup [.int (i:Int),x]) T=some (.tup [.int (i:Int),x]):=ag;generalize upd H2 T (.tup [.int (i:Int),x])=H3 at A2 B2 hT ⊢;refine bI (SqT.of hT) rfl ?_;have lo:(bE R.length i).length=R.length:=tQ _ _;cbv;refine Ir (rv.same A2.same) λl nl=>?_
  have A5:=A2.on (ak nl (.lst (r.map V.int)));have B5:=B2.on (ak nl (.lst (r.map V.int)));have hl5:upd H3 l (.lst (r.map V.int)) l=some (.lst (r.map V.int)):=ag;generalize upd H3 l (.lst (r.map V.int))=H5 at A5 B5 hl5 ⊢;obtain⟨us,D,hU,eD,hD5⟩:=B5.get li;cbv;refine cf (SqL.of hU) (v:=.ref D) (aO (j:=i) eD) ?_;cbv;refine⟨l,D,_,_,rfl,rfl,hl5,hD5,?_,λq nq=>?_⟩
  .have:(r.map V.int).length+((bE R.length i).map V.int).length<sizeLine:=au (by rw[O0,O0];lia)
   lia
  rw[<- O_];have hq6:upd H5 q (.lst ((r++bE R.length i).map V.int)) q=some (.lst ((r++bE R.length i).map V.int)):=ag;have A6:=A5.on (ak nq (.lst ((r++bE R.length i).map V.int)));have B6:=B5.on (ak nq (.lst ((r++bE R.length i).map V.int)));obtain⟨x1,hx1,rx1⟩:=A5.a1;obtain⟨x3,hx3,rx3⟩:=A5.a3;have sq:SS H D1 D2 D3 q:=⟨A5.same.free nq,(aw hx1 nq).symm,(aw A5.a2 nq).symm,(aw hx3 nq).symm⟩
  generalize upd H5 q (.lst ((r++bE R.length i).map V.int))=H6 at hq6 A6 B6 ⊢;cbv;obtain⟨ps,s1,s2,s3,_⟩:=I.sta;have lxo:(r++bE R.length i).length=w+R.length:=by rw[Pm,lo,lr]
  have bst:bits b st.stairs.length<=bits b R.length:=f_ (by have:=I.cnt;lia);refine⟨q,D1,r++bE R.length i,st.stairs,b,rfl,hq6,?_,by lia,λt ht=>⟨by rw[I.len t ht,lxo],?_⟩,?_,I.bnd,by lia,λp H7 S7 hp h7=>?_⟩
  .obtain⟨y1,hy1,ry1⟩:=A6.a1;exact⟨y1,hy1,ry1.mono λ_ _=>trivial⟩
  .have:fp t∈st.stairs.map fp:=Pl.mpr ⟨t,ht,rfl⟩
   rw[s3] at this;obtain⟨p0,_,e0⟩:=Pl.mp this;exact⟨p0,e0.symm⟩
  .intro c hc;rcases Pz.mp hc with m|m
   .exact hb r (O7 hr) c m
   .unfold bE at m;obtain⟨o,_,rfl⟩:=Pl.mp m
    have:2 ^ 1<=2 ^ b:=Ph (by decide) Z3
    split <;> lia
  have A7:=A6.on S7;have B7:=B6.on S7
  have sp:SS H D1 D2 D3 p:=by
   rcases hp with rfl|np
   .exact sq
   .obtain⟨y1,hy1,_⟩:=A6.a1;obtain⟨y3,hy3,_⟩:=A6.a3;exact⟨A6.same.free np,(aw hy1 np).symm,(aw A6.a2 np).symm,(aw hy3 np).symm⟩
  have h7':H7 p=some (.lst ((cG R.length st i r).map V.int)):=h7;cbv;refine⟨p,cG R.length st i r,rfl,h7',λH8 S8=>?_⟩;have A8:=A7.on S8;have B8:=B7.on S8;have h8:=S8 _ _ h7';obtain⟨f,f1,f2⟩:=Y.ne;have fv:Fn (cG R.length st i r)=.int f:=by unfold Fn;rw[f1]
  rw[fv];cbv;refine Fd (rv.same A8.same) ?_;cbv;refine a9 (λc=>?_) (λc=>?_)
  .have c':f<r.length:=by lia
   have e1:i6 R.length st i r=⟨st.stairs++[cG R.length st i r],st.free++[i],st.makers⟩:=by
    unfold i6;rw[f1];exact if_pos c'
   obtain⟨zs,z1,z2,z3,z4⟩:=A8.M7 (i:=i) sp h8;cbv;refine⟨vg z1,?_⟩;cbv;refine⟨D1,zs,_,rfl,rfl,z1,au (by have:=I.cnt;lia),?_⟩;cbv;refine⟨vg z3,?_⟩;cbv;refine⟨D2,_,_,rfl,rfl,z3,au ?_,?_⟩
   .have:st.free.length<=i:=by
     rw[I.free]
     have:∀i,(pC R i).length<=i:=by
      intro i
      induction i with
      |zero=>exact Pa _
      |succ i ih =>
       by_cases g:dO (rowsOf R (pC R i)++[R.getD i []])
       .rw[zL rfl g,Pm];exact UD ih
       .rw[Fj rfl g];lia
     exact this i
    unfold ni;rw[O0,O0];lia
   .rw[e1];exact⟨_,_,_,rfl,z4,(B8.upd (.inl rfl) z1).upd (.inr (.inl rfl)) z3⟩
  .have c' : ¬ f<r.length:=by lia
   have e1:i6 R.length st i r=⟨st.stairs,st.free,st.makers++[bz ((cG R.length st i r).drop r.length)]⟩:=by
    unfold i6;rw[f1];exact if_neg c'
   obtain⟨y3,hy3,_⟩:=A8.a3;cbv;refine⟨vg hy3,?_⟩;cbv;refine Fd (rv.same A8.same) ?_;cbv;refine⟨p,_,rfl,SqL.of h8,λt nt=>?_⟩;rw[Ao,<- List.map_drop];have A9:=A8.on (ak nt (.lst (((cG R.length st i r).drop r.length).map V.int)));have B9:=B8.on (ak nt (.lst (((cG R.length st i r).drop r.length).map V.int)));have h9:upd H8 t (.lst (((cG R.length st i r).drop r.length).map V.int)) t=some (.lst (((cG R.length st i r).drop r.length).map V.int)):=ag;generalize upd H8 t (.lst (((cG R.length st i r).drop r.length).map V.int))=H9 at A9 B9 h9 ⊢;cbv;refine⟨t,_,rfl,h9,by rw[Rc,Y.len];lia,λc hc=>?_,λp2 H10 C2=>?_⟩
   .exact PL (Y.bnd c (Tz hc)) (Ph (by decide) (by lia))
   .have A10:=A9.on C2.same;obtain⟨y1,hy1,_⟩:=A9.a1;obtain⟨y4,hy4,_⟩:=A9.a3;have sp2:SS H D1 D2 D3 p2:=⟨A9.same.free C2.new,(aw hy1 C2.new).symm,(aw A9.a2 C2.new).symm,(aw hy4 C2.new).symm⟩
    obtain⟨zs,z1,z2,z3⟩:=A10.maker sp2 (AccZ.ints C2);cbv;refine⟨D3,zs,_,rfl,rfl,z1,au (by have:=I.mks;lia),?_⟩;rw[e1];exact⟨_,_,_,rfl,z3,(B9.on C2.same).upd (.inr (.inr rfl)) z1⟩
 .rintro σ H2 ⟨u5,u6,u7,rfl,A,_⟩;rw[lx] at A;cbv;refine⟨aM,λp np=>?_⟩;obtain⟨x3,h3,r3⟩:=A.a3;have S:=ak np (.tup [.ref D2,.ref D3]);refine k p _ (A.same.trans S) (.tup ag (.cons (vA A.n2 (S _ _ A.a2)) (.cons (.lst A.n3 (S _ _ h3) ((r3.same S).mono λ_ z=>z.1)) .nil)))
abbrev iB(K:Fg):Sp:=λvs H Q _=>∃(v:V) (n:Nat) (ws:List Str) (ts:List Tn) (t:Tn),vs=[v,.int (n:Int)]/\Rz K H v (dV ws ts)/\ts[n]?=some t/\∀z,Rz K H z (dT t)->Q z H
abbrev kY(K:Fg):TS:=(aq (av (ar (aD K) (aa 0) (tC (.int 1))) (al 2))
 (aq (a8 (Jl (iL (tB (aC iO [] E0 (ae (aa 1) aj)))) (iL (aR (sS Nd yn (tC (.int 0)) (aa 1) (b_ (cH K) (ae (aa 2) aj))))))
 iM
 bw)
 (aI (ar (aD K) (aa 2) (aa 1)))))
def ya{K:Fg}:ρ 3 (iB K) (kY K):=by
 fail "R";obtain⟨v,n,ws,ts,t,rfl,rv,ht,k⟩:=h;obtain⟨a,v1,v2,rfl,ha,_,r2⟩:=si rv;obtain⟨b,xs,rfl,hb,rx⟩:=r2.cF;have lx:xs.length=ts.length:=by rw[rx.length,O0]
 have ln:n<ts.length:=(O3.mp ht).1;rw[L2.aP hN];walk_at "t";unfold kY;cbv;refine aG (SqT.of ha) (v:=.ref b) rfl ?_;cbv;refine⟨(n:Int),rfl,?_⟩;cbv;refine a9 (λ_=>?_) (λz=>absurd z (by lia));cbv;refine o_ (SqT.of hb) ?_;cbv;refine gW (λz=>absurd z (by lia)) (λ_=>?_);cbv;obtain⟨u,eu,ru⟩:=rx.get' (i:=n) (d:=dT t) (by rw[O4,ht];rfl);refine aG (SqT.of hb) (v:=u) (aO eu) ?_;exact k u ru
structure Jg (w:Nat) (ts:List Tn):Prop where
 le:ts.length<=8
 w5:w<=5
 fr:∀t∈ts,t.fr.length=w
 wide:Wide w (ts.map L_)
 bnd:Bi 2 (ts.map L_)
def Os(vo:nh ws ts):Jg ws.length ts:=by
 obtain⟨hs,po,_,tk⟩:=vo.turns;have ho:∀t∈ts,eK ws.length t.fr/\eK ws.length t.to:=λt ht=>⟨po.2 _ (tk.ok t ht).1,po.2 _ (tk.ok t ht).2.1⟩
 refine⟨tk.le,vo.w5,λt ht=>(ho t ht).1.1,λr hr=>?_,λr hr c hc=>?_⟩
 .obtain⟨t,ht,rfl⟩:=Pl.mp hr;unfold L_;rw[Xa,(ho t ht).1.1,(ho t ht).2.1,Nat.min_self]
 .obtain⟨t,ht,rfl⟩:=Pl.mp hr;unfold L_ at hc;obtain⟨i,hi⟩:=P_ hc;rw[Tl] at hi;cases e1:t.fr[i]? with
  |none=>rw[e1] at hi;simp at hi
  |some x =>
   cases e2:t.to[i]? with
   |none=>rw[e1,e2] at hi;simp at hi
   |some y =>
    rw[e1,e2] at hi;have hi':=PD hi;have b1:=(ho t ht).1.2 x (O7 e1);have b2:=(ho t ht).2.2 y (O7 e2);show c.natAbs<4;lia
def Mg{n:Nat}(h:n<=8):bits 2 n<=9000:=Pj (f_ h) (by decide)
end Rw
namespace Cl
end Cl
namespace Mk
open Rk Sz Sf Cl
def gF(a:List Int)(j:Nat):pt a.tail j=pt a (j+1):=by
 cases a with
 |nil=>rfl
 |cons x a=>rfl
def eZ(a:List Int)(r:List Int)(R:List (List Int))(q:Nat):bC a (r :: R) q=pt a 0*pt r q+bC a.tail R q:=by
 cases a with
 |nil=>show(0:Int)=0*pt r q+bC [] R q;cases R <;> simp[bC]
 |cons x a=>rfl
def jy{α β:Int}{q:Nat}:∀{R:List (List Int)} {a b c:List Int},(∀j,pt c j=α * pt a j + β * pt b j)->bC c R q=α * bC a R q + β * bC b R q
 |[],a,b,c,_=>by rw[mU,mU,mU];simp
 |r :: R,a,b,c,h=>by
  have ih:=jy (R:=R) (a:=a.tail) (b:=b.tail) (c:=c.tail) (q:=q) λj=>by rw[gF,gF,gF];exact h (j+1)
  rw[eZ,eZ,eZ,ih,h 0,UX,SA,SA,Q1,Q1];lia
def d5(s:List Int)(w j:Nat):pt (s.drop w) j=pt s (w+j):=by
 unfold pt;rw[O2,O2,Xz]
def uj{q:Nat}:∀{R:List (List Int)} {a:List Int} {i:Nat} {r:List Int},R[i]?=some r->(∀j,pt a j=if j=i then 1 else 0)->bC a R q=pt r q
 |x :: R,a,0,r,e,h=>by
  have e':x=r:=PD e;have z:bC a.tail R q=0*bC [] R q+0*bC [] R q:=jy λj=>by rw[gF,h (j+1)];simp
  rw[eZ,z,h 0,e'];simp
 |x :: R,a,i+1,r,e,h=>by
  have ih:=uj (R:=R) (a:=a.tail) (i:=i) (q:=q) (by simpa using e) λj=>by rw[gF,h (j+1)];simp
  rw[eZ,ih,h 0];simp
abbrev Md(w:Nat)(R:List (List Int))(s:List Int):Prop:=∀q<w,pt s q=bC (s.drop w) R q
def K7{w:Nat}{R:List (List Int)}{r:List Int}{i:Nat}(hr:R[i]?=some r)(lr:r.length=w):Md w R (r++bE R.length i):=by
 intro q hq;have hi:i<R.length:=(O3.mp hr).1
 have e:pt (r++bE R.length i) q=pt r q:=by
  unfold pt;rw[O2,Qu (by lia),O2]
 rw[e];refine(uj hr λj=>?_).symm;rw[d5,tP lr];by_cases z:j=i
 .rw[if_pos ⟨z ▸ hi,z⟩,if_pos z]
 .rw[if_neg (λy=>z y.2),if_neg z]
def K6(my:Md w R y)(ms:Md w R s)(l:y.length=s.length):Md w R (cQ y s):=by
 intro q hq;unfold cQ;generalize (fp s).getD 0=p;obtain⟨g,hg,eg⟩:=jr (jQ s p y)
 have e1:g*pt (bz (jQ s p y)) q=g*bC ((bz (jQ s p y)).drop w) R q:=by
  have a1:bC ((jQ s p y).drop w) R q=g*bC ((bz (jQ s p y)).drop w) R q+0*bC [] R q:=jy λj=>by
   rw[d5,d5,eg (w+j)];simp
  have a2:bC ((jQ s p y).drop w) R q=pt s p*bC (y.drop w) R q+(-pt y p)*bC (s.drop w) R q:=jy λj=>by
   rw[d5,d5,d5,yr l,R3 (pt y (w+j)),Tx];lia
  rw[eg q,yr l,my q hq,ms q hq];rw[a1,RL,SB] at a2;rw[a2,R3 (bC (y.drop w) R q),Tx];lia
 exact TU hg e1
def kw{w L:Nat}{R:List (List Int)}:∀(S:List (List Int)) (y:List Int),(∀s∈S,s.length=L/\Md w R s)->y.length=L->Md w R y->Md w R (aU y S)
 |[],y,_,_,m=>m
 |s :: S,y,h,l,m=>by
  have hs:=h s O8;refine kw S (cQ y s) (λt ht=>h t (O9 _ ht)) ?_ (K6 m hs.2 (by rw[l,hs.1]));unfold cQ;rw[dj,mW (by rw[l,hs.1]),hs.1]
def zR{g:Int}:∀(r:List Int) (d:Int),(r.map λx=>g*x).foldl Gd.gd (g*d)=(g.natAbs:Int)*r.foldl Gd.gd d\/(r=[]/\(r.map λx=>g*x).foldl Gd.gd (g*d)=g*d)
 |[],d=>.inr ⟨rfl,rfl⟩
 |x :: r,d=>by
  refine .inl ?_
  have e:Gd.gd (g*d) (g*x)=(g.natAbs:Int)*Gd.gd d x:=by
   unfold Gd.gd;rw[We];simp
  show(r.map λx=>g*x).foldl Gd.gd (Gd.gd (g*d) (g*x))=(g.natAbs:Int)*r.foldl Gd.gd (Gd.gd d x);rw[e]
  have abs:∀(r:List Int) (d:Int),(r.map λx=>g*x).foldl Gd.gd ((g.natAbs:Int)*d)=(g.natAbs:Int)*r.foldl Gd.gd d:=by
   intro r
   induction r with
   |nil=>intro d;rfl
   |cons y r ih =>
    intro d
    have e:Gd.gd ((g.natAbs:Int)*d) (g*y)=(g.natAbs:Int)*Gd.gd d y:=by
     unfold Gd.gd
     have:W7 ((g.natAbs:Int)*d) (g*y)=W7 (g*d) (g*y):=by
      rw[U_,U_,P2,P2,P2];simp
     rw[this,We];simp
    show(r.map λx=>g*x).foldl Gd.gd (Gd.gd ((g.natAbs:Int)*d) (g*y))=_;rw[e,ih];rfl
  exact abs r _
def jw:∀(r:List Int) (d:Int),0<=d->0<=r.foldl Gd.gd d
 |[],d,h=>h
 |x :: r,d,_=>jw r _ (Gd.zP d x)
def DE{i:Nat}(h:fp r=some i):cM (bz r)=1/\fp (bz r)=some i/\0<pt (bz r) i:=by
 obtain⟨f1,f2,f3⟩:=cZ h;have d0:=ui f2;have dd:=r9 r i;have el:bz r=r.map λx=>x.fdiv (dJ r i):=by unfold bz;rw[h]
 have back:r=(bz r).map λx=>dJ r i*x:=by
  rw[el,Qz]
  conv=>lhs;rw[<- List.map_id r]
  refine Q3 λx hx=>?_
  show x=dJ r i*x.fdiv (dJ r i);rw[UZ (dd x hx)]
 have ptl:∀q,dJ r i*pt (bz r) q=pt r q:=by
  intro q;rw[el];unfold pt;rw[O2,O4,O2];cases e2:r[q]? with
  |none=>exact R4 _
  |some c=>exact UZ (dd c (O7 e2))
 have g0:=zS f2;have gn:0<=cM r:=jw r 0 (Int.le_refl _);have gp:0<cM r:=by lia
 have da:((dJ r i).natAbs:Int)=cM r:=by unfold dJ;split <;> lia
 refine⟨?_,?_,?_⟩
 .have:=zR (g:=dJ r i) (bz r) 0
  rw[R4,<- back] at this;rcases this with e|⟨e,_⟩
  .have e':cM r=cM r*cM (bz r):=by rw[da] at e;exact e
   have:cM r*cM (bz r)=cM r*1:=by lia
   exact TU g0 this
  .rw[e] at back;rw[back] at f1;simp at f1
 .have nz:pt (bz r) i≠0:=λz=>f2 (by rw[<- ptl i,z,R4])
  have l:i<(bz r).length:=by rw[dj];exact f1
  unfold fp;rw[Sj];refine⟨l,?_,λj hj=>?_⟩
  .unfold pt at nz;rw[O2,O1 l] at nz;simpa using nz
  .have z:pt (bz r) j=0:=by
    have:=ptl j
    rw[f3 j hj] at this;exact(QL.mp this).resolve_left d0
   unfold pt at z;rw[O2,O1 (by lia)] at z;simpa using z
 .have e:=ptl i;unfold dJ at e;split at e
  .rename_i ng;by_cases z:0<pt (bz r) i
   .exact z
   .have:0<=cM r * -pt (bz r) i:=YT gn (by lia)
    rw[Yt] at this;rw[Tx] at e;lia
  .rename_i ng;by_cases z:0<pt (bz r) i
   .exact z
   .have:0<=cM r * -pt (bz r) i:=YT gn (by lia)
    rw[Yt] at this;lia
def zZ(h:dO M)(n:pt m p≠0)(z:∀t∈M,pt t p=0):dO (M++[m]):=by
 intro a la ha;obtain⟨a1,a2,rfl,l1,l2⟩:=split_len la;obtain⟨x,rfl⟩:∃x,a2=[x]:=RY.mp l2
 have x0:x=0:=by
  have:=ha p
  rw[gO _ _ _ l1,c9 z] at this;have e:0+(x*pt m p+0)=0:=this;exact(QL.mp (by lia:x*pt m p=0)).resolve_right n
 intro c hc;rcases Pz.mp hc with q|q
 .refine h a1 l1 (λk=>?_) c q
  have:=ha k
  rw[gO _ _ _ l1,x0] at this;have e:bC a1 M k+(0*pt m k+0)=0:=this;lia
 .rw[Po.mp q];exact x0
def nO:∀{S:List (List Int)} {ps:List Nat},cy S ps->S.length=ps.length
 |_,_,.nil=>rfl
 |_,_,.cons _ _ r=>congrArg (· + 1) (nO r)
def sV{p:Nat}:∀{S:List (List Int)} {ps:List Nat},cy S ps->(∀t∈S,pt t p=0)->p∉ps
 |_,_,.nil,_=>by simp
 |_,_,.cons (s:=s) (p:=q) h1 _ r,z=>λm=>by
  rcases Py.mp m with e|m
  .exact h1 (by rw[<- e];exact z s O8)
  .exact sV r (λt ht=>z t (O9 _ ht)) m
def sX:∀{S:List (List Int)} {ps:List Nat},cy S ps->ps.Nodup
 |_,_,.nil=>RB
 |_,_,.cons _ h2 r=>Qf.mpr ⟨sV r h2,sX r⟩
def BY{w:Nat}(h:cy S ps)(l:∀p∈ps,p<w):S.length<=w:=by
 have:=Ti.cq (hs:=Pi w) (sX h) λp hp=>PJ.mpr (l p hp)
 rw[PN] at this;rw[nO h];exact this
structure Good (R:List (List Int)) (w b:Nat) (m:List Int):Prop where
 len:m.length=R.length
 nought:∀q,bC m R q=0
 low:cM m=1
 first:∃k,fp m=some k/\0<pt m k
 bnd:∀c∈m,c.natAbs<2 ^ bits b (min w R.length)
structure MI (R:List (List Int)) (w b i:Nat) (st:qb):Prop where
 cnt:st.makers.length+st.free.length=i
 md:∀s∈st.stairs,Md w R s
 good:∀m∈st.makers,Good R w b m
 last:∀m∈st.makers,∀j,i<=j->pt m j=0
 free:dO st.makers
def Ef{q:Nat}(hw:Wide w R)(hq:w<=q):bC a R q=0:=c9 λs hs=>by
 unfold pt;rw[O2,PY (by rw[hw s hs];exact hq)];rfl
def Ii{st:qb}{r:List Int}(hw:Wide w R)(I:SI R w b i st)(J:MI R w b i st)(hb:1<=b)(hr:R[i]?=some r)(br:∀c∈r,c.natAbs<2 ^ b):MI R w b (i+1) (i6 R.length st i r):=by
 have lr:=hw r (O7 hr);have hi:i<R.length:=(O3.mp hr).1;obtain⟨Y,ps,s1,s2,s3,s4,C⟩:=GM I hb hi lr br;have lx:(r++bE R.length i).length=w+R.length:=by unfold bE;rw[Pm,O0,PN,lr]
 have M:Md w R (cG R.length st i r):=kw st.stairs _ (λs hs=>⟨I.len s hs,J.md s hs⟩) lx (K7 hr lr);have ws:=BY s1 s2;obtain⟨d,c,G,ld,hc,hG,e⟩:=C.made
 have at_i:pt (cG R.length st i r) (w+i)≠0:=by
  intro z;have e1:=e (w+i);rw[z,tP lr,c9 λs hs=>I.own s hs i (Pa _),if_pos ⟨hi,rfl⟩] at e1;lia
 unfold i6;generalize cG R.length st i r=z at Y C M at_i;obtain⟨q,f1,f2⟩:=Y.ne;rw[f1];show MI R w b (i+1) (if q<r.length then _ else _);split
 .refine⟨?_,λs hs=>?_,J.good,λm hm j hj=>J.last m hm j (by lia),J.free⟩
  .show st.makers.length+(st.free++[i]).length=i+1;rw[Pm]
   have:=J.cnt
   show st.makers.length+(st.free.length+1)=i+1;lia
  .rcases Pz.mp hs with m|m
   .exact J.md s m
   .rw[Po.mp m];exact M
 .rename_i lq;rw[lr] at lq;have z0:∀k,k<w->pt z k=0:=λk hk=>(cZ f1).2.2 k (by lia)
  rw[lr];have dn:pt (z.drop w) i≠0:=by rw[d5];exact at_i
  obtain⟨k,fk⟩:∃k,fp (z.drop w)=some k:=by
   cases f:fp (z.drop w) with
   |none=>exact absurd (z_ f i) dn
   |some k=>exact⟨k,rfl⟩
  obtain⟨l1,l2,l3⟩:=DE fk;obtain⟨g,hg,eg⟩:=jr (z.drop w)
  have zero:∀j,pt (z.drop w) j=0->pt (bz (z.drop w)) j=0:=λj h=>by
   have:=eg j
   rw[h] at this;exact(QL.mp this).resolve_left hg
  have G1:Good R w b (bz (z.drop w)):=by
   refine⟨?_,λq=>?_,l1,⟨k,l2,l3⟩,?_⟩
   .rw[dj,Rc,Y.len];lia
   .by_cases hq:q<w
    .have a1:bC (z.drop w) R q=g*bC (bz (z.drop w)) R q+0*bC [] R q:=jy λj=>by rw[eg j];simp
     rw[<- M q hq,z0 q hq,RL,SB] at a1;exact(QL.mp a1.symm).resolve_left hg
    .exact Ef hw (by lia)
   .refine tV λc hc=>?_
    exact PL (Y.bnd c (Tz hc)) (Ph (by decide) (f_ (by have:=I.cnt;lia)))
  refine⟨?_,J.md,λm hm=>?_,λm hm j hj=>?_,?_⟩
  .show(st.makers++[_]).length+st.free.length=i+1;rw[Pm]
   have:=J.cnt
   show st.makers.length+1+st.free.length=i+1;lia
  .rcases Pz.mp hm with y|y
   .exact J.good m y
   .rw[Po.mp y];exact G1
  .rcases Pz.mp hm with y|y
   .exact J.last m y j (by lia)
   .rw[Po.mp y];exact zero j (by rw[d5];exact Y.own j hj)
  .refine zZ (p:=i) J.free (λy=>dn ?_) λt ht=>J.last t ht i (Pa _)
   rw[<- eg i,y,R4]
def K3{R:List (List Int)}{w b:Nat}(hw:Wide w R)(hb:1<=b)(br:Bi b R):∀i,i<=R.length->MI R w b i (x6 R i)
 |0,_=>⟨rfl,(λs hs=>by cases hs),(λs hs=>by cases hs),(λs hs=>by cases hs),λa la _ c hc=>by
   have:a=[]:=Q9.mp la
   subst this
   cases hc⟩
 |i+1,h=>by
  have hr:R[i]?=some (R.getD i []):=by rw[O2,O1 (by lia)];rfl
  exact Ii hw (GF hw hb br i (by lia)) (K3 hw hb br i (by lia)) hb hr (br _ (O7 hr))
end Mk
namespace Rw
open PySem L2 Fr G1 Sm Vs G2 Rk Sz Sf Cl
open PySem.W (Dat kqdOk)
abbrev dM(M:List (List Int)):Dat:=.list (M.map dL)
abbrev lM(K:Fg):Sp:=λvs H Q _=>∃(a:Addr) (R:List (List Int)) (w b:Nat),vs=[.ref a]/\AS H a R/\Wide w R/\R.length<=20/\w<=20/\Bi b R/\1<=b/\bits b R.length<=9000 /\
 ∀(p:Addr) (H':Hp),Same H H'->Rp K (λa=>H a=none) H' (.ref p) (dM (MU R).makers)->Q (.ref p) H'
abbrev k_(K:Fg):TS:=(aI (ar (aD K) (aC (xH K) [] E0 (ae (aa 0) aj)) (tC (.int 1))))
def yh{K:Fg}:ρ 1 (lM K) (k_ K):=by
 fail "R";obtain⟨a,R,w,b,rfl,hr,hw,hl,hw1,hb,Z3,hbits,k⟩:=h;rw[L2.aP hN];walk_at "t";unfold k_;cbv;refine⟨a,R,w,b,rfl,hr,hw,hl,hw1,hb,Z3,hbits,λp H1 S1 rp=>?_⟩;obtain⟨q,xs,e,hq,rx⟩:=rp.cF;cases e;cases rx with
 |cons h1 r1 =>
  cases r1 with
  |cons h2 r2 =>
   cases r2;obtain⟨c,ys,rfl,nc,hc,ry⟩:=Rp.kx h2;cbv;refine aG (SqT.of hq) (v:=.ref c) (aO (j:=1) rfl) ?_;exact k c H1 S1 h2
def M_{K:Fg}{R:List (List Int)}(A:Acc K H0 p H (R.map dL)):AS H p R:=by
 obtain⟨xs,h1,h2⟩:=A.at_;refine⟨xs,h1,by rw[h2.length,O0],λi x r hx hr=>?_⟩;obtain⟨d,g1,g2⟩:=h2.get hx;rw[O4,hr] at g1;cases g1;obtain⟨b,rfl,_,hb⟩:=vB g2;exact⟨b,rfl,.inl hb⟩
end Rw
namespace Dn
open PySem L2 Fr G1 Sm Vs G2 Rk Sz
open PySem.W (Dat kqdOk)
abbrev pr(t:Tn):Tp:=(t.fr,t.to)
end Dn
namespace Dn
open PySem L2 Fr G1 Sm Vs G2 Rk Sz
open PySem.W (Dat kqdOk kas_sort)
open PySem.W (Dat kqdOk)
abbrev qX(K:Fg):Sp:=λvs H Q _=>∃(c z:Int) (n:Nat),vs=[.int c,.int (n:Int),.int z]/\n<=5/\0<z/\z.natAbs<2 ^ 9000/\∀(p:Addr) (H':Hp) (cs:List Int),Same H H'->cs.length=n->(∀x∈cs,0<=x/\x<z)->Rz K H' (.ref p) (dI cs)->Q (.ref p) H'
nonrec abbrev wZ(K:Fg):TS:=(a8 (aR (ar hJ (ar aS (aa 0) (tC (.int 2))) (tC (.int 1))))
 (aq (bM (dU K "list" aN (aa 3) (ae (ar aS (aa 4) (aa 2)) aj)))
 (av (ar CW (aa 4) (aa 2)) (al 4)))
 (bM (dU K "list" aN (aa 3) (ae (ar aS (aC dC [] E0 (ae (aa 0) (ae (ar aX (tC (.int 30)) (aa 5)) aj))) (aa 2)) aj))))
abbrev qE(K:Fg):TS:=(aq (av (bU aj) (al 3))
 (aq (av (ar b9 (aa 0) (tC (.int 2))) (al 4))
 (aq (a5 (cw (ae (aa 1) aj)) (al 5)
 (wZ K))
 (aI (b_ (cz K) (ae (aa 3) aj))))))
def CP{K:Fg}:ρ 6 (qX K) (qE K):=by
 fail "R";obtain⟨c,z,n,rfl,hn,hz,hz2,k⟩:=h;rw[L2.aP hN];walk_at "t";unfold qE;cbv;refine⟨by decide,λl nl=>?_⟩;have A0:AccZ K H l (upd H l (.lst [])) (([]:List Int).map Qm):=AccZ.start (Same.refl _) nl;generalize upd H l (.lst [])=H0 at A0 ⊢;cbv;rw[Qc];refine aW (λi σ H2=>∃(cs:List Int) (m:Int) (u5:Option V),σ=[↥c,↥(n:Int),↥z,⇑l,↥m,u5]/\AccZ K H l H2 (cs.map Qm)/\cs.length=i/\∀x∈cs,0<=x/\x<z) ⟨[],_,none,rfl,A0,rfl,by simp⟩ ?_ ?_
 .rintro i σ H2 hi ⟨cs,m,u5,rfl,A,lc,bc⟩
  have fin:∀(x:Int) (σ':St),0<=x->x<z->∀H3,AccZ K H l H3 (cs.map Qm++[.int x])->AccZ K H l H3 ((cs++[x]).map Qm)/\(cs++[x]).length=i+1/\∀y∈cs++[x],0<=y/\y<z:=by
   intro x _ x0 x1 H3 A3;refine⟨by rw[O_];exact A3,by rw[Pm,lc];rfl,λy hy=>?_⟩;rcases Pz.mp hy with m|m
   .exact bc y m
   .rw[Po.mp m];exact⟨x0,x1⟩
  cbv;refine a9 (λe=>?_) (λe=>?_)
  .cbv;refine⟨A.ty,?_⟩;cbv;refine b6 A (.int _) (au (by rw[O0];lia)) λH3 A3 _ _ _=>?_
   obtain⟨f1,f2,f3⟩:=fin (m % z) [] (Q0 _ (by lia)) (QR _ hz) H3 A3;cbv;refine⟨m,z,rfl,rfl,⟨by lia,hz2⟩,?_⟩;cbv;exact⟨cs++[m % z],_,_,rfl,f1,f2,f3⟩
  .cbv;refine⟨A.ty,?_⟩;cbv;refine⟨c,30+(0+(i:Int)),rfl,by lia,by lia,λq hq=>?_⟩;cbv;refine b6 A (.int _) (au (by rw[O0];lia)) λH3 A3 _ _ _=>?_
   obtain⟨f1,f2,f3⟩:=fin (q % z) [] (Q0 _ (by lia)) (QR _ hz) H3 A3;exact⟨cs++[q % z],_,_,rfl,f1,f2,f3⟩
 .rintro σ H2 ⟨cs,m,u5,rfl,A,lc,bc⟩;cbv;refine eG (SqL.of (AccZ.ints A)) λp np=>?_
  exact k p _ cs (A.same.trans (ak np _)) lc bc (.tup ag (RpL.ints _))
abbrev Gx(K:Fg):Sp:=λvs H Q _=>∃(v w:V) (t:Tn) (c:List Int),vs=[v,w]/\Rz K H v (dT t)/\Rz K H w (dI c)/\t.fr.length<=100/\∀H',Same H H'->Q (.bl (pJ (pr t) c)) H'
def Ma{t:Tp}:decide ((((Q_ t.1 c).filter λz=>decide (z.2<z.1)).length:Int)=0)=pJ t c:=by
 cases e:pJ t c with
 |true =>
  unfold pJ at e;rw[UI] at e
  have z:(Q_ t.1 c).filter (λz=>decide (z.2<z.1))=[]:=Wz.mpr λx hx=>by
   have:=e x hx
   simp only[decide_eq_true_eq] at this ⊢;lia
  rw[z];rfl
 |false =>
  unfold pJ at e;rw[List.all_eq_false] at e;obtain⟨x,hx,p⟩:=e
  have:0<((Q_ t.1 c).filter λz=>decide (z.2<z.1)).length:=TX.mpr λz=>by
   have m:x∈(Q_ t.1 c).filter λz=>decide (z.2<z.1):=PQ.mpr ⟨hx,by simp only[decide_eq_true_eq] at p ⊢;lia⟩
   rw[z] at m;cases m
  exact decide_eq_false (by lia)
abbrev Gf(K:Fg):TS:=(aI (ar hJ (b_ (cH K) (ae (iN (pA K .T .T (ae (ar (aD K) (aa 0) (tC (.int 0))) (ae (aa 1) aj))) 2 (cg K 2 (aT (al 0) (aT (al 1) ci))) (aR (ar yn (aa 1) (aa 0))) (tC (.int 1))) aj)) (tC (.int 0))))
def JW{K:Fg}:ρ 2 (Gx K) (Gf K):=by
 fail "R";obtain⟨v,w,t,c,rfl,rv,rw_,hl,k⟩:=h;obtain⟨a,w1,w2,w3,rfl,ha,q1,q2,_⟩:=kc rv;obtain⟨b,rfl,hb⟩:=bN rw_;obtain⟨f,rfl,hf⟩:=bN q1;rw[L2.aP hN];walk_at "t";unfold Gf;have lz:(Q_ t.fr c).length=min t.fr.length c.length:=YB;cbv;refine aG (SqT.of ha) (v:=.ref f) rfl ?_;cbv;refine⟨f,b,_,_,rfl,SqT.of hf,SqT.of hb,?_⟩;have ml:min (t.fr.map V.int).length (c.map V.int).length=(Q_ t.fr c).length:=by rw[O0,O0,lz]
 refine Av (k1:=.T) (k2:=.T) (xs:=t.fr.map V.int) (ys:=c.map V.int) λD nD=>⟨λi H2=>AccZ K H D H2 ((((Q_ t.fr c).take i).filter λz=>decide (z.2<z.1)).map λ_=>Qm 1),by simpa using AccZ.start (Same.refl _) nD,λi H2 _ A=>⟨SqT.of (A.same _ _ hf),SqT.of (A.same _ _ hb)⟩,?_,?_⟩
 .intro i x y H2 T e1 e2 A nT us hu
  obtain⟨u1,u2',rfl⟩:∃u0 u1,us=[u0,u1]:=ex2 hu
  rw[O4] at e1 e2;obtain⟨m1,f1,rfl⟩:=Pb.mp e1;obtain⟨m2,f2,rfl⟩:=Pb.mp e2;have ez:(Q_ t.fr c)[i]?=some (m1,m2):=by rw[RJ];exact⟨f1,f2⟩
  have li:i<(Q_ t.fr c).length:=(O3.mp ez).1;have A2:=A.on (ak nT (.tup [.int m1,.int m2]));have lf:(((Q_ t.fr c).take i).filter λz=>decide (z.2<z.1)).length<=100:=Pj (QT _ _) (by rw[Px];lia);have er:(((Q_ t.fr c).take (i+1)).filter λz=>decide (z.2<z.1))=(((Q_ t.fr c).take i).filter λz=>decide (z.2<z.1))++[(m1,m2)].filter λz=>decide (z.2<z.1):=by rw[Ps,ez,Tc];rfl
  refine bI (SqT.of ag) rfl ?_;generalize upd H2 T (.tup [.int m1,.int m2])=H3 at A2 ⊢;cbv;refine⟨⟨[↥m1,↥m2],rfl,rfl⟩,?_⟩;cbv;refine a9 (λe=>?_) (λe=>?_)
  .cbv;refine a6 (by rw[ml];exact li) ?_;refine A2.cI (.int 1) (au (by rw[O0];lia)) λH4 A4=>?_
   show AccZ K H D H4 ((((Q_ t.fr c).take (i+1)).filter λz=>decide (z.2<z.1)).map λ_=>Qm 1);rw[er,QX (by simpa using e),O_];exact A4
  .refine iG (by rw[ml];exact li) ?_;show AccZ K H D H3 ((((Q_ t.fr c).take (i+1)).filter λz=>decide (z.2<z.1)).map λ_=>Qm 1);rw[er,QI (by simpa using e)];simpa using A2
 .intro H2 A;rw[ml,Pc (Pa _)] at A;obtain⟨zs,hzs,rz⟩:=A.at_;cbv;refine cR (SqL.of hzs) ?_;rw[rz.length,O0];cbv
  have:=Ma (t:=pr t) (c:=c)
  rw[show((Q_ t.fr c).filter λz=>decide (z.2<z.1))=((Q_ (pr t).1 c).filter λz=>decide (z.2<z.1)) from rfl,this];exact k H2 A.same
end Dn
namespace Mk
open Rk Sz Sf Cl
abbrev Cb(R:List (List Int))(y:List Int)(q:Nat):Nat->Int
 |0=>0
 |t+1=>Cb R y q t+pt y t*pt (R.getD t []) q
def tD(r:List Int)(R:List (List Int))(y:List Int)(q:Nat):∀t,Cb (r :: R) y q (t+1)=pt y 0*pt r q+Cb R y.tail q t
 |0=>by show(0:Int)+pt y 0*pt r q=_;simp[Cb]
 |t+1=>by
  have ih:=tD r R y q t;show Cb (r :: R) y q (t+1)+pt y (t+1)*pt ((r :: R).getD (t+1) []) q=pt y 0*pt r q+(Cb R y.tail q t+pt y.tail t*pt (R.getD t []) q)
  rw[ih,gF];show _+pt y (t+1)*pt (R.getD t []) q=_;lia
def xT{q:Nat}:∀(R:List (List Int)) (y:List Int),Cb R y q R.length=bC y R q
 |[],y=>by rw[mU];rfl
 |r :: R,y=>by rw[P7,tD,eZ,xT R y.tail]
end Mk
namespace L2
open PySem
def Fe{to ti:TE}{t:Eu}{H:Hp}{Q:St->Hp->Prop}(h:to σ H λo H1=>ti σ H1 λi H2=>t o i v H2 λH3=>Q σ H3):D6 to ti t v σ H Q:=h
end L2
namespace Lo
open Ti
def Rch.trans(h:Rch es a b)(k:Rch es b c):Rch es a c:=by
 induction k with
 |refl=>exact h
 |step _ m ih=>exact .step ih m
abbrev io(es:List (Nat×Nat)):List (Nat×Nat):=es++es.map λe=>(e.2,e.1)
def En{a b:Nat}(h:(a,b)∈io es):(b,a)∈io es:=by
 unfold io at h ⊢;rcases Pz.mp h with h|h
 .exact PB _ (Pl.mpr ⟨_,h,rfl⟩)
 .obtain⟨e,m,z⟩:=Pl.mp h;refine PK _ ?_;obtain⟨x,y⟩:=e;simp only[Y1] at z;rw[<- z.1,<- z.2];exact m
def m7(h:Rch (io es) a b):Rch (io es) b a:=by
 induction h with
 |refl=>exact .refl
 |step _ m ih=>exact Rch.trans (.step .refl (En m)) ih
abbrev at_(f:List Nat)(i:Nat):Nat:=f.getD i 0
abbrev rN(f:List Nat)(e:Nat×Nat):Nat:=if at_ f e.2<at_ f e.1 then at_ f e.2 else at_ f e.1
abbrev qa(f:List Nat)(e:Nat×Nat):Nat:=if at_ f e.2 > at_ f e.1 then at_ f e.2 else at_ f e.1
abbrev c8(f:List Nat)(e:Nat×Nat):List Nat:=f.map λx=>if x=qa f e then rN f e else x
def cY{f:List Nat}{i:Nat}(h:i<f.length):at_ (c8 f e) i=if at_ f i=qa f e then rN f e else at_ f i:=by
 unfold c8 at_;rw[O2,O4,O2,O1 h];rfl
def Ik(f:List Nat)(e:Nat×Nat):(rN f e=at_ f e.1/\qa f e=at_ f e.2/\at_ f e.1<=at_ f e.2)\/(rN f e=at_ f e.2/\qa f e=at_ f e.1/\at_ f e.2<=at_ f e.1):=by
 unfold rN qa;by_cases h:at_ f e.2<at_ f e.1
 .right;rw[if_pos h,if_neg (by lia)];lia
 .left;rw[if_neg h];by_cases g:at_ f e.2 > at_ f e.1
  .rw[if_pos g];lia
  .rw[if_neg g];lia
structure FI (n:Nat) (es seen:List (Nat×Nat)) (f:List Nat):Prop where
 len:f.length=n
 le:∀i<n,at_ f i<=i
 fix:∀i<n,at_ f (at_ f i)=at_ f i
 tie:∀i<n,Rch (io es) i (at_ f i)
 one:∀e∈seen,at_ f e.1=at_ f e.2
def FI.start(n:Nat)(es:List (Nat×Nat)):FI n es [] (Pi n):=by
 have e:∀i<n,at_ (Pi n) i=i:=λi h=>by
  unfold at_;rw[O2,Qs h];rfl
 exact⟨PN,λi h=>by rw[e i h];exact Pa _,λi h=>by rw[e i h,e i h],λi h=>by rw[e i h];exact .refl,λe h=>by cases h⟩
def FI.more{seen:List (Nat×Nat)}{e:Nat×Nat}(F:FI n es seen f)(ok:MN n es)(sub:∀e∈seen,e∈es)(m:e∈es):FI n es (seen++[e]) (c8 f e):=by
 obtain⟨l1,l2⟩:=ok e m;have hl:=F.len;have a1:=F.le e.1 l1;have a2:=F.le e.2 l2;have f1:=F.fix e.1 l1;have f2:=F.fix e.2 l2;have eg:(e.1,e.2)∈io es:=PK _ m;have t12:Rch (io es) (at_ f e.1) (at_ f e.2):=Rch.trans (m7 (F.tie e.1 l1)) (Rch.trans (.step .refl eg) (F.tie e.2 l2))
 have gl:Rch (io es) (qa f e) (rN f e):=by
  rcases Ik f e with⟨x,y,_⟩|⟨x,y,_⟩
  .rw[x,y];exact m7 t12
  .rw[x,y];exact t12
 have hls:rN f e<n/\at_ f (rN f e)=rN f e/\rN f e<=qa f e:=by
  rcases Ik f e with⟨x,y,z⟩|⟨x,y,z⟩
  .rw[x,y];exact⟨by lia,f1,z⟩
  .rw[x,y];exact⟨by lia,f2,z⟩
 refine⟨by unfold c8;rw[O0];exact hl,λi h=>?_,λi h=>?_,λi h=>?_,λd hd=>?_⟩
 .have:=F.le i h
  rw[cY (by lia)];split
  .rename_i z
   have:=hls.2.2
   lia
  .exact this
 .have li:=F.le i h;rw[cY (e:=e) (i:=i) (by lia)];by_cases z:at_ f i=qa f e
  .rw[if_pos z,cY (by lia),hls.2.1];split <;> rfl
  .rw[if_neg z,cY (by lia),F.fix i h,if_neg z]
 .rw[cY (by lia)];by_cases z:at_ f i=qa f e
  .rw[if_pos z]
   have:=F.tie i h
   rw[z] at this;exact Rch.trans this gl
  .rw[if_neg z];exact F.tie i h
 .rcases Pz.mp hd with hd|hd
  .obtain⟨d1,d2⟩:=ok d (sub d hd);rw[cY (by lia),cY (by lia),F.one d hd]
  .cases Po.mp hd;rw[cY (by lia),cY (by lia)];rcases Ik f e with⟨x,y,z⟩|⟨x,y,z⟩
   .rw[x,y,if_pos rfl];split <;> rfl
   .rw[x,y,if_pos rfl];split <;> rfl
abbrev aY(n:Nat)(es:List (Nat×Nat)):List Nat:=es.foldl c8 (Pi n)
def uf(ok:MN n es)(i:Nat):FI n es (es.take i) ((es.take i).foldl c8 (Pi n)):=by
 induction i with
 |zero=>exact FI.start n es
 |succ i ih =>
  by_cases h:i<es.length
  .rw[Ps,O1 h,VE,Rh];exact ih.more ok (λe he=>QP he) (Qx h)
  .rw[Pc (by lia)] at ih ⊢;exact ih
def bR(ok:MN n es):FI n es es (aY n es):=by
 have:=uf ok es.length
 rwa [QC] at this
def FI.same(F:FI n es es f)(h:Rch (io es) i j):at_ f i=at_ f j:=by
 induction h with
 |refl=>rfl
 |step _ m ih =>
  rw[ih];rcases Pz.mp m with m|m
  .exact F.one _ m
  .obtain⟨e,m,z⟩:=Pl.mp m;simp only[Y1] at z;rw[<- z.1,<- z.2];exact(F.one e m).symm
def FI.tied(F:FI n es es f){i j:Nat}(hi:i<n)(hj:j<n):at_ f i=at_ f j↔Rch (io es) i j:=by
 refine⟨λh=>?_,F.same⟩;have a:=F.tie i hi;have b:=F.tie j hj;rw[h] at a;exact Rch.trans a (m7 b)
abbrev aJ(f:List Nat)(v:Nat):List Nat:=(Pi f.length).filter λi=>at_ f i=v
abbrev ff(f:List Nat):List (List Nat):=((Pi f.length).filter λv=>at_ f v=v).map (aJ f)
def FI.mem{seen:List (Nat×Nat)}(F:FI n es seen f){v:Nat}:v∈f↔v<n/\at_ f v=v:=by
 constructor
 .intro h;obtain⟨i,li,e⟩:=QE.mp h
  have ea:at_ f i=v:=by
   unfold at_;rw[O2,O1 li];exact e
  rw[F.len] at li
  have:=F.le i li
  have fx:=F.fix i li;rw[ea] at this fx;exact⟨by lia,fx⟩
 .rintro⟨h,e⟩;unfold at_ at e;rw[O2,O1 (by rw[F.len];exact h)] at e;exact List.mem_of_getElem (by exact e)
def M6{seen:List (Nat×Nat)}(F:FI n es seen f)(h8:n<=8):L2.cU f=(Pi f.length).filter λv=>at_ f v=v:=by
 unfold L2.cU
 have e8:Pi 8=Pi f.length++(Pi (8-f.length)).map (f.length + ·):=by
  rw[<- List.range_add];congr 1;have:=F.len;lia
 rw[e8,Tc]
 have z:((Pi (8-f.length)).map (f.length + ·)).filter (λk=>f.contains k)=[]:=by
  rw[Wz];intro a ha;obtain⟨k,_,rfl⟩:=Pl.mp ha;rw[Uz,F.mem]
  have:=F.len
  lia
 rw[z,RW];refine XZ λv hv=>?_
 rw[PJ,F.len] at hv;rw[RV,Uz,F.mem];simp[hv]
end Lo
namespace L2
open PySem
def Mj:bootBuiltins "min"=some (.builtin "min"):=by decide +kernel
def rQ{te:TE}{H:Hp}{Q:VK}(h:te σ H λx H1=>∃n:Nat,x=.int (n:Int)/\n<=1000/\∀l,H1 l=none->Q (.ref l) (upd H1 l (.lst ((Pi n).map λk:Nat=>.int (k:Int))))):gu te σ H Q:=h
def zy{K:Fg}{te:TE}{H:Hp}(h:te σ H λx H1=>tH K x H1 Q):lC K te σ H Q:=h
end L2
namespace Lo
open PySem L2 Fr G1 Sm Vs G2 Ti Sz Rw
open PySem.W (Dat kqdOk)
abbrev zN(l:List Nat):List Int:=l.map λk:Nat=>(k:Int)
def sK(l:List Nat):(zN l).length=l.length:=O0 _
def zV(l:List Nat):(zN l).map V.int=l.map λk:Nat=>V.int (k:Int):=by unfold zN;rw[Qz];rfl
def EB(l m:List Nat):zN (l++m)=zN l++zN m:=O_
def kI{f:List Nat}{i:Nat}(h:i<f.length):((zN f).map V.int)[i]?=↥(at_ f i:Int):=by
 rw[zV,O4];unfold at_;rw[O2,O1 h];rfl
abbrev lI(K:Fg):Sp:=λvs H Q _=>∃(a:Addr) (f:List Nat) (v:Nat),vs=[.ref a,.int (v:Int)]/\H a=some (.lst ((zN f).map V.int))/\f.length<=100/\∀(p:Addr) (H':Hp),AccZ K H p H' ((zN (aJ f v)).map Qm)->Q (.ref p) H'
abbrev k8(K:Fg):TS:=(aI (iN (ii K (ae (aa 0) aj)) 2 (cg K 2 (aT (al 0) (aT (al 1) ci))) (aR (ar hJ (aa 1) (aa 3))) (aa 0)))
def yf{K:Fg}:ρ 2 (lI K) (k8 K):=by
 fail "R";obtain⟨a,f,v,rfl,ha,hl,k⟩:=h;rw[L2.aP hN];walk_at "t";unfold k8;cbv;refine⟨a,_,rfl,SqL.of ha,?_⟩;have lf:((zN f).map V.int).length=f.length:=by rw[O0,sK]
 refine kF (xs:=(zN f).map V.int) λD nD=>⟨λj H2=>AccZ K H D H2 ((zN ((Pi j).filter λi=>at_ f i=v)).map Qm),by simpa[zN] using AccZ.start (Same.refl _) nD,λj H2 _ A=>SqL.of (A.same _ _ ha),?_,?_⟩
 .intro j x H2 T hx A nT us hu
  obtain⟨u0,u1,rfl⟩:∃u w,us=[u,w]:=ex2 hu
  have lj:j<f.length:=by rw[<- lf];exact(O3.mp hx).1
  rw[kI lj] at hx;cases hx;have er:((Pi (j+1)).filter λi=>decide (at_ f i=v))=((Pi j).filter λi=>decide (at_ f i=v))++[j].filter λi=>decide (at_ f i=v):=by rw[Rr,Tc]
  have lr:((Pi j).filter λi=>decide (at_ f i=v)).length<=100:=Pj (QT _ _) (by rw[PN];lia);have S2:=ak nT (.tup [.int (j:Int),.int (at_ f j:Int)]);have hT:upd H2 T (.tup [.int (j:Int),.int (at_ f j:Int)]) T=some (.tup [.int (j:Int),.int (at_ f j:Int)]):=ag;have A2:=A.on S2;generalize upd H2 T (.tup [.int (j:Int),.int (at_ f j:Int)])=H3 at hT A2 ⊢;cbv;refine bI (SqT.of hT) rfl ?_;cbv;refine⟨⟨[↥(j:Int),↥(at_ f j:Int)],rfl,rfl⟩,?_⟩;cbv;refine a9 (λc=>?_) (λc=>?_)
  .have c':at_ f j=v:=by
    have:(at_ f j:Int)=(v:Int):=by simpa using c
    lia
   cbv;refine a6 (by rw[lf];exact lj) ?_;refine A2.cI (.int (j:Int)) (au (by rw[O0,sK];lia)) λH4 A4=>?_
   show AccZ K H D H4 ((zN ((Pi (j+1)).filter λi=>decide (at_ f i=v))).map Qm);rw[er,QX (by simpa using c'),EB,O_];exact A4
  .have c' : ¬ at_ f j=v:=λz=>c (by simp[z])
   refine iG (by rw[lf];exact lj) ?_;show AccZ K H D H3 ((zN ((Pi (j+1)).filter λi=>decide (at_ f i=v))).map Qm);rw[er,QI (by simpa using c')];simpa using A2
 .intro H2 A;rw[lf] at A;exact k D H2 A
abbrev cO(ts:List Tn):List (List Int):=(ff (aY (aF ts).length (am ts))).map zN
abbrev tf(K:Fg):Sp:=λvs H Q _=>∃(v:V) (ws:List Str) (ts:List Tn),vs=[v]/\Rz K H v (dV ws ts)/\ts.length<=8/\(aF ts).length<=8/\∀(p:Addr) (H':Hp),Same H H'->Rp K (λa=>H a=none) H' (.ref p) (dM (cO ts))->Q (.ref p) H'
nonrec abbrev BR(K:Fg):TS:=(aq (av (b_ Nb (ae (ar (bY K) (aa 1) (aa 2)) (ae (ar (bY K) (aa 1) (aa 3)) aj))) (al 4))
 (aq (av (b_ Nc (ae (ar (bY K) (aa 1) (aa 2)) (ae (ar (bY K) (aa 1) (aa 3)) aj))) (al 5))
 (av (fE (cx K (aa 1)) (JC (aR (ar hJ (aa 0) (aa 6))) (aa 5) (aa 0))) (al 1))))
nonrec abbrev BQ(K:Fg):TS:=(aq (a5 (cx K (aC (iT K) [] E0 (ae (aa 0) aj))) (cg K 2 (aT (al 2) (aT (al 3) ci)))
 (BR K))
 (aI (fE (cx K (lC K (aa 1))) (aC (lI K) [] E0 (ae (aa 2) (ae (aa 0) aj))))))
abbrev wH(K:Fg):TS:=(aq (av (gu (b_ (cH K) (ae (aC (gy K) [] E0 (ae (aa 0) aj)) aj))) (al 1))
 (BQ K))
def G4{K:Fg}:ρ 6 (tf K) (wH K):=by
 fail "R";obtain⟨v,ws,ts,rfl,rv,ht,h8,k⟩:=h;rw[L2.aP hN];walk_at "t";unfold wH;cbv;refine rQ ?_;cbv;refine⟨v,ws,ts,rfl,rv,by lia,λp H1 A1=>?_⟩;obtain⟨xs,hp,rx⟩:=A1.at_;have lx:xs.length=(aF ts).length:=by rw[rx.length,O0]
 have ok:=bO ts;have le:(am ts).length=ts.length:=by unfold am;rw[O0]
 unfold cO at k;generalize (aF ts).length=n at lx ok h8 k;cbv;refine cR (SqL.of hp) ?_;refine⟨n,by rw[lx],by lia,λl nl=>?_⟩;have S2:=ak nl (.lst ((Pi n).map λk:Nat=>.int (k:Int)));have hl:upd H1 l (.lst ((Pi n).map λk:Nat=>.int (k:Int))) l=some (.lst ((zN (Pi n)).map V.int)):=by rw[zV];exact ag
 have S02:=A1.same.trans S2;generalize upd H1 l (.lst ((Pi n).map λk:Nat=>.int (k:Int)))=H2 at S2 hl S02 ⊢;cbv;refine⟨v,ws,ts,rfl,rv.same S02,by lia,λpe H3 A3=>?_⟩;obtain⟨ys,hpe,ry⟩:=A3.at_;have S03:=S02.trans A3.same;generalize am ts=es at ok le ry k A3;have ly:ys.length=es.length:=by rw[ry.length,O0]
 have hl3:=A3.same _ _ hl;cbv;refine ig (SqL.of hpe) ?_;refine bn (xs:=ys) (λj σ H4=>∃(l:Addr) (u2 u3 u4 u5:Option V),σ=[some v,⇑l,u2,u3,u4,u5]/\Same H3 H4/\H4 l=some (.lst ((zN ((es.take j).foldl c8 (Pi n))).map V.int))) ⟨l,none,none,none,none,rfl,Same.refl _,hl3⟩ (by rintro j σ H4 _ ⟨_,_,_,_,_,_,S,_⟩;exact SqL.of (S _ _ hpe)) ?_ ?_
 .rintro j x σ H4 hx ⟨m,u2,u3,u4,u5,rfl,S4,hm⟩;have lj:=(O3.mp hx).1;obtain⟨d,g1,g2⟩:=ry.get hx;rw[O4] at g1;obtain⟨e,he,rfl⟩:=Pb.mp g1;obtain⟨b,rfl,hb⟩:=An (g2.same S4);have FI:=uf ok j;have et:(es.take (j+1)).foldl c8 (Pi n)=c8 ((es.take j).foldl c8 (Pi n)) e:=by rw[Ps,he,VE,Rh];rfl
  obtain⟨o1,o2⟩:=ok e (O7 he);have lf:=FI.len;rw[et];generalize (es.take j).foldl c8 (Pi n)=f at hm FI lf;refine bI (SqT.of hb) rfl ?_;cbv;refine cf (SqL.of hm) (aO (kI (i:=e.1) (by lia))) ?_;cbv;refine cf (SqL.of hm) (aO (kI (i:=e.2) (by lia))) ?_;cbv;refine⟨_,_,rfl,?_⟩
  have q1:(if (at_ f e.2:Int)<(at_ f e.1:Int) then (at_ f e.2:Int) else (at_ f e.1:Int))=(rN f e:Int):=by
   unfold rN;by_cases c:at_ f e.2<at_ f e.1
   .rw[if_pos c,if_pos (by lia)]
   .rw[if_neg c,if_neg (by lia)]
  have q2:(if (at_ f e.2:Int) > (at_ f e.1:Int) then (at_ f e.2:Int) else (at_ f e.1:Int))=(qa f e:Int):=by
   unfold qa;by_cases c:at_ f e.2 > at_ f e.1
   .rw[if_pos c,if_pos (by lia)]
   .rw[if_neg c,if_neg (by lia)]
  rw[q1];cbv;refine cf (SqL.of hm) (aO (kI (i:=e.1) (by lia))) ?_;cbv;refine cf (SqL.of hm) (aO (kI (i:=e.2) (by lia))) ?_;cbv;refine⟨_,_,rfl,?_⟩;rw[q2];cbv;refine rP (SqL.of hm) ?_;have lzf:((zN f).map V.int).length=f.length:=by rw[O0,sK]
  refine df (xs:=(zN f).map V.int) λD nD=>⟨λi H5=>AccZ K H4 D H5 ((zN ((c8 f e).take i)).map Qm),by simpa[zN] using AccZ.start (Same.refl _) nD,λi H5 _ A=>SqL.of (A.same _ _ hm),?_,?_⟩
  .intro i x H5 hx A;have li:i<f.length:=by rw[<- lzf];exact(O3.mp hx).1
   rw[kI li] at hx;cases hx
   have ej:(c8 f e)[i]?=some (if at_ f i=qa f e then rN f e else at_ f i):=by
    have lj2:i<(c8 f e).length:=by unfold c8;rw[O0];exact li
    rw[<- cY (e:=e) li];unfold at_;rw[O2,O1 lj2];rfl
   have fin:∀(w:Nat),w=(if at_ f i=qa f e then rN f e else at_ f i)->nB D ((zN f).map V.int).length i (λi H5=>AccZ K H4 D H5 ((zN ((c8 f e).take i)).map Qm)) (.int (w:Int)) H5:=λw hw=>by
    refine a6 (by rw[lzf];exact li) ?_;refine A.cI (.int (w:Int)) (au (by rw[O0,sK,Px];lia)) λH6 A6=>?_
    show AccZ K H4 D H6 ((zN ((c8 f e).take (i+1))).map Qm);rw[Ps,ej,<- hw,VE,EB,O_];exact A6
   cbv;refine a9 (λc=>?_) (λc=>?_)
   .have c':at_ f i=qa f e:=by
     have:(at_ f i:Int)=(qa f e:Int):=by simpa using c
     lia
    cbv;exact fin (rN f e) (by rw[if_pos c'])
   .have c' : ¬ at_ f i=qa f e:=λz=>c (by simp[z])
    cbv;exact fin (at_ f i) (by rw[if_neg c'])
  .intro H5 A;have lJ:(c8 f e).length=f.length:=by unfold c8;rw[O0]
   rw[lzf,<- lJ,QC] at A;exact⟨D,_,_,_,_,rfl,S4.trans A.same,AccZ.ints A⟩
 .rintro σ H4 ⟨m,u2,u3,u4,u5,rfl,S4,hm⟩;rw[ly,QC] at hm;have FI:=bR ok;have FI':=FI;unfold aY at FI k;generalize es.foldl c8 (Pi n)=f at hm FI k;have lf:=FI.len;have f8:∀x∈f,x<8:=λx hx=>by have:=(FI.mem.mp hx).1;lia
  cbv;refine zy ?_;cbv;refine⟨m,f,rfl,by rw[<- zV];exact SqL.of hm,f8,λq nq=>?_⟩;have eu:=M6 FI h8;have el:(cU f).map (aJ f)=ff f:=by rw[eu];rfl
  have S5:=ak nq (.lst ((cU f).map λk:Nat=>.int (k:Int)));have hq:upd H4 q (.lst ((cU f).map λk:Nat=>.int (k:Int))) q=some (.lst ((cU f).map λk:Nat=>.int (k:Int))):=ag;generalize upd H4 q (.lst ((cU f).map λk:Nat=>.int (k:Int)))=H5 at S5 hq ⊢;have lu:((cU f).map λk:Nat=>V.int (k:Int)).length=(cU f).length:=O0 _;have lu8:(cU f).length<=8:=by unfold cU;exact QT _ _
  refine rP (SqL.of hq) ?_;refine df (xs:=(cU f).map λk:Nat=>.int (k:Int)) λD nD=>⟨λi H6=>Acc K H5 D H6 ((((cU f).take i).map λv=>zN (aJ f v)).map dL),by simpa using Acc.start nD,λi H6 _ A=>SqL.of (A.same _ _ hq),?_,?_⟩
  .intro i x H6 hx A;have li:=(O3.mp hx).1;rw[O4] at hx;obtain⟨w,hw,rfl⟩:=Pb.mp hx;cbv;refine⟨m,f,w,rfl,A.same _ _ (S5 _ _ hm),by lia,λr H7 C=>?_⟩;refine a6 li ?_;refine A.cI C.same (d:=dL (zN (aJ f w))) C.ref (au (by rw[O0,O0,Px];lia)) λH8 A8=>?_
   show Acc K H5 D H8 ((((cU f).take (i+1)).map λv=>zN (aJ f v)).map dL);rw[Ps,hw,O_,O_];exact A8
  .intro H6 A;rw[lu,QC] at A;have S06:=S03.trans (S4.trans S5);have em:((cU f).map λv=>zN (aJ f v))=(ff f).map zN:=by rw[<- el,Qz];rfl
   rw[em] at A;exact k D H6 (S06.trans A.same) (A.ref.mono λ_ z=>S06.free z)
end Lo
namespace Bo
abbrev sm:Nat->(Nat->Int)->Int
 |0,_=>0
 |n+1,f=>sm n f+f n
def bS{n:Nat}{f g:Nat->Int}(h:∀k,k<n->f k=g k):sm n f=sm n g:=by
 induction n with
 |zero=>rfl
 |succ n ih=>rw[sm,sm,ih λk hk=>h k (by lia),h n (by lia)]
def tw(n:Nat)(f g:Nat->Int):sm n (λk=>f k+g k)=sm n f+sm n g:=by
 induction n with
 |zero=>rfl
 |succ n ih=>rw[sm,sm,sm,ih];lia
def JI(n:Nat)(c:Int)(f:Nat->Int):sm n (λk=>c*f k)=c*sm n f:=by
 induction n with
 |zero=>rw[sm,sm,R4]
 |succ n ih=>rw[sm,sm,ih,SA]
def tu{n j:Nat}{f:Nat->Int}(hj:j<n)(h:∀k,k<n->k≠j->f k=0):sm n f=f j:=by
 induction n with
 |zero=>lia
 |succ n ih =>
  rw[sm];by_cases e:j=n
  .subst e;rw[show sm j f=0 from ?_,SD]
   have:sm j f=sm j λ_=>0:=bS λk hk=>h k (by lia) (by lia)
   rw[this];clear this ih h hj
   induction j with
   |zero=>rfl
   |succ j ih=>rw[sm,ih];rfl
  .rw[ih (by lia) λk hk ne=>h k (by lia) ne,h n (by lia) (by lia),SB]
def fF{n:Nat}{f:Nat->Int}(h:∀k,k<n->f k=0):sm n f=0:=by
 induction n with
 |zero=>rfl
 |succ n ih=>rw[sm,ih λk hk=>h k (by lia),h n (by lia)];rfl
end Bo
namespace L2
open PySem
def vD{K:Fg}{Q:VK}{H:Hp}{xs:List V}(h:∀D,H D=none->∃Pv:Nat->Hp->Prop,Pv 0 (upd H D (.lst []))/\(∀i H2,i<=xs.length->Pv i H2->SqL K H2 a xs) /\
  (∀i x H2 T,xs[i]?=some x->Pv i H2->H2 T=none->Ez g n te σ (.ref T) (upd H2 T (.tup [.int i,x])) D xs.length i Pv)/\∀H2,Pv xs.length H2->Q (.ref D) H2):sF (Jn K a) n g te σ Q H:=by
 intro D nD;obtain⟨Pv,h0,hl,hs,hd⟩:=h D nD;refine⟨λi m H=>m=xs.length-i/\i<=xs.length/\Pv i H,⟨_,rfl,Ql _,h0⟩,?_⟩;rintro i m H ⟨rfl,hi,p⟩;have q:=hl i H hi p;by_cases Ad:i<xs.length
 .refine .inr ⟨⟨xs,q,Ad⟩,λv H' y us hu=>?_⟩;obtain⟨T,x,nT,rfl,rfl,z⟩:=y;exact hs i x H T (z xs q) p nT us hu
 .have e:i=xs.length:=by lia
  subst e;exact .inl ⟨⟨xs,q,Pa _⟩,hd H p⟩
def rX{K:Fg}{H:Hp}{D:cu}{k1 k2:Kn}{xs ys:List V}{g:TG}{tb:TS}{n:Nat}(e1:xs.length=n)(e2:ys.length=n)(Pv:Nat->St->Hp->Prop)(h0:Pv 0 σ H)(hl:∀i σ H,i<=n->Pv i σ H->k1.sq K H a xs/\k2.sq K H b ys)
  (hs:∀i x y σ H T,xs[i]?=some x->ys[i]?=some y->Pv i σ H->H T=none->g (.ref T) σ (upd H T (.tup [x,y])) λσ2 H2=>tb {D with nx:=Pv (i+1),ct:=Pv (i+1),bk:=D.nx} σ2 H2) (hd:∀σ H,Pv n σ H->D.nx σ H):vL (FJ K k1 k2 a b) g tb D σ H:=by
 refine⟨λi m σ H=>m=n-i/\i<=n/\Pv i σ H,⟨_,rfl,Ql _,h0⟩,?_⟩;rintro i m σ H ⟨rfl,hi,p⟩;obtain⟨q1,q2⟩:=hl i σ H hi p;obtain⟨g1,g2,g3⟩:=vO (i:=i) q1 q2 (Ws e1.symm) (Ws e2.symm) (.inl e1);by_cases Ad:i<n
 .refine .inr ⟨g1 Ad,Pv (i+1),λσ' H' p'=>⟨n-(i+1),by lia,rfl,Ad,p'⟩,λv H' y=>?_⟩;obtain⟨T,x,z,nT,rfl,rfl,z1,z2⟩:=g3 y;exact hs i x z σ H T z1 z2 p nT
 .obtain rfl:i=n:=by lia
  exact .inl ⟨g2 (Pa _),hd σ H p⟩
end L2
namespace Br
end Br
namespace Bo
def xQ(m:Nat)(W:Nat)(c z:Nat->Int)(L:Nat->Nat->Int):sm W (λk=>sm m (λj=>c j*L j k)*z k)=sm m λj=>c j*sm W λk=>L j k*z k:=by
 induction m with
 |zero=>exact fF λk _=>RL _
 |succ m ih =>
  show sm W (λk=>(sm m (λj=>c j*L j k)+c m*L m k)*z k)=sm m (λj=>c j*sm W λk=>L j k*z k)+c m*sm W λk=>L m k*z k
  rw[<- ih,<- JI,<- tw];refine bS λk _=>?_
  rw[UX,Q1]
end Bo
namespace Br
open Rk Sf Rw Bo
open PySem L2 Fr G1 Sm Vs G2 Rk Sz Sf Rw
open PySem.W (Dat kqdOk)
def NM{H:Hp}{Q:VK}{c:V}{k:Nat}(h0:H l0=some (.lst [c]))(hk:k<=100)(h:∀l,H l=none->Q (.ref l) (upd H l (.lst (PV k c)))):Hi (.ref l0) (.int (k:Int)) H Q:=by
 refine⟨l0,(k:Int),_,rfl,rfl,h0,by lia,by lia,by rw[Sv];show 1*_<=_;lia,λl nl=>?_⟩;rw[Qc,List.flatten_replicate_singleton];exact h l nl
end Br
namespace Fr
def cX{b:Int}(hb:b≠0)(L:Gd.Low t b q d):q=(PH t b).num/\d=((PH t b).den:Int):=by
 obtain⟨pos,low,worth⟩:=L;have e:PH t b=PH q d:=(Q2 hb (by lia)).mpr worth.symm
 have cp:Ra q.natAbs d.natAbs:=by
  unfold Gd.gd at low;unfold Ra
  have:W7 q d=P4 q.natAbs d.natAbs:=rfl
  lia
 have m:Rat.mk' q d.natAbs (by lia) cp=PH q d:=by
  rw[Rat.mk_eq_divInt];congr 1;lia
 rw[e,<- m];exact⟨rfl,by show d=(d.natAbs:Int);lia⟩
def gE(x:Rat):PH x.num (x.den:Int)=x:=Qk x
def rq(x y:Rat):PH (x.num*(y.den:Int)+y.num*(x.den:Int)) ((x.den:Int)*(y.den:Int))=x+y:=by
 have h1:(x.den:Int)≠0:=by have:=x.den_nz;lia
 have h2:(y.den:Int)≠0:=by have:=y.den_nz;lia
 rw[<- Rat.divInt_add_divInt _ _ h1 h2,gE,gE]
def He(x y:Rat):PH (x.num*y.num) ((x.den:Int)*(y.den:Int))=x*y:=by
 rw[<- Q6,gE,gE]
def Fu(x y:Rat):(x.den:Int)*(y.den:Int)≠0:=by
 have:=x.den_nz
 have:=y.den_nz
 exact WE (by lia) (by lia)
def Hf(x:Rat):0<(x.den:Int)/\Gd.gd x.num (x.den:Int)=1:=by
 have h:=x.den_nz;refine⟨by lia,?_⟩;have c:=x.reduced;unfold Ra at c;unfold Gd.gd
 have:W7 x.num (x.den:Int)=P4 x.num.natAbs x.den:=rfl
 lia
end Fr
namespace Tr
abbrev ls{α:Type}(l:List α)(f:α->Rat):Rat:=(l.map f).sum
def oX{α:Type}(f:α->Rat):ls [] f=0:=rfl
def aV{α:Type}(a:α)(l:List α)(f:α->Rat):ls (a :: l) f=f a+ls l f:=rfl
def aQ{α:Type}{l:List α}{f g:α->Rat}(h:∀x∈l,f x=g x):ls l f=ls l g:=by
 unfold ls;rw[Q3 h]
def Fa{α:Type}(l:List α)(f g:α->Rat):ls l (λx=>f x+g x)=ls l f+ls l g:=by
 induction l with
 |nil=>exact(RN 0).symm
 |cons a l ih=>rw[aV,aV,aV,ih];grind
def oY{α:Type}(c:Rat)(l:List α)(f:α->Rat):ls l (λx=>c*f x)=c*ls l f:=by
 induction l with
 |nil=>exact(WA c).symm
 |cons a l ih=>rw[aV,aV,ih,Rat.mul_add]
def mE{α:Type}{l:List α}{f:α->Rat}(h:∀x∈l,f x=0):ls l f=0:=by
 induction l with
 |nil=>rfl
 |cons a l ih=>rw[aV,h a O8,ih λx hx=>h x (O9 _ hx),RN]
def mF{α β:Type}(l:List α)(m:List β)(f:α->β->Rat):ls l (λx=>ls m (f x))=ls m λy=>ls l λx=>f x y:=by
 induction l with
 |nil=>exact(mE λ_ _=>rfl).symm
 |cons a l ih =>
  rw[aV,ih,<- Fa];rfl
def zd{α:Type}{l:List α}{f:α->Rat}(nd:l.Nodup){a:α}(ha:a∈l)(h:∀x∈l,x≠a->f x=0):ls l f=f a:=by
 induction l with
 |nil=>cases ha
 |cons b l ih =>
  rw[Qf] at nd;rw[aV];rcases Py.mp ha with rfl|hb
  .rw[mE λx hx=>h x (O9 _ hx) λe=>nd.1 (e ▸ hx),RN]
  .rw[h b O8 λe=>nd.1 (e ▸ hb),ih nd.2 hb λx hx=>h x (O9 _ hx),Vk]
section
variable(fm:Nat->List Nat)
abbrev up(g:Nat->Nat)(h k:Nat):Nat->Nat:=λx=>if x=h then k else g x
abbrev T:List Nat->((Nat->Nat)->Rat)->Rat
 |[],F=>F λ_=>0
 |h :: hs,F=>ls (fm h) λk=>T hs λg=>F (up g h k)
variable{fm}
def sE:∀{hs:List Nat} {F G:(Nat->Nat)->Rat},hs.Nodup->(∀g,(∀h∈hs,g h∈fm h)->F g=G g)->T fm hs F=T fm hs G
 |[],F,G,_,e=>e _ λh hh=>by cases hh
 |h :: hs,F,G,nd,e=>aQ λk hk=>sE (Qf.mp nd).2 λg hg=>e _ λx hx=>by
  unfold up;by_cases q:x=h
  .rw[if_pos q,q];exact hk
  .rw[if_neg q];exact hg x ((Py.mp hx).resolve_left q)
def Et{F G:(Nat->Nat)->Rat}(e:∀g,F g=G g):T fm hs F=T fm hs G:=by rw[show F=G from funext e]
def Mz(c:Rat):∀{hs:List Nat} {F:(Nat->Nat)->Rat},T fm hs (λg=>c*F g)=c*T fm hs F
 |[],F=>rfl
 |h :: hs,F=>by
  show ls (fm h) (λk=>T fm hs λg=>c*F (up g h k))=_;rw[aQ λk _=>Mz c,oY];rfl
def MA{α:Type}(l:List α):∀{hs:List Nat} {F:α->(Nat->Nat)->Rat},T fm hs (λg=>ls l λi=>F i g)=ls l λi=>T fm hs (F i)
 |[],F=>rfl
 |h :: hs,F=>by
  show ls (fm h) (λk=>T fm hs λg=>ls l λi=>F i (up g h k))=_;rw[aQ λk _=>MA l,mF];rfl
def M5{h h':Nat}(n:h≠h'):up (up g h k) h' k'=up (up g h' k') h k:=by
 funext x;unfold up;by_cases a:x=h'
 .rw[if_pos a,if_neg λe=>n (e.symm.trans a),if_pos a]
 .rw[if_neg a,if_neg a]
def Mw{h h':Nat}{hs:List Nat}{F:(Nat->Nat)->Rat}(n:h≠h'):T fm (h :: h' :: hs) F=T fm (h' :: h :: hs) F:=by
 show ls (fm h) (λk=>ls (fm h') λk'=>T fm hs λg=>F (up (up g h' k') h k))=ls (fm h') λk'=>ls (fm h) λk=>T fm hs λg=>F (up (up g h k) h' k')
 rw[mF];exact aQ λk' _=>aQ λk _=>Et λg=>by rw[M5 n]
def My{l:List Nat}(p:l.Perm l'):∀{F:(Nat->Nat)->Rat},l.Nodup->T fm l F=T fm l' F:=by
 induction p with
 |nil=>exact λ_=>rfl
 |cons x _ ih=>exact λnd=>aQ λk _=>ih (Qf.mp nd).2
 |swap x y l=>exact λnd=>Mw λe=>(Qf.mp nd).1 (e ▸ O8)
 |trans p1 _ ih1 ih2=>exact λnd=>(ih1 nd).trans (ih2 (p1.nodup_iff.mp nd))
end
abbrev c6(f:Nat->Nat):Nat->Nat->Nat
 |0,x=>x
 |n+1,x=>f (c6 f n x)
def dq(f:Nat->Nat)(a:Nat):∀(b x:Nat),c6 f (b+a) x=c6 f b (c6 f a x)
 |0,x=>by rw[SX];rfl
 |b+1,x=>by rw[Nat.add_right_comm];exact congrArg f (dq f a b x)
def pf{f:Nat->Nat}{L:List Nat}(hf:∀h∈L,f h∈L){x:Nat}(hx:x∈L):∀n,c6 f n x∈L
 |0=>hx
 |n+1=>hf _ (pf hf hx n)
abbrev cQ(s:Nat->Nat)(r:Nat):Nat->Nat:=λx=>if x=r then r else s x
abbrev All(s:Nat->Nat)(L:List Nat)(r:Nat):Prop:=∀h∈L,∃n,c6 s n h=r
abbrev Tree(s:Nat->Nat)(L:List Nat)(r:Nat):Prop:=∀h∈L,c6 (cQ s r) L.length h=r
def sT(s:Nat->Nat)(r:Nat):∀n,c6 (cQ s r) n r=r
 |0=>rfl
 |n+1=>by
  show cQ s r (c6 (cQ s r) n r)=r;rw[sT s r n];exact if_pos rfl
def lG{s:Nat->Nat}{r h:Nat}:∀n,(∀m,m<n->c6 s m h≠r)->c6 (cQ s r) n h=c6 s n h
 |0,_=>rfl
 |n+1,d=>by
  show cQ s r (c6 (cQ s r) n h)=s (c6 s n h);rw[lG n λm hm=>d m (by lia)];exact if_neg (d n (by lia))
def tY{P:Nat->Prop}:∀n,P n->∃m,m<=n/\P m/\∀k,k<m->¬ P k
 |n,h=>by
  induction n using Ss with
  |_ n ih =>
   by_cases q:∃k,k<n/\P k
   .obtain⟨k,hk,pk⟩:=q;obtain⟨m,hm,r⟩:=ih k hk pk;exact⟨m,by lia,r⟩
   .exact⟨n,Pa _,h,λk hk pk=>q ⟨k,hk,pk⟩⟩
def sQ{s:Nat->Nat}{L:List Nat}(hs:∀h∈L,s h∈L)(pig:∀l:List Nat,l.Nodup->(∀x∈l,x∈L)->l.length<=L.length):Tree s L r↔All s L r:=by
 constructor
 .intro t h hh;refine Sn λno=>?_
  have:=t h hh
  rw[lG _ λm _ e=>no ⟨m,e⟩] at this;exact no ⟨_,this⟩
 .intro a h hh;obtain⟨n,hn⟩:=a h hh;obtain⟨m,_,pm,lo⟩:=tY (P:=λn=>c6 s n h=r) n hn;have e1:c6 (cQ s r) m h=r:=by rw[lG m lo];exact pm
  have nd:((Pi (m+1)).map λi=>c6 s i h).Nodup:=by
   unfold List.Nodup;rw[List.pairwise_map];refine List.Pairwise.imp_of_mem ?_ List.pairwise_lt_range;intro i j _ hj lt e;have hj:j<m+1:=PJ.mp hj;have go:∀d,c6 s (d+i) h=c6 s (d+j) h:=λd=>by rw[dq s i d h,dq s j d h,e]
   have:=go (m-j)
   rw[show m-j+j=m by lia,pm] at this;exact lo (m-j+i) (by lia) this
  have:=pig _ nd λx hx=>by
   obtain⟨i,_,rfl⟩:=Pl.mp hx;exact pf hs hh i
  rw[O0,PN] at this;rw[show L.length=(L.length-m)+m by lia,dq (cQ s r) m,e1];exact sT s r _
def yS{s:Nat->Nat}{L:List Nat}{j:Nat}(hs:∀h∈L,s h∈L)(hj:j∈L)(a:All s L j):∃i∈L,s i=j/\All s L i/\∀i'∈L,s i'=j->All s L i'->i'=i:=by
 obtain⟨n0,e0⟩:=a (s j) (hs j hj);have e1:c6 s (n0+1) j=j:=by rw[dq s 1 n0 j];exact e0
 obtain⟨n,_,en,lo⟩:=tY (P:=λn=>c6 s (n+1) j=j) n0 e1
 have per:∀q,c6 s (q*(n+1)) j=j:=by
  intro q
  induction q with
  |zero=>rw[TK];rfl
  |succ q ih=>rw[Sx,dq s (n+1) (q*(n+1)) j,en,ih]
 have red:∀b,c6 s b j=c6 s (b % (n+1)) j:=λb=>by
  conv=>lhs;rw[<- Nat.mod_add_div b (n+1),Qv,dq s _ _ j,per]
 refine⟨c6 s n j,pf hs hj n,en,λh hh=>?_,λi' hi' e' a'=>?_⟩
 .obtain⟨k,hk⟩:=a h hh;exact⟨n+k,by rw[dq s k n h,hk]⟩
 .obtain⟨b,hb⟩:=a' j hj;rw[red b] at hb;have lt:=YS b (Vi n);generalize b % (n+1)=c at hb lt
  have ec:c6 s (c+1) j=j:=by
   show s (c6 s c j)=j;rw[hb];exact e'
  rcases Vl c n with q|q
  .exact absurd ec (lo c q)
  .rw[<- hb,show c=n by lia]
def cJ{α:Type}(p:α->Bool)(f:α->Rat):∀l:List α,ls (l.filter p) f=ls l λx=>if p x=true then f x else 0
 |[]=>rfl
 |a :: l=>by
  rw[Wa,aV];split
  .rw[aV,cJ p f l]
  .rw[cJ p f l,Vk]
section
variable(es:List (Nat×Nat))(pc:Nat->Rat)
abbrev fro(k:Nat):Nat:=(es.getD k (0,0)).1
abbrev tow(k:Nat):Nat:=(es.getD k (0,0)).2
abbrev dR(h:Nat):List Nat:=(Pi es.length).filter λk=>fro es k == h
abbrev bX(L:List Nat)(r:Nat):List Nat:=L.filter λx=>x != r
abbrev bH(g:Nat->Nat):List Nat->Rat
 |[]=>1
 |h :: hs=>pc (g h)*bH g hs
open Classical in
abbrev W (L:List Nat) (r:Nat):Rat:=T (dR es) (bX L r) λg=>if Tree (λh=>tow es (g h)) L r then bH pc g (bX L r) else 0
variable{es}{pc}
def JG(g:Nat->Nat)(r k:Nat):cQ (λh=>tow es (up g r k h)) r=cQ (λh=>tow es (g h)) r:=by
 funext x;unfold cQ up;by_cases q:x=r
 .rw[if_pos q,if_pos q]
 .rw[if_neg q,if_neg q];show tow es (if x=r then k else g x)=tow es (g x);rw[if_neg q]
def vY(g:Nat->Nat)(L:List Nat)(r k:Nat):Tree (λh=>tow es (up g r k h)) L r↔Tree (λh=>tow es (g h)) L r:=by
 unfold Tree;rw[JG]
def EM{g:Nat->Nat}{r k:Nat}:∀{l:List Nat},r∉l->bH pc (up g r k) l=bH pc g l
 |[],_=>rfl
 |h :: l,n=>by
  show pc (up g r k h)*bH pc (up g r k) l=pc (g h)*bH pc g l;have ne:h≠r:=λe=>n (by rw[e];exact O8)
  rw[EM λq=>n (O9 _ q),show up g r k h=g h from if_neg ne]
def C3{l:List Nat}(p:l.Perm l'):bH pc g l=bH pc g l':=by
 induction p with
 |nil=>rfl
 |cons x _ ih=>exact congrArg (pc (g x) * ·) ih
 |swap x y l=>show pc (g y)*(pc (g x)*bH pc g l)=pc (g x)*(pc (g y)*bH pc g l);grind
 |trans _ _ ih1 ih2=>exact ih1.trans ih2
def ma{L:List Nat}(nd:L.Nodup){i:Nat}(hi:i∈L):L.Perm (i :: bX L i):=by
 have:=List.perm_cons_erase hi
 rw[nd.erase_eq_filter] at this;exact this
def yP{i:Nat}:i∉bX L i:=λh=>by
 have:=(PQ.mp h).2
 simp at this
open Classical in
def sU{L:List Nat}(nd:L.Nodup){i:Nat}(hi:i∈L)(c:Nat->Rat):ls (dR es i) (λk=>c k*pc k*W es pc L i)=T (dR es) L λg=>c (g i)*if Tree (λh=>tow es (g h)) L i then bH pc g L else 0:=by
 rw[My (ma nd hi) nd];refine aQ λk _=>?_
 rw[show W es pc L i=T (dR es) (bX L i) λg=>if Tree (λh=>tow es (g h)) L i then bH pc g (bX L i) else 0 from rfl,<- Mz];refine Et λg=>?_
 show(c k*pc k*if Tree (λh=>tow es (g h)) L i then bH pc g (bX L i) else 0)=c (up g i k i)*if Tree (λh=>tow es (up g i k h)) L i then bH pc (up g i k) L else 0
 rw[C3 (ma nd hi),show up g i k i=k from if_pos rfl,show bH pc (up g i k) (i :: bX L i)=pc (up g i k i)*bH pc (up g i k) (bX L i) from rfl,show up g i k i=k from if_pos rfl,EM yP];by_cases t:Tree (λh=>tow es (g h)) L i
 .rw[if_pos t,if_pos ((vY g L i k).mpr t)];grind
 .rw[if_neg t,if_neg λz=>t ((vY g L i k).mp z)];grind
def LZ{L:List Nat}(nd:L.Nodup){j:Nat}(hj:j∈L)(cl:∀k,k<es.length->tow es k∈L->fro es k∈L)(f:Nat->Nat->Rat):ls ((Pi es.length).filter λk=>tow es k == j) (λk=>f k (fro es k))=ls L λi=>ls (dR es i) λk=>if tow es k=j then f k i else 0:=by
 have e:(ls L λi=>ls (dR es i) λk=>if tow es k=j then f k i else 0)=ls L λi=>ls (Pi es.length) λk=>if (fro es k == i)=true then (if tow es k=j then f k i else 0) else 0:=aQ λi _=>cJ (λk=>fro es k == i) _ _
 rw[e,cJ,mF];refine aQ λk hk=>?_
 by_cases t:tow es k=j
 .rw[if_pos (by simp[t])];rw[zd nd (cl k (PJ.mp hk) (by rw[t];exact hj)) λx _ ne=>if_neg (by simpa using λe=>ne e.symm)];rw[if_pos (by simp),if_pos t]
 .rw[if_neg (by simpa using t)];refine(mE λi _=>?_).symm;rw[if_neg t,ite_self]
open Classical in
def Ep{L:List Nat}(nd:L.Nodup){j:Nat}(hj:j∈L)(cl:∀k,k<es.length->(fro es k∈L↔tow es k∈L))(pig:∀l:List Nat,l.Nodup->(∀x∈l,x∈L)->l.length<=L.length) :
  ls ((Pi es.length).filter λk=>tow es k == j) (λk=>pc k*W es pc L (fro es k))=ls (dR es j) λk=>pc k*W es pc L j:=by
 rw[LZ nd hj (λk hk=>(cl k hk).mpr) λk i=>pc k*W es pc L i]
 have r:ls (dR es j) (λk=>pc k*W es pc L j)=T (dR es) L λg=>if Tree (λh=>tow es (g h)) L j then bH pc g L else 0:=by
  rw[aQ (g:=λk=>(λ_=>(1:Rat)) k*pc k*W es pc L j) λk _=>by grind,sU nd hj];exact Et λg=>RH _
 rw[r,aQ (g:=λi=>T (dR es) L λg=>(if tow es (g i)=j then 1 else 0)*if Tree (λh=>tow es (g h)) L i then bH pc g L else 0) λi hi=>?_,<- MA]
 .refine sE nd λg hg=>?_
  have hs:∀h∈L,tow es (g h)∈L:=λh hh=>by
   obtain⟨m1,m2⟩:=PQ.mp (hg h hh);exact(cl _ (PJ.mp m1)).mp (by rw[show fro es (g h)=h by simpa using m2];exact hh)
  have ta:=λr=>sQ (s:=λh=>tow es (g h)) (r:=r) hs pig
  by_cases t:Tree (λh=>tow es (g h)) L j
  .rw[if_pos t];obtain⟨i,hi,e,ai,un⟩:=yS hs hj ((ta j).mp t);rw[zd nd hi λx hx ne=>?_,if_pos e,if_pos ((ta i).mpr ai),RH];by_cases q:tow es (g x)=j
   .rw[if_neg (c:=Tree (λh=>tow es (g h)) L x) λz=>ne (un x hx q ((ta x).mp z)),WA]
   .rw[if_neg q,Vm]
  .rw[if_neg t];refine mE λi hi=>?_
   by_cases q:tow es (g i)=j
   .rw[if_neg (c:=Tree (λh=>tow es (g h)) L i) λz=>t ((ta j).mpr λh hh=>?_),WA];obtain⟨n,hn⟩:=(ta i).mp z h hh;exact⟨n+1,by show tow es (g (c6 (λh=>tow es (g h)) n h))=j;rw[hn];exact q⟩
   .rw[if_neg q,Vm]
 .rw[<- sU nd hi λk=>if tow es k=j then 1 else 0];refine aQ λk _=>?_
  split
  .rw[RH]
  .rw[Vm,Vm]
def jq{α:Type}{l:List α}{f:α->Rat}(h:∀x∈l,0<=f x):0<=ls l f:=by
 induction l with
 |nil=>exact W0
 |cons a l ih =>
  have h1:=h a O8;have h2:=ih λx hx=>h x (O9 _ hx)
  rw[aV]
  grind
def Lb{α:Type}{l:List α}{f:α->Rat}(h:∀x∈l,0<=f x){a:α}(ha:a∈l)(p:0<f a):0<ls l f:=by
 induction l with
 |nil=>cases ha
 |cons b l ih =>
  rw[aV];have h1:=h b O8;have h2:=jq λx hx=>h x (O9 b hx)
  rcases Py.mp ha with rfl|hb
  .grind
  .have:=ih (λx hx=>h x (O9 _ hx)) hb
   grind
def uv{fm:Nat->List Nat}:∀{hs:List Nat} {F:(Nat->Nat)->Rat},hs.Nodup->(∀g,(∀h∈hs,g h∈fm h)->0<=F g)->0<=T fm hs F
 |[],F,_,e=>e _ λh hh=>by cases hh
 |h :: hs,F,nd,e=>jq λk hk=>uv (Qf.mp nd).2 λg hg=>e _ λx hx=>by
  unfold up;by_cases q:x=h
  .rw[if_pos q,q];exact hk
  .rw[if_neg q];exact hg x ((Py.mp hx).resolve_left q)
def Mx{fm:Nat->List Nat}:∀{hs:List Nat} {F:(Nat->Nat)->Rat} {g0:Nat->Nat},hs.Nodup->(∀g,(∀h∈hs,g h∈fm h)->0<=F g)->(∀h∈hs,g0 h∈fm h)->(∀h,h∉hs->g0 h=0)->0<F g0->0<T fm hs F
 |[],F,g0,_,_,_,z,p=>by
  show 0<F λ_=>0
  rw[show(λ_=>0)=g0 from funext λx=>(z x λh=>by cases h).symm];exact p
 |h :: hs,F,g0,nd,e,v,z,p=>by
  obtain⟨n1,n2⟩:=Qf.mp nd
  have ok:∀k∈fm h,∀g,(∀x∈hs,g x∈fm x)->0<=F (up g h k):=λk hk g hg=>e _ λx hx=>by
   unfold up;by_cases q:x=h
   .rw[if_pos q,q];exact hk
   .rw[if_neg q];exact hg x ((Py.mp hx).resolve_left q)
  refine Lb (λk hk=>uv n2 (ok k hk)) (v h O8) ?_;refine Mx (g0:=λx=>if x=h then 0 else g0 x) n2 (ok _ (v h O8)) (λx hx=>?_) (λx hx=>?_) ?_
  .show(if x=h then 0 else g0 x)∈fm x;have ne:x≠h:=λq=>n1 (by rw[<- q];exact hx)
   rw[if_neg ne];exact v x (O9 _ hx)
  .show(if x=h then 0 else g0 x)=0;by_cases q:x=h
   .rw[if_pos q]
   .rw[if_neg q];exact z x λm=>hx ((Py.mp m).resolve_left q)
  .rw[show up (λx=>if x=h then 0 else g0 x) h (g0 h)=g0 from funext λx=>?_]
   .exact p
   .unfold up;by_cases q:x=h
    .rw[if_pos q,q]
    .rw[if_neg q];exact if_neg q
def gH{g:Nat->Nat}:∀{l:List Nat},(∀h∈l,0<pc (g h))->0<bH pc g l
 |[],_=>by show(0:Rat)<1;decide
 |h :: l,a=>Rv (a h O8) (gH λx hx=>a x (O9 _ hx))
abbrev Pn(es:List (Nat×Nat)):Nat->Nat->Nat->Prop
 |0,a,b=>a=b
 |n+1,a,b=>∃k,k<es.length/\fro es k=a/\Pn es n (tow es k) b
def Pn.snoc{es:List (Nat×Nat)}{k:Nat}(hk:k<es.length):∀{n a:Nat},Pn es n a (fro es k)->Pn es (n+1) a (tow es k)
 |0,_,h=>⟨k,hk,h.symm,rfl⟩
 |_+1,_,⟨m,hm,e,h⟩=>⟨m,hm,e,Pn.snoc hk h⟩
open Classical in
def Oy{L:List Nat}(nd:L.Nodup){r:Nat}(hr:r∈L)(cl:∀k,k<es.length->(fro es k∈L↔tow es k∈L))(pig:∀l:List Nat,l.Nodup->(∀x∈l,x∈L)->l.length<=L.length)(pp:∀k,k<es.length->0<pc k)(bk:∀h∈L,∃n,Pn es n h r):0<W es pc L r:=by
 have ndo:(bX L r).Nodup:=nd.filter _;have mo:∀{h},h∈bX L r↔h∈L/\h≠r:=λ{h}=>by unfold bX;rw[PQ];simp
 have pos:∀g:Nat->Nat,(∀h∈bX L r,g h∈dR es h)->0<bH pc g (bX L r):=λg hg=>gH λh hh=>pp _ (PJ.mp (PQ.mp (hg h hh)).1)
 have near:∀h,h∈bX L r->∃k,k∈dR es h/\∀n,(Pn es n h r/\∀m,m<n->¬ Pn es m h r)->∃m,m<n/\Pn es m (tow es k) r:=by
  intro h hh;obtain⟨hL,ne⟩:=mo.mp hh;obtain⟨n0,p0⟩:=bk h hL;obtain⟨n,_,pn,lo⟩:=tY (P:=λn=>Pn es n h r) n0 p0;cases n with
  |zero=>exact absurd pn ne
  |succ n =>
   obtain⟨k,hk,e,p⟩:=pn;refine⟨k,PQ.mpr ⟨PJ.mpr hk,by simpa using e⟩,λn' ⟨q1,q2⟩=>⟨n,?_,p⟩⟩;rcases Vl n n' with z|z
   .exact z
   .exact absurd q1 (lo n' (by lia))
 let g0:Nat->Nat:=λh=>if q:h∈bX L r then (near h q).choose else 0
 have v:∀h∈bX L r,g0 h∈dR es h:=λh hh=>by
  show(if q:h∈bX L r then (near h q).choose else 0)∈_;rw[dif_pos hh];exact(near h hh).choose_spec.1
 have step:∀h∈bX L r,∀n,(Pn es n h r/\∀m,m<n->¬ Pn es m h r)->∃m,m<n/\Pn es m (tow es (g0 h)) r:=λh hh=>by
  show ∀n,_->∃m,m<n/\Pn es m (tow es (if q:h∈bX L r then (near h q).choose else 0)) r;rw[dif_pos hh];exact(near h hh).choose_spec.2
 have inL:∀h∈bX L r,tow es (g0 h)∈L:=λh hh=>by
  obtain⟨m1,m2⟩:=PQ.mp (v h hh);exact(cl _ (PJ.mp m1)).mp (by rw[show fro es (g0 h)=h by simpa using m2];exact(mo.mp hh).1)
 refine Mx (g0:=g0) ndo (λg hg=>?_) v (λh hh=>?_) ?_
 .split
  .exact RO (pos g hg)
  .exact W0
 .show(if q:h∈bX L r then (near h q).choose else 0)=0;rw[dif_neg hh]
 .have all:∀n h,h∈L->Pn es n h r->∃m,c6 (cQ (λh=>tow es (g0 h)) r) m h=r:=by
   intro n
   induction n using Ss with
   |_ n ih =>
    intro h hL p;by_cases e:h=r
    .exact⟨0,e⟩
    .obtain⟨m,hm,pm,lo⟩:=tY (P:=λn=>Pn es n h r) n p;have hh:=mo.mpr ⟨hL,e⟩;obtain⟨q,hq,pq⟩:=step h hh m ⟨pm,lo⟩;obtain⟨t,ht⟩:=ih q (by lia) _ (inL h hh) pq;refine⟨t+1,?_⟩;rw[dq (cQ (λh=>tow es (g0 h)) r) 1 t h,show c6 (cQ (λh=>tow es (g0 h)) r) 1 h=tow es (g0 h) from if_neg e];exact ht
  have tr:Tree (cQ (λh=>tow es (g0 h)) r) L r:=(sQ (s:=cQ (λh=>tow es (g0 h)) r) (λh hh=>by
   unfold cQ
   by_cases e:h=r
   .rw[if_pos e];exact hr
   .rw[if_neg e];exact inL h (mo.mpr ⟨hh,e⟩)) pig).mpr λh hh=>by
    obtain⟨n,pn⟩:=bk h hh;exact all n h hh pn
  have tr2:Tree (λh=>tow es (g0 h)) L r:=λh hh=>by
   have:=tr h hh
   rw[show cQ (cQ (λh=>tow es (g0 h)) r) r=cQ (λh=>tow es (g0 h)) r from funext λx=>by
    unfold cQ
    by_cases e:x=r
    .rw[if_pos e,if_pos e]
    .rw[if_neg e,if_neg e]] at this
   exact this
  rw[if_pos tr2];exact pos g0 v
end
open PySem L2 Fr G1 Sm Vs G2 Rk Sz Sf Rw Ti
open PySem.W (Dat kqdOk)
abbrev dQ(x:Rat):Dat:=dI [x.num,(x.den:Int)]
abbrev QV(K:Fg)(H:Hp)(v:V)(x:Rat):Prop:=∃a:Addr,v=.ref a/\SqT K H a [.int x.num,.int (x.den:Int)]
def QV.of{K:Fg}(h:Rz K H v (dQ x)):QV K H v x:=by
 obtain⟨a,e,ha⟩:=bN h;exact⟨a,e,SqT.of ha⟩
abbrev Bq(n:Nat)(x:Rat):Prop:=x.num.natAbs<2 ^ n/\x.den<2 ^ n
abbrev gz(K:Fg):Sp:=λvs H Q _=>∃t b:Int,vs=[.int t,.int b]/\b≠0/\t.natAbs<2 ^ 8000/\b.natAbs<2 ^ 8000/\∀(p:Addr) (H':Hp),Same H H'->Rz K H' (.ref p) (dQ (PH t b))->Q (.ref p) H'
abbrev qQ(K:Fg):Sp:=λvs H Q _=>∃(v u:V) (x y:Rat),vs=[v,u]/\QV K H v x/\QV K H u y/\Bq 3900 x/\Bq 3900 y/\∀(p:Addr) (H':Hp),Same H H'->Rz K H' (.ref p) (dQ (x+y))->Q (.ref p) H'
abbrev iF(K:Fg):Sp:=λvs H Q _=>∃(v u:V) (x y:Rat),vs=[v,u]/\QV K H v x/\QV K H u y/\Bq 3900 x/\Bq 3900 y/\∀(p:Addr) (H':Hp),Same H H'->Rz K H' (.ref p) (dQ (x*y))->Q (.ref p) H'
def Bq.mul{x y:Int}(hx:x.natAbs<2 ^ 3900)(hy:y.natAbs<2 ^ 3900):(x*y).natAbs<2 ^ 7800:=by
 rw[P2]
 have:=UJ hx hy
 rwa [<- QU] at this
def pw_lt{a b:Nat}(h:a<b):(2:Nat) ^ a<2 ^ b:=Qd (by decide) h
def Bq.w{x:Int}(h:x.natAbs<2 ^ 3900):x.natAbs<2 ^ 20000:=Qo h (pw_lt (by decide))
def Bq.d(h:Bq 3900 x):((x.den:Nat):Int).natAbs<2 ^ 3900:=h.2
def Bq.sum{x y:Int}(hx:x.natAbs<2 ^ 7800)(hy:y.natAbs<2 ^ 7800):(x+y).natAbs<2 ^ 8000:=by
 refine PL (Pk (Ts x y) (YU hx hy)) ?_;rw[<- Nat.two_mul,Qv,<- QW];exact Ph (by decide) (by decide)
abbrev qo(K:Fg):TS:=(aI (aC (gz K) [] E0 (ae (ar aX (ar cV (ar (aD K) (aa 0) (tC (.int 0))) (ar (aD K) (aa 1) (tC (.int 1)))) (ar cV (ar (aD K) (aa 1) (tC (.int 0))) (ar (aD K) (aa 0) (tC (.int 1))))) (ae (ar cV (ar (aD K) (aa 0) (tC (.int 1))) (ar (aD K) (aa 1) (tC (.int 1)))) aj))))
def CC{K:Fg}:ρ 2 (qQ K) (qo K):=by
 fail "R";obtain⟨v,u,x,y,rfl,rv,ru,bx,Zg,k⟩:=h;obtain⟨a,rfl,ha⟩:=rv;obtain⟨b,rfl,hb⟩:=ru;rw[L2.aP hN];walk_at "t";unfold qo;cbv;refine aG ha (v:=.int x.num) rfl ?_;cbv;refine aG hb (v:=.int (y.den:Int)) rfl ?_;refine⟨_,_,rfl,rfl,⟨Bq.w bx.1,Bq.w Zg.d⟩,?_⟩;cbv;refine aG hb (v:=.int y.num) rfl ?_;cbv;refine aG ha (v:=.int (x.den:Int)) rfl ?_;refine⟨_,_,rfl,rfl,⟨Bq.w Zg.1,Bq.w bx.d⟩,?_⟩;cbv;refine aG ha (v:=.int (x.den:Int)) rfl ?_;cbv;refine aG hb (v:=.int (y.den:Int)) rfl ?_;refine⟨_,_,rfl,rfl,⟨Bq.w bx.d,Bq.w Zg.d⟩,?_⟩;cbv;refine⟨_,_,rfl,Fu x y,Bq.sum (Bq.mul bx.1 Zg.d) (Bq.mul Zg.1 bx.d),Qo (Bq.mul bx.d Zg.d) (pw_lt (by decide)),λp H' S r=>?_⟩;rw[rq] at r;exact k p H' S r
abbrev k7(K:Fg):TS:=(aI (aC (gz K) [] E0 (ae (ar cV (ar (aD K) (aa 0) (tC (.int 0))) (ar (aD K) (aa 1) (tC (.int 0)))) (ae (ar cV (ar (aD K) (aa 0) (tC (.int 1))) (ar (aD K) (aa 1) (tC (.int 1)))) aj))))
def yd{K:Fg}:ρ 2 (iF K) (k7 K):=by
 fail "R";obtain⟨v,u,x,y,rfl,rv,ru,bx,Zg,k⟩:=h;obtain⟨a,rfl,ha⟩:=rv;obtain⟨b,rfl,hb⟩:=ru;rw[L2.aP hN];walk_at "t";unfold k7;cbv;refine aG ha (v:=.int x.num) rfl ?_;cbv;refine aG hb (v:=.int y.num) rfl ?_;refine⟨_,_,rfl,rfl,⟨Bq.w bx.1,Bq.w Zg.1⟩,?_⟩;cbv;refine aG ha (v:=.int (x.den:Int)) rfl ?_;cbv;refine aG hb (v:=.int (y.den:Int)) rfl ?_;refine⟨_,_,rfl,rfl,⟨Bq.w bx.d,Bq.w Zg.d⟩,?_⟩;cbv;refine⟨_,_,rfl,Fu x y,Qo (Bq.mul bx.1 Zg.1) (pw_lt (by decide)),Qo (Bq.mul bx.d Zg.d) (pw_lt (by decide)),λp H' S r=>?_⟩;rw[He] at r;exact k p H' S r
def Acc.ext{K:Fg}(A:Acc K H0 l H ds)(hb:H b=some (.lst zs))(rz:RpL K (λa=>H0 a=none/\a≠l) H zs es)(n:ds.length+es.length<=1000){Q:VK}(h:∀H2,Acc K H0 l H2 (ds++es)->Q .non H2):i_ (.ref l) [.ref b] H Q:=by
 obtain⟨xs,h1,h2⟩:=A.at_
 have lz:xs.length+zs.length<=sizeLine:=by
  have:=au n
  rw[h2.length,rz.length];lia
 refine⟨l,b,xs,zs,rfl,rfl,h1,hb,lz,h _ ⟨λc o q=>?_,A.new,_,L2.ag,?_⟩⟩
 .rw[L2.aE (aw q A.new)];exact A.same c o q
 .exact(h2.append rz).agr (Agr.d_ h1 λw=>w.2 rfl)
abbrev xM(K:Fg):Sp:=λvs H Q _=>∃(p:Addr) (xs:List V) (es:List (Nat×Nat)) (h:Nat),vs=[.ref p,.int (h:Int)]/\H p=some (.lst xs)/\RzL K H xs (es.map dP)/\es.length<=100/\∀(q:Addr) (H':Hp),AccZ K H q H' ((dR es h).map dN)->Q (.ref q) H'
def zW{es:List (Nat×Nat)}{j:Nat}{e:Nat×Nat}(h:es[j]?=some e):fro es j=e.1/\tow es j=e.2:=by
 unfold fro tow;rw[O2,h];exact⟨rfl,rfl⟩
abbrev wN(K:Fg):TS:=(aI (iN (ii K (ae (aa 0) aj)) 2 (cg K 2 (aT (al 0) (aT (al 1) ci))) (aR (ar hJ (ar (aD K) (aa 1) (tC (.int 0))) (aa 3))) (aa 0)))
def G7{K:Fg}:ρ 2 (xM K) (wN K):=by
 fail "R";obtain⟨p,xs,es,h,rfl,hp,rx,le,k⟩:=h;rw[L2.aP hN];walk_at "t";have lx:xs.length=es.length:=by rw[rx.length,O0]
 unfold wN;cbv;refine⟨p,xs,rfl,SqL.of hp,?_⟩;refine kF (xs:=xs) λD nD=>⟨λj H2=>AccZ K H D H2 (((Pi j).filter λk=>fro es k == h).map dN),AccZ.start (Same.refl _) nD,λj H2 _ A=>SqL.of (A.same _ _ hp),?_,?_⟩
 .intro j x H2 T hx A nT us hu
  obtain⟨u0,u1,rfl⟩:∃u0 u1,us=[u0,u1]:=ex2 hu
  have lj:=(O3.mp hx).1;obtain⟨d,g1,g2⟩:=rx.get hx;rw[O4] at g1;obtain⟨e,he,rfl⟩:=Pb.mp g1;obtain⟨f1,_⟩:=zW he;have A2:=A.on (ak nT (.tup [.int (j:Int),x]));have hT:upd H2 T (.tup [.int (j:Int),x]) T=some (.tup [.int (j:Int),x]):=ag;generalize upd H2 T (.tup [.int (j:Int),x])=H3 at A2 hT ⊢;obtain⟨pb,rfl,hpb⟩:=An (g2.same A2.same);have lr:((Pi j).filter λk=>fro es k == h).length<=100:=Pj (QT _ _) (by rw[PN];lia);have er:(Pi (j+1)).filter (λk=>fro es k == h)=(Pi j).filter (λk=>fro es k == h)++[j].filter λk=>fro es k == h:=by rw[Rr,Tc]
  refine bI (SqT.of hT) rfl ?_;cbv;refine⟨⟨[↥(j:Int),⇑pb],rfl,rfl⟩,?_⟩;cbv;refine aG (SqT.of hpb) (v:=.int (e.1:Int)) rfl ?_;cbv;refine a9 (λc=>?_) (λc=>?_)
  .have c':fro es j=h:=by lia
   cbv;refine a6 lj ?_;refine A2.cI (d:=dN j) (.int _) (au (by rw[O0];lia)) λH4 A4=>?_
   show AccZ K H D H4 (((Pi (j+1)).filter λk=>fro es k == h).map dN);rw[er,QX (by simpa using c'),O_];exact A4
  .have c' : ¬ fro es j=h:=by lia
   refine iG lj ?_;show AccZ K H D H3 (((Pi (j+1)).filter λk=>fro es k == h).map dN);rw[er,QI (by simpa using c')];simpa using A2
 .intro H2 A;rw[lx] at A;exact k D H2 A
abbrev jb(es:List (Nat×Nat))(acc:List (List Nat))(h:Nat):List (List Nat):=acc.flatMap λp=>(dR es h).map λk=>p++[k]
abbrev pk(es:List (Nat×Nat))(hs:List Nat):List (List Nat):=hs.foldl (jb es) [[]]
abbrev Fw(p:List Nat):Dat:=dL (ni p)
abbrev qS(K:Fg):Sp:=λvs H Q _=>∃(p b:Addr) (xs:List V) (es:List (Nat×Nat)) (hs:List Nat),vs=[.ref p,.ref b]/\H p=some (.lst xs)/\RzL K H xs (es.map dP)/\es.length<=100/\H b=some (.lst ((ni hs).map V.int))/\hs.length<=100/\(∀i,(pk es (hs.take i)).length<=900)/\∀(q:Addr) (H':Hp),Acc K H q H' ((pk es hs).map Fw)->Q (.ref q) H'
def yE{hs:List Nat}{i h:Nat}(e:hs[i]?=some h):pk es (hs.take (i+1))=jb es (pk es (hs.take i)) h:=by
 unfold pk;rw[Ps,e,Rh];rfl
def EW{es:List (Nat×Nat)}:∀{hs:List Nat} {acc:List (List Nat)} {n:Nat},(∀p∈acc,p.length=n)->∀p∈hs.foldl (jb es) acc,p.length=n+hs.length
 |[],_,_,h,p,hp=>h p hp
 |x :: hs,acc,n,h,p,hp=>by
  have:=EW (hs:=hs) (acc:=jb es acc x) (n:=n+1) (λq hq=>by
   obtain⟨a,ha,hq⟩:=Ym.mp hq
   obtain⟨k,_,rfl⟩:=Pl.mp hq
   rw[Pm,h a ha]
   rfl) p hp
  rw[this,P7];lia
nonrec abbrev wz(K:Fg):TS:=(aq (a5 (cx K (aa 2)) (al 5)
 (bM (dU K "list" i_ (aa 4) (ae (fE (cx K (aC (xM K) [] E0 (ae (aa 0) (ae (aa 3) aj)))) (ar yp (aa 6) (bU (ae (aa 0) aj)))) aj))))
 (av (aa 4) (al 2)))
abbrev qq(K:Fg):TS:=(aq (av (bU (ae (bU aj) aj)) (al 2))
 (aq (a5 (cx K (aa 1)) (al 3)
 (aq (av (bU aj) (al 4))
 (wz K)))
 (aI (aa 2))))
def CF{K:Fg}:ρ 6 (qS K) (qq K):=by
 fail "R";obtain⟨p,b,xs,es,hs,rfl,hp,rx,le,hb,lh,few,k⟩:=h;rw[L2.aP hN];walk_at "t";unfold qq;cbv;refine⟨by decide,λl0 n0=>?_⟩;have S0:=ak n0 (.lst []);have h0:upd H l0 (.lst []) l0=some (.lst (([]:List Int).map V.int)):=ag;generalize upd H l0 (.lst [])=H0 at S0 h0 ⊢;cbv;refine⟨gA,λl1 n1=>?_⟩;have S1:=ak n1 (.lst [.ref l0]);have A1:Acc K H l1 (upd H0 l1 (.lst [.ref l0])) ((pk es (hs.take 0)).map Fw):=⟨S0.trans S1,S0.free n1,_,ag,.cons (vA ⟨n0,aw h0 n1⟩ (S1 _ _ h0)) .nil⟩
 generalize upd H0 l1 (.lst [.ref l0])=H1 at A1 ⊢;clear S1 S0 h0;cbv;refine ig (SqL.of (A1.same _ _ hb)) ?_;refine bn (xs:=(ni hs).map V.int) (λi σ H2=>∃(t:Addr) (u3 u4 u5:Option V),σ=[⇑p,⇑b,⇑t,u3,u4,u5]/\Acc K H t H2 ((pk es (hs.take i)).map Fw)) ⟨l1,none,none,none,rfl,A1⟩ (by rintro i σ H2 _ ⟨_,_,_,_,_,A⟩;exact SqL.of (A.same _ _ hb)) ?_ ?_
 .rintro i x σ H2 hx ⟨t,u3,u4,u5,rfl,A⟩
  obtain⟨h,eh,rfl⟩:∃h,hs[i]?=some h/\x=.int (h:Int):=by
   unfold ni at hx;rw[O4,O4] at hx;cases e:hs[i]? with
   |none=>rw[e] at hx;cases hx
   |some h=>rw[e] at hx;exact⟨h,rfl,(PD hx).symm⟩
  have fw:=few (i+1);rw[yE eh] at fw
  have ln:∀q∈pk es (hs.take i),q.length<=100:=λq hq=>by
   have:=EW (acc:=[[]]) (n:=0) (λp hp=>by rw[Po.mp hp];rfl) q hq
   rw[this,Px];lia
  obtain⟨ts,ht,rt⟩:=A.at_;generalize hP:pk es (hs.take i)=P at A rt fw ln;cbv;refine⟨by decide,λl nl=>?_⟩;have B0:Acc K H2 l (upd H2 l (.lst [])) ((jb es (P.take 0) h).map Fw):=Acc.start nl;generalize upd H2 l (.lst [])=H3 at B0 ⊢;cbv;refine ig (SqL.of (B0.same _ _ ht)) ?_;refine bn (xs:=ts) (λj σ H4=>∃u5:Option V,σ=[⇑p,⇑b,⇑t,↥(h:Int),⇑l,u5]/\Acc K H2 l H4 ((jb es (P.take j) h).map Fw)) ⟨u5,rfl,B0⟩ (by rintro j σ H4 _ ⟨_,_,B⟩;exact SqL.of (B.same _ _ ht)) ?_ ?_
  .rintro j y σ H4 hy ⟨u5,rfl,B⟩;have lj:=(O3.mp hy).1;obtain⟨d,g1,g2⟩:=rt.get hy;rw[O4] at g1;obtain⟨q,hq,rfl⟩:=Pb.mp g1;obtain⟨c,rfl,_,hc⟩:=vB g2;have lq:=ln q (O7 hq)
   have ej:jb es (P.take (j+1)) h=jb es (P.take j) h++(dR es h).map λk=>q++[k]:=by
    unfold jb;rw[Ps,hq,Xd];simp
   have e2:jb es P h=jb es (P.take (j+1)) h++jb es (P.drop (j+1)) h:=by unfold jb;rw[<- Xd,Tk]
   have fj:(jb es (P.take (j+1)) h).length<=900:=by
    rw[e2,Pm] at fw;lia
   rw[ej,Pm,O0] at fj;cbv;refine⟨B.ty,?_⟩;cbv;refine⟨p,xs,es,h,rfl,B.same _ _ (A.same _ _ hp),rx.same (A.same.trans B.same),le,λr H5 A5=>?_⟩;have hr:H5 r=some (.lst ((ni (dR es h)).map V.int)):=AccZ.ints (by unfold ni;rw[Qz];exact A5);have lf:((ni (dR es h)).map V.int).length=(dR es h).length:=by unfold ni;rw[O0,O0]
   refine rP (SqL.of hr) ?_;refine df (xs:=(ni (dR es h)).map V.int) λE nE=>⟨λm H6=>Acc K H5 E H6 ((((dR es h).take m).map λk=>q++[k]).map Fw),by simpa using Acc.start nE,λm H6 _ C=>SqL.of (C.same _ _ hr),?_,?_⟩
   .intro m z H6 hz C;have lm:=(O3.mp hz).1
    obtain⟨n,en,rfl⟩:∃n,(dR es h)[m]?=some n/\z=.int (n:Int):=by
     unfold ni at hz;rw[O4,O4] at hz;cases e:(dR es h)[m]? with
     |none=>rw[e] at hz;cases hz
     |some n=>rw[e] at hz;exact⟨n,rfl,(PD hz).symm⟩
    have hc6:=C.same _ _ (A5.same _ _ (B.same _ _ hc));cbv;refine⟨gA,λl2 n2=>?_⟩;have S7:=ak n2 (.lst [.int (n:Int)]);have h7:upd H6 l2 (.lst [.int (n:Int)]) l2=some (.lst [.int (n:Int)]):=ag;have hc7:=S7 _ _ hc6;generalize upd H6 l2 (.lst [.int (n:Int)])=H7 at S7 h7 hc7 ⊢;refine⟨c,l2,_,_,rfl,rfl,hc7,h7,by rw[O0,Sv];unfold ni;rw[O0];show q.length+1<=_;lia,λl3 n3=>?_⟩;have S8:=S7.trans (ak n3 (.lst ((ni q).map V.int++[.int (n:Int)])));have h8:upd H7 l3 (.lst ((ni q).map V.int++[.int (n:Int)])) l3=some (.lst ((ni (q++[n])).map V.int)):=by unfold ni;rw[O_,O_];exact ag
    have n36:=S7.free n3;generalize upd H7 l3 (.lst ((ni q).map V.int++[.int (n:Int)]))=H8 at S8 h8 ⊢;refine a6 lm ?_;refine C.cI S8 (d:=Fw (q++[n])) (vA n36 h8) (au (by rw[O0,O0,Px];lia)) λH9 C9=>?_
    show Acc K H5 E H9 ((((dR es h).take (m+1)).map λk=>q++[k]).map Fw);rw[Ps,en,O_,O_];exact C9
   .intro H6 C;rw[lf,Pc (Pa _)] at C;obtain⟨zs,hz,rz⟩:=C.at_;have B6:=(B.on A5.same).on C.same
    have lB:H4 l≠none:=by
     obtain⟨ys,h1,_⟩:=B.at_;rw[h1];exact λz=>by cases z
    cbv;refine Acc.ext B6 hz (rz.mono λa z=>⟨B.same.free (A5.same.free z.1),λe=>lB (by rw[<- e];exact A5.same.free z.1)⟩) (by rw[O0,O0,O0];lia) λH7 B7=>?_
    refine⟨_,rfl,?_⟩;rw[ej,O_];exact B7
  .rintro σ H4 ⟨u5,rfl,B⟩;have lt:ts.length=P.length:=by rw[rt.length,O0]
   rw[lt,Pc (Pa _)] at B;cbv;refine⟨l,_,_,_,rfl,?_⟩;rw[yE eh,hP];obtain⟨zs,hz,rz⟩:=B.at_;exact⟨A.same.trans B.same,A.same.free B.new,zs,hz,rz.mono λ_ z=>⟨A.same.free z.1,z.2⟩⟩
 .rintro σ H2 ⟨t,u3,u4,u5,rfl,A⟩;rw[Pc (by unfold ni;rw[O0,O0];exact Pa _)] at A;cbv;exact k t H2 A
def Ex{K:Fg}(h:SqT K H a xs)(S:Same H H'):SqT K H' a xs:=by
 rcases h with(h|⟨o,h⟩)|h
 .exact .inl (.inl (S _ _ h))
 .exact .inl (.inr ⟨o,S _ _ h⟩)
 .exact .inr h
def QV.same{K:Fg}(h:QV K H v x)(S:Same H H'):QV K H' v x:=by
 obtain⟨a,e,ha⟩:=h;exact⟨a,e,Ex ha S⟩
def oU{i:Nat}{x:V}(hx:((ni hs).map V.int)[i]?=some x):∃h,hs[i]?=some h/\x=.int (h:Int):=by
 unfold ni at hx;rw[O4,O4] at hx;cases e:hs[i]? with
 |none=>rw[e] at hx;cases hx
 |some h=>rw[e] at hx;exact⟨h,rfl,(PD hx).symm⟩
def bQ(hs:List Nat):((ni hs).map V.int).length=hs.length:=by unfold ni;rw[O0,O0]
abbrev kd(ps:List (Nat×Nat)):List (a7×V):=ps.map λq=>((.inl (q.1:Int):a7),V.int (q.2:Int))
abbrev lk(ps:List (Nat×Nat))(h:Nat):Nat:=((ps.find? λq=>q.1 == h).map (·.2)).getD 0
def zx:∀(ps:List (Nat×Nat)) (h:Nat),bK (kd ps) (.inl (h:Int))=(ps.find? λq=>q.1 == h).map λq=>V.int (q.2:Int)
 |[],h=>rfl
 |q :: ps,h=>by
  show bK (((.inl (q.1:Int):a7),V.int (q.2:Int)) :: kd ps) (.inl (h:Int))=_;rw[RG];by_cases e:q.1=h
  .rw[bD (by rw[e]),show(q.1 == h)=true by simpa using e];rfl
  .rw[bj (λz=>e (by have:=Uf z;lia)),show(q.1 == h)=false by simpa using e];exact zx ps h
def NC{ps:List (Nat×Nat)}{h:Nat}(m:h∈ps.map (·.1)):bK (kd ps) (.inl (h:Int))=↥(lk ps h:Int):=by
 rw[zx];unfold lk;cases e:ps.find? λq=>q.1 == h with
 |none =>
  obtain⟨q,hq,e2⟩:=Pl.mp m
  have:=VF.mp e q hq
  simp[e2] at this
 |some q=>rfl
def Ll{ps:List (Nat×Nat)}{a b:Nat}(n:a∉ps.map (·.1)):cc (kd ps) (.inl (a:Int)) (.int (b:Int))=kd (ps++[(a,b)]):=by
 have z:bK (kd ps) (.inl (a:Int))=none:=by
  rw[zx,VF.mpr]
  .rfl
  .intro q hq e;exact n (Pl.mpr ⟨q,hq,by simpa using e⟩)
 unfold cc;rw[eT,z];show kd ps++[_]=_;unfold kd;rw[O_];rfl
abbrev prs(es:List (Nat×Nat))(ks:List Nat)(r:Nat):List (Nat×Nat):=(r,r) :: ks.map λk=>(fro es k,tow es k)
abbrev TD(ps:List (Nat×Nat))(r:Nat):Prop:=∀q∈ps,c6 (lk ps) ps.length q.1=r
abbrev xF(K:Fg):Sp:=λvs H Q _=>∃(p b:Addr) (xs:List V) (es:List (Nat×Nat)) (ks:List Nat) (r:Nat),vs=[.ref p,.ref b,.int (r:Int)]/\H p=some (.lst xs)/\RzL K H xs (es.map dP)/\H b=some (.lst ((ni ks).map V.int))/\ks.length<=100/\(∀k∈ks,k<es.length)/\((prs es ks r).map (·.1)).Nodup/\(∀q∈prs es ks r,q.2∈(prs es ks r).map (·.1)) /\
 (TD (prs es ks r) r->∀H',Same H H'->Q (.bl true) H')/\(¬ TD (prs es ks r) r->∀H',Same H H'->Q (.bl false) H')
def Nz{ps:List (Nat×Nat)}(cl:∀q∈ps,q.2∈ps.map (·.1)){h:Nat}(m:h∈ps.map (·.1)):lk ps h∈ps.map (·.1):=by
 unfold lk;cases e:ps.find? λq=>q.1 == h with
 |none =>
  obtain⟨q,hq,e2⟩:=Pl.mp m
  have:=VF.mp e q hq
  simp[e2] at this
 |some q=>exact cl q (List.mem_of_find?_eq_some e)
nonrec abbrev BF(K:Fg):TS:=(aq (a5 (cx K (b_ yo (ae (aa 3) aj))) (al 5)
 (aq (av (aa 5) (al 6))
 (aq (a5 (cw (ae (b_ J6 (ae (aa 3) aj)) aj)) (al 7)
 (av (qH (aa 3) (aa 6)) (al 6)))
 (a8 (aR (ar EK (aa 6) (aa 2)))
 (aI (tC (.bl false)))
 bw))))
 (aI (tC (.bl true))))
abbrev wj(K:Fg):TS:=(aq (av (Go [((aa 2),(aa 2))]) (al 3))
 (aq (a5 (cx K (aa 1)) (al 4)
 (oz (aa 3) (ar (aD K) (ar (bY K) (aa 0) (aa 4)) (tC (.int 0))) (ar (aD K) (ar (bY K) (aa 0) (aa 4)) (tC (.int 1)))))
 (BF K)))
def GS{K:Fg}:ρ 8 (xF K) (wj K):=by
 fail "R";obtain⟨p,b,xs,es,ks,r,rfl,hp,rx,hb,lk_,lt,nd,cl,kyes,kno⟩:=h;rw[L2.aP hN];walk_at "t";have lx:xs.length=es.length:=by rw[rx.length,O0]
 unfold wj;cbv;intro rd nr;have T1:=ak nr (.dK []);unfold iK;cbv;unfold iK;refine⟨ag,[(.inl (r:Int),.int (r:Int))],rfl,by show 1<=15;decide,?_⟩
 have S1:Same H (upd (upd H rd (.dK [])) rd (.dK (dF [] [(.inl (r:Int),.int (r:Int))]))):=λc o q=>by
  rw[aE (aw q nr)];exact T1 _ _ q
 have d1:upd (upd H rd (.dK [])) rd (.dK (dF [] [(.inl (r:Int),.int (r:Int))])) rd=some (.dK (kd (prs es (ks.take 0) r))):=ag;generalize upd (upd H rd (.dK [])) rd (.dK (dF [] [(.inl (r:Int),.int (r:Int))]))=H1 at S1 d1 ⊢;cbv;refine ig (SqL.of (S1 _ _ hb)) ?_;refine bn (xs:=(ni ks).map V.int) (λi σ H2=>∃u4:Option V,σ=[⇑p,⇑b,↥(r:Int),⇑rd,u4,none,none,none]/\Same H H2/\H2 rd=some (.dK (kd (prs es (ks.take i) r)))) ⟨none,rfl,S1,d1⟩ (by rintro i σ H2 _ ⟨_,_,S,_⟩;exact SqL.of (S _ _ hb)) ?_ ?_
 .rintro i x σ H2 hx ⟨u4,rfl,S2,d2⟩;obtain⟨k,ek,rfl⟩:=oU hx;have lk2:=lt k (O7 ek);obtain⟨e,he⟩:∃e,es[k]?=some e:=⟨_,O1 lk2⟩
  obtain⟨f1,f2⟩:=zW he;obtain⟨z,ez⟩:∃z,xs[k]?=some z:=⟨_,O1 (by lia)⟩
  obtain⟨d,g1,g2⟩:=rx.get ez;rw[O4,he] at g1;cases g1;obtain⟨pb,rfl,hpb⟩:=An (g2.same S2);have li:i<ks.length:=(O3.mp ek).1
  have ee:prs es (ks.take (i+1)) r=prs es (ks.take i) r++[(e.1,e.2)]:=by
   unfold prs;rw[Ps,ek,O_,<- f1,<- f2];rfl
  have nk:e.1∉(prs es (ks.take i) r).map (·.1):=by
   have n2:((prs es (ks.take (i+1)) r).map (·.1)).Nodup:=by
    refine nd.sublist ?_;unfold prs;exact((Um (i+1) ks).map _).cons_cons _ |>.map _
   rw[ee,O_,Tq] at n2;exact λm=>n2.2.2 _ m _ O8 rfl
  cbv;refine cf (SqL.of (S2 _ _ hp)) (aO ez) ?_;cbv;refine aG (SqT.of hpb) (v:=.int (e.2:Int)) rfl ?_;cbv;refine cf (SqL.of (S2 _ _ hp)) (aO ez) ?_;cbv;refine aG (SqT.of hpb) (v:=.int (e.1:Int)) rfl ?_;refine⟨rd,_,rfl,(DPut.k d2 (au (by unfold kd prs;rw[O0,P7,O0,Px];lia)):DPut H2 rd (kV (.inl (e.1:Int))) _ _),?_⟩;refine⟨_,rfl,λc o q=>?_,?_⟩
  .rw[aE (aw q nr)];exact S2 c o q
  .rw[ag,ee,Ll nk]
 rintro σ H2 ⟨u4,rfl,S2,d2⟩;rw[bQ,Pc (Pa _)] at d2;have lp:(prs es ks r).length<=101:=by unfold prs;rw[P7,O0];lia
 generalize prs es ks r=ps at d2 nd cl kyes kno lp;have lkd:(kd ps).length=ps.length:=O0 _;cbv;refine⟨rd,_,rfl,d2,λl nl=>?_⟩;have el:((kd ps).map λkv=>kV kv.1)=(ni (ps.map (·.1))).map V.int:=by unfold kd ni;rw[Qz,Qz,Qz];rfl
 rw[el];have S3:=S2.trans (ak nl (.lst ((ni (ps.map (·.1))).map V.int)));have d3:=ak nl (.lst ((ni (ps.map (·.1))).map V.int)) _ _ d2;have h3:upd H2 l (.lst ((ni (ps.map (·.1))).map V.int)) l=some (.lst ((ni (ps.map (·.1))).map V.int)):=ag;generalize upd H2 l (.lst ((ni (ps.map (·.1))).map V.int))=H3 at S3 d3 h3 ⊢;refine ig (SqL.of h3) ?_;refine bn (xs:=(ni (ps.map (·.1))).map V.int) (λi σ H4=>∃u5 u6 u7:Option V,σ=[⇑p,⇑b,↥(r:Int),⇑rd,u4,u5,u6,u7]/\H4=H3/\∀m,m<i->∀h,(ps.map (·.1))[m]?=some h->c6 (lk ps) ps.length h=r) ⟨none,none,none,rfl,rfl,λm hm=>absurd hm (Rq _)⟩ (λi σ H4 _ ⟨_,_,_,_,e,_⟩=>by rw[e];exact SqL.of h3) ?_ ?_
 .rintro i x σ H4 hx ⟨u5,u6,u7,rfl,rfl,dn⟩;obtain⟨h,eh,rfl⟩:=oU hx;have mh:=O7 eh;cbv;refine⟨rd,_,rfl,d3,?_⟩;rw[lkd];refine⟨_,rfl,by lia,by lia,?_⟩;rw[Qc];refine aW (λm σ H5=>∃u7:Option V,σ=[⇑p,⇑b,↥(r:Int),⇑rd,u4,↥(h:Int),some (.int (c6 (lk ps) m h:Int)),u7]/\H5=H4) ⟨_,rfl,rfl⟩ ?_ ?_
  .rintro m σ H5 hm ⟨u7,rfl,rfl⟩;have mm:c6 (lk ps) m h∈ps.map (·.1):=pf (λx hx=>Nz cl hx) mh m;cbv;refine⟨rd,_,rfl,(by have:=(DGet.k d3:DGet H5 rd (kV (.inl (c6 (lk ps) m h:Int))) _);rw[NC mm] at this;exact this),?_⟩;cbv;exact⟨_,rfl,rfl⟩
  .rintro σ H5 ⟨u7,rfl,rfl⟩;cbv;refine gW (λc=>?_) (λc=>?_)
   .cbv;refine kno (λt=>c ?_) H5 S3;obtain⟨q,hq,e⟩:=Pl.mp mh
    have:=t q hq
    rw[e] at this;rw[this]
   .cbv;refine⟨_,_,_,rfl,rfl,λm hm h' e'=>?_⟩;rcases Vl m i with z|z
    .exact dn m z h' e'
    .rw[show m=i by lia,eh] at e';cases e';lia
 .rintro σ H4 ⟨u5,u6,u7,rfl,rfl,dn⟩;rw[bQ] at dn;cbv;refine kyes (λq hq=>?_) H4 S3;have m1:q.1∈ps.map (·.1):=Pl.mpr ⟨q,hq,rfl⟩;obtain⟨m,hm⟩:=P_ m1;exact dn m (O3.mp hm).1 q.1 hm
open Fr
def E_{α β:Type}(g:α->β)(f:β->Rat):∀l:List α,ls (l.map g) f=ls l λx=>f (g x)
 |[]=>rfl
 |a :: l=>by rw[Qn,aV,aV,E_ g f l]
def ky{α:Type}(f:α->Rat):∀l m:List α,ls (l++m) f=ls l f+ls m f
 |[],m=>by rw[So,oX,Vk]
 |a :: l,m=>by rw[V4,aV,aV,ky f l m,Rat.add_assoc]
def zf{α β:Type}(g:α->List β)(f:β->Rat):∀l:List α,ls (l.flatMap g) f=ls l λx=>ls (g x) f
 |[]=>rfl
 |a :: l=>by rw[List.flatMap_cons,ky,aV,zf g f l]
section
variable{es:List (Nat×Nat)}{pc:Nat->Rat}
def K8{h:Nat}{hs:List Nat}(n:h∉hs):hs.map (up g h k)=hs.map g:=Q3 λx hx=>if_neg λe:x=h=>n (by rw[<- e];exact hx)
def EV(G:List Nat->Rat):∀{hs:List Nat} (acc:List (List Nat)),hs.Nodup->ls (hs.foldl (jb es) acc) G=ls acc λa=>T (dR es) hs λg=>G (a++hs.map g)
 |[],acc,_=>aQ λa _=>by show G a=G (a++[]);rw[RW]
 |h :: hs,acc,nd=>by
  obtain⟨n1,n2⟩:=Qf.mp nd;rw[U2,EV G (jb es acc h) n2];unfold jb;rw[zf];refine aQ λa _=>?_
  rw[E_];refine aQ λk _=>Et λg=>?_
  show G (a++[k]++hs.map g)=G (a++(h :: hs).map (up g h k));rw[Qn,K8 n1,show up g h k h=k from if_pos rfl,QF];rfl
abbrev pq(pc:Nat->Rat)(q:List Nat):Rat:=q.foldl (λx k=>x*pc k) 1
def Hz:∀(q:List Nat) (x:Rat),q.foldl (λx k=>x*pc k) x=x*pq pc q
 |[],x=>(Q4 x).symm
 |k :: q,x=>by
  unfold pq;rw[U2,U2,Hz q,Hz q,RH,Qg]
def EO(g:Nat->Nat):∀hs:List Nat,pq pc (hs.map g)=bH pc g hs
 |[]=>rfl
 |h :: hs=>by
  show(hs.map g).foldl (λx k=>x*pc k) (1*pc (g h))=pc (g h)*bH pc g hs;rw[Hz,EO g hs,RH]
def Fh{f f':Nat->Nat}{L:List Nat}(hf:∀h∈L,f h∈L)(e:∀h∈L,f h=f' h){x:Nat}(hx:x∈L):∀n,c6 f n x=c6 f' n x
 |0=>rfl
 |n+1=>by
  show f (c6 f n x)=f' (c6 f' n x);rw[e _ (pf hf hx n),Fh hf e hx n]
def pE{g:Nat->Nat}{h:Nat}:∀{hs:List Nat},h∈hs->((hs.map λx=>(x,g x)).find? λq=>q.1 == h)=some (h,g h)
 |[],m=>by cases m
 |x :: hs,m=>by
  rw[Qn,RG];by_cases e:x=h
  .rw[show((x,g x).1 == h)=true by simpa using e,e]
  .rw[show((x,g x).1 == h)=false by simpa using e];exact pE ((Py.mp m).resolve_left λz=>e z.symm)
def yw{hs:List Nat}{g:Nat->Nat}(v:∀h∈hs,g h∈dR es h)(r:Nat):prs es (hs.map g) r=(r,r) :: hs.map λh=>(h,tow es (g h)):=by
 unfold prs;rw[Qz];congr 1;refine Q3 λh hh=>?_
 have:=(PQ.mp (v h hh)).2
 show(fro es (g h),tow es (g h))=_;rw[show fro es (g h)=h by simpa using this]
def fM{h:Nat}:h∈bX L r↔h∈L/\h≠r:=by unfold bX;rw[PQ];simp
def NA{g:Nat->Nat}(v:∀h∈bX L r,g h∈dR es h){h:Nat}(hh:h∈L):lk (prs es ((bX L r).map g) r) h=cQ (λh=>tow es (g h)) r h:=by
 rw[yw v];unfold lk cQ;rw[RG];by_cases e:h=r
 .rw[if_pos e,show((r,r).1 == h)=true by simpa using e.symm];rfl
 .rw[if_neg e,show((r,r).1 == h)=false by simpa using λz=>e z.symm,pE (g:=λh=>tow es (g h)) (fM.mpr ⟨hh,e⟩)];rfl
def mf{L:List Nat}(nd:L.Nodup){r:Nat}(hr:r∈L):(bX L r).length+1=L.length:=by
 have:=(ma nd hr).length_eq
 rw[P7] at this;exact this.symm
def Oc{L:List Nat}{g:Nat->Nat}(cl:∀k,k<es.length->(fro es k∈L↔tow es k∈L))(v:∀h∈bX L r,g h∈dR es h){h:Nat}(hh:h∈bX L r):tow es (g h)∈L:=by
 obtain⟨m1,m2⟩:=PQ.mp (v h hh);exact(cl _ (PJ.mp m1)).mp (by rw[show fro es (g h)=h by simpa using m2];exact(fM.mp hh).1)
def AQ{L:List Nat}(nd:L.Nodup){r:Nat}(hr:r∈L)(cl:∀k,k<es.length->(fro es k∈L↔tow es k∈L)){g:Nat->Nat}(v:∀h∈bX L r,g h∈dR es h):TD (prs es ((bX L r).map g) r) r↔Tree (λh=>tow es (g h)) L r:=by
 have lp:(prs es ((bX L r).map g) r).length=L.length:=by
  rw[<- mf nd hr];unfold prs;rw[P7,O0,O0]
 have st:∀h∈L,cQ (λh=>tow es (g h)) r h∈L:=λh hh=>by
  unfold cQ;by_cases e:h=r
  .rw[if_pos e];exact hr
  .rw[if_neg e];exact Oc cl v (fM.mpr ⟨hh,e⟩)
 have ie:∀h∈L,c6 (lk (prs es ((bX L r).map g) r)) L.length h=c6 (cQ (λh=>tow es (g h)) r) L.length h:=λh hh=>(Fh st (λx hx=>(NA v hx).symm) hh _).symm
 unfold TD Tree;rw[lp];constructor
 .intro t h hh;rw[<- ie h hh];by_cases e:h=r
  .have:=t (r,r) (by unfold prs;exact O8)
   rw[e];exact this
  .have:=t (h,tow es (g h)) (by rw[yw v];exact O9 _ (Pl.mpr ⟨h,fM.mpr ⟨hh,e⟩,rfl⟩))
   exact this
 .intro t q hq;rw[yw v] at hq;rcases Py.mp hq with rfl|hq
  .rw[ie r hr];exact t r hr
  .obtain⟨h,hh,rfl⟩:=Pl.mp hq
   have:=(fM.mp hh).1
   show c6 _ _ h=r;rw[ie h this];exact t h this
open Classical in
def I0{L:List Nat}(nd:L.Nodup){r:Nat}(hr:r∈L)(cl:∀k,k<es.length->(fro es k∈L↔tow es k∈L)):ls (pk es (bX L r)) (λq=>if TD (prs es q r) r then pq pc q else 0)=W es pc L r:=by
 have ndo:(bX L r).Nodup:=nd.filter _;unfold pk;rw[EV _ _ ndo,aV,oX,RN];refine sE ndo λg v=>?_
 rw[So,EO];by_cases t:Tree (λh=>tow es (g h)) L r
 .rw[if_pos t,if_pos ((AQ nd hr cl v).mpr t)]
 .rw[if_neg t,if_neg λz=>t ((AQ nd hr cl v).mp z)]
def tI:∀{hs:List Nat} {acc:List (List Nat)} {q:List Nat},q∈hs.foldl (jb es) acc->∃a∈acc,∃ks:List Nat,q=a++ks/\ks.map (fro es)=hs/\∀k∈ks,k<es.length
 |[],acc,q,h=>⟨q,h,[],(RW q).symm,rfl,λk hk=>by cases hk⟩
 |x :: hs,acc,q,h=>by
  obtain⟨a,ha,ks,e1,e2,e3⟩:=tI (hs:=hs) (acc:=jb es acc x) h;obtain⟨a0,ha0,hm⟩:=Ym.mp ha;obtain⟨k,hk,rfl⟩:=Pl.mp hm;obtain⟨m1,m2⟩:=PQ.mp hk;refine⟨a0,ha0,k :: ks,by rw[e1,QF];rfl,by rw[Qn,e2,show fro es k=x by simpa using m2],λj hj=>?_⟩;rcases Py.mp hj with rfl|hj
  .exact PJ.mp m1
  .exact e3 j hj
end
abbrev Sml(D M:Nat)(x:Rat):Prop:=∃m:Int,x*((D:Int):Rat)=(m:Rat)/\m.natAbs<=M
def Sml.add(a:Sml D M x)(b:Sml D N y):Sml D (M+N) (x+y):=by
 obtain⟨m,e,l⟩:=a;obtain⟨n,f,k⟩:=b;refine⟨m+n,by rw[Rat.add_mul,e,f,Rat.intCast_add],?_⟩;exact Pj (Ts m n) (YV l k)
def Sml.mul(a:Sml D M x)(b:Sml E N y):Sml (D*E) (M*N) (x*y):=by
 obtain⟨m,e,l⟩:=a;obtain⟨n,f,k⟩:=b;refine⟨m*n,?_,by rw[P2];exact PX l k⟩;rw[Te,<- e,<- f,Qj,Te]
 grind
def Sml.up{E N:Nat}(a:Sml D M x)(h:M*E<=N):Sml (D*E) N x:=by
 obtain⟨m,e,l⟩:=a;refine⟨m*(E:Int),by rw[Te,<- e,Qj,Te,Qg],?_⟩;rw[P2];exact Pj (Qe _ l) h
def Sml.zero(D M:Nat):Sml D M 0:=⟨0,by rw[Vm];rfl,Ql _⟩
def Sml.one{D M:Nat}(h:D<=M):Sml D M 1:=⟨(D:Int),RH _,h⟩
def Sml.bits(a:Sml D M x)(d0:0<D):x.num.natAbs<=M/\x.den<=D:=by
 obtain⟨m,e,l⟩:=a
 have dn:((D:Int):Rat)≠0:=by
  intro z
  have:=WF.mp (show(((D:Int):Int):Rat)=((0:Int):Rat) from z)
  lia
 have ex:x=PH m (D:Int):=by
  rw[RE,<- e,Rat.mul_div_cancel dn]
 have L:=Gd.oZ (t:=m) (b:=(D:Int)) (d:=Gd.gd m (D:Int)) (by lia) (.inl ⟨rfl,by lia⟩);have A:=Gd.mH (t:=m) (b:=(D:Int)) (d:=Gd.gd m (D:Int)) (by lia) (.inl ⟨rfl,by lia⟩);obtain⟨e1,e2⟩:=cX (by lia) L;rw[e1,e2,<- ex] at A;exact⟨Pj A.1 l,by have:=A.2;lia⟩
abbrev bW(ts:List Tn)(k:Nat):Rat:=match ts[k]? with
 |some t=>PH t.q t.d
 |none=>1
abbrev Pd:List Tn->Nat
 |[]=>1
 |t :: ts=>t.d.natAbs*Pd ts
abbrev cr(ts:List Tn):Prop:=∀t∈ts,ga t.q t.d
def jE:∀{ts:List Tn},cr ts->0<Pd ts
 |[],_=>SE
 |t :: ts,h=>by
  have:=(h t O8).2.1
  exact Qa (by lia) (jE λx hx=>h x (O9 _ hx))
def Jb:∀{ts:List Tn},cr ts->Pd ts<=(10 ^ 10) ^ ts.length
 |[],_=>Pa _
 |t :: ts,h=>by
  have h1:=(h t O8).2.1;have h2:=(h t O8).2.2.2.2;show t.d.natAbs*Pd ts<=(10 ^ 10) ^ (ts.length+1);rw[QW,Qv];exact PX (Jb λx hx=>h x (O9 _ hx)) (by lia)
def FG:∀{ts:List Tn} {t:Tn},t∈ts->t.d.natAbs∣Pd ts
 |x :: ts,t,m=>by
  rcases Py.mp m with rfl|m
  .exact VT _ _
  .exact Xn (FG m) (Nat.dvd_mul_left _ _)
def EY(pa:cr ts){k:Nat}(hk:k<ts.length):Sml (Pd ts) (10 ^ 10*Pd ts) (bW ts k):=by
 obtain⟨t,ht⟩:∃t,ts[k]?=some t:=⟨_,O1 hk⟩
 have mt:=O7 ht;obtain⟨q0,d0,_,ql,_⟩:=pa t mt;obtain⟨c,hc⟩:=FG mt;have e:bW ts k=PH t.q t.d:=by unfold bW;rw[ht]
 have dn:((t.d:Int):Rat)≠0:=by
  intro z
  have:=WF.mp (show((t.d:Int):Rat)=((0:Int):Rat) from z)
  lia
 refine⟨t.q*(c:Int),?_,?_⟩
 .have e2:((Pd ts:Nat):Int)=t.d*(c:Int):=by
   rw[hc,Qj];congr 1;lia
  rw[e,e2,RE,Te,Te,<- Qg,VG dn]
 .rw[P2,hc];have h1:1<=t.d.natAbs:=by lia
  refine PX (by lia) ?_;show c<=t.d.natAbs*c;exact QN _ h1
def yz{ks:List Nat}{i k:Nat}(e:ks[i]?=some k):pq pc (ks.take (i+1))=pq pc (ks.take i)*pc k:=by
 unfold pq;rw[Ps,e,Rh];rfl
def EN{ts:List Tn}(pa:cr ts){ks:List Nat}(hk:∀k∈ks,k<ts.length):∀i,i<=ks.length->Sml (Pd ts ^ i) ((10 ^ 10*Pd ts) ^ i) (pq (bW ts) (ks.take i))
 |0,_=>by
  rw[TL,TL];exact Sml.one (Pa _)
 |i+1,h=>by
  obtain⟨k,ek⟩:∃k,ks[i]?=some k:=⟨_,O1 h⟩
  rw[yz ek,QW,QW];exact(EN pa hk i (by lia)).mul (EY pa (hk k (O7 ek)))
abbrev DD(ts:List Tn):Nat:=Pd ts ^ 7
abbrev MM(ts:List Tn):Nat:=(10 ^ 10*Pd ts) ^ 7
def ES(pa:cr ts){ks:List Nat}(hk:∀k∈ks,k<ts.length)(l7:ks.length<=7):Sml (DD ts) (MM ts) (pq (bW ts) ks):=by
 have h:=EN pa hk ks.length (Pa _);rw[QC] at h
 have:=h.up (E:=Pd ts ^ (7-ks.length)) (N:=MM ts) (by
  unfold MM
  rw[show 7=ks.length+(7-ks.length) by lia,QU,show ks.length+(7-ks.length)-ks.length=7-ks.length by lia]
  exact PU _ (SN (QN _ (by decide)) _))
 rw[<- QU,show ks.length+(7-ks.length)=7 by lia] at this;exact this
def eU(pa:cr ts)(t8:ts.length<=8)(h:Sml D M x)(d0:0<D)(hD:D<=Pd ts ^ 8)(hM:M<=10000*(10 ^ 10*Pd ts) ^ 8):Bq 3900 x:=by
 obtain⟨h1,h2⟩:=h.bits d0;have pl:Pd ts<=10 ^ 80:=Pj (Jb pa) (by rw[<- VU];exact Ph (by decide) (by lia));have p8:Pd ts ^ 8<=(10 ^ 80) ^ 8:=SN pl 8;have q8:(10 ^ 10*Pd ts) ^ 8<=(10 ^ 10*10 ^ 80) ^ 8:=SN (PU _ pl) 8;have z1:(10 ^ 80) ^ 8<2 ^ 3900:=by decide
 have z2:10000*(10 ^ 10*10 ^ 80) ^ 8<2 ^ 3900:=by decide
 exact⟨Pk (Pj h1 (Pj hM (PU _ q8))) z2,Pk (Pj h2 (Pj hD p8)) z1⟩
def yA(pa:cr ts)(t8:ts.length<=8){ks:List Nat}(hk:∀k∈ks,k<ts.length)(l7:ks.length<=7)(i:Nat):Bq 3900 (pq (bW ts) (ks.take i)):=by
 have h:=ES (ks:=ks.take i) pa (λk ZQ=>hk k (QP ZQ)) (by rw[Px];lia);have p1:=jE pa;refine eU pa t8 h (Qy p1) (Ph p1 (by decide)) ?_;unfold MM;exact Pj (Ph (Qa (by decide) p1) (by decide)) (QN _ (by decide))
def yN(pa:cr ts)(t8:ts.length<=8){k:Nat}(hk:k<ts.length):Bq 3900 (bW ts k):=by
 have p1:=jE pa;refine eU pa t8 (EY pa hk) p1 (Va (by decide) _) ?_;exact Pj (Va (by decide) _) (QN _ (by decide))
def E1(pa:cr ts){k:Nat}{t:Tn}(ht:ts[k]?=some t):dI [t.q,t.d]=dQ (bW ts k):=by
 obtain⟨_,d0,g,_,_⟩:=pa t (O7 ht);obtain⟨e1,e2⟩:=cX (t:=t.q) (b:=t.d) (q:=t.q) (d:=t.d) (by lia) ⟨d0,g,rfl⟩;unfold dQ;have e:bW ts k=PH t.q t.d:=by unfold bW;rw[ht]
 rw[e,<- e1,<- e2]
abbrev xJ(K:Fg):Sp:=λvs H Q _=>∃(c b:Addr) (xs:List V) (ts:List Tn) (ks:List Nat),vs=[.ref c,.ref b]/\H c=some (.tup xs)/\RzL K H xs (ts.map dT)/\H b=some (.lst ((ni ks).map V.int))/\(∀k∈ks,k<ts.length)/\cr ts/\ts.length<=8/\ks.length<=7/\∀(v:V) (H':Hp),Same H H'->QV K H' v (pq (bW ts) ks)->Q v H'
abbrev wC(K:Fg)(oq:Addr):TS:=(aq (av (tC (.ref oq)) (al 2))
 (aq (a5 (cx K (aa 1)) (al 3)
 (av (aC (iF K) [] E0 (ae (aa 2) (ae (ar (aD K) (ar (aD K) (aa 0) (aa 3)) (tC (.int 2))) aj))) (al 2)))
 (aI (aa 2))))
def GX{K:Fg}(one:∀H:Hp,SqT K H oq [.int 1,.int 1]){vs:List V}{H:Hp}{N:List Str}(hN:N.length=4)(h:xJ K vs H Q E):wC K oq (ends Q) (L2.start N vs) H:=by
 obtain⟨c,b,xs,ts,ks,rfl,hc,rx,hb,hk,pa,t8,l7,k⟩:=h;rw[L2.aP hN];walk_at "t";have lx:xs.length=ts.length:=by rw[rx.length,O0]
 unfold wC;cbv;refine ig (SqL.of hb) ?_;refine bn (xs:=(ni ks).map V.int) (λi σ H2=>∃(v:V) (u3:Option V),σ=[⇑c,⇑b,some v,u3]/\Same H H2/\QV K H2 v (pq (bW ts) (ks.take i))) ⟨.ref oq,none,rfl,Same.refl _,oq,rfl,one H⟩ (by rintro i σ H2 _ ⟨_,_,_,S,_⟩;exact SqL.of (S _ _ hb)) ?_ ?_
 .rintro i x σ H2 hx ⟨v,u3,rfl,S2,qv⟩;obtain⟨m,em,rfl⟩:=oU hx;have lm:=hk m (O7 em);obtain⟨t,ht⟩:∃t,ts[m]?=some t:=⟨_,O1 lm⟩
  obtain⟨z,ez⟩:∃z,xs[m]?=some z:=⟨_,O1 (by lia)⟩
  obtain⟨d,g1,g2⟩:=rx.get ez;rw[O4,ht] at g1;cases g1;obtain⟨pt_,z1,z2,z3,rfl,hpt,_,_,q3⟩:=kc (g2.same S2);rw[E1 pa ht] at q3;cbv;refine aG (SqT.of (S2 _ _ hc)) (v:=.ref pt_) (aO ez) ?_;cbv;refine aG (SqT.of hpt) (v:=z3) rfl ?_;cbv;refine⟨v,z3,_,_,rfl,qv,QV.of q3,yA pa t8 hk l7 i,yN pa t8 lm,λp H3 S3 r3=>?_⟩;cbv;refine⟨_,_,rfl,S2.trans S3,?_⟩;rw[yz em];exact QV.of r3
 .rintro σ H2 ⟨v,u3,rfl,S2,qv⟩;rw[bQ,QC] at qv;cbv;exact k v H2 S2 qv
def ug{α:Type}{p q:α->Bool}:∀l:List α,(∀x∈l,p x=true->q x=false)->(l.filter p).length+(l.filter q).length=(l.filter λx=>p x || q x).length
 |[],_=>rfl
 |a :: l,h=>by
  have ih:=ug l λx hx=>h x (O9 _ hx)
  have ha:=h a O8;cases e1:p a <;> cases e2:q a
  .rw[QI (by rw[e1];decide),QI (by rw[e2];decide),QI (by rw[e1,e2];decide)];exact ih
  .rw[QI (by rw[e1];decide),QX e2,QX (by rw[e1,e2];rfl),P7,P7];lia
  .rw[QX e1,QI (by rw[e2];decide),QX (by rw[e1];rfl),P7,P7];lia
  .rw[ha e1] at e2;cases e2
abbrev qJ(es:List (Nat×Nat)):List Nat->Nat
 |[]=>0
 |h :: hs=>(dR es h).length+qJ es hs
def xo(es:List (Nat×Nat)):∀{hs:List Nat},hs.Nodup->qJ es hs<=((Pi es.length).filter λk=>hs.contains (fro es k)).length
 |[],_=>Ql _
 |h :: hs,nd=>by
  obtain⟨n1,n2⟩:=Qf.mp nd;have ih:=xo es n2
  have e:=ug (p:=λk=>fro es k == h) (q:=λk=>hs.contains (fro es k)) (Pi es.length) λk _ hk=>by
   have:fro es k=h:=by simpa using hk
   rw[this];simpa using n1
  have e2:(λk=>(fro es k == h) || hs.contains (fro es k))=λk=>(h :: hs).contains (fro es k):=funext λk=>by rw[List.contains_cons]
  rw[e2] at e;show(dR es h).length+qJ es hs<=_;unfold dR;lia
def yF{es:List (Nat×Nat)}:∀(hs:List Nat) (acc:List (List Nat)),(hs.foldl (jb es) acc).length<=acc.length*2 ^ qJ es hs
 |[],acc=>by show acc.length<=acc.length*2 ^ 0;lia
 |h :: hs,acc=>by
  refine Pj (yF hs (jb es acc h)) ?_
  have l1:(jb es acc h).length=acc.length*(dR es h).length:=by
   unfold jb;rw[List.length_flatMap];clear yF
   induction acc with
   |nil=>rw[Vf,List.sum_nil,T_,TK]
   |cons a acc ih=>rw[Qn,List.sum_cons,ih,O0,P7,Sx,Vg]
  rw[l1,show qJ es (h :: hs)=(dR es h).length+qJ es hs from rfl,QU,<- P9];exact Qe _ (PU _ (Rx Nat.lt_two_pow_self))
def tJ{es:List (Nat×Nat)}(e8:es.length<=8){hs:List Nat}(nd:hs.Nodup)(i:Nat):(pk es (hs.take i)).length<=900:=by
 have h1:=yF (es:=es) (hs.take i) [[]];have h2:=xo es (nd.sublist (Um i hs));have h3:=QT (λk=>(hs.take i).contains (fro es k)) (Pi es.length);rw[PN] at h3;have h4:2 ^ qJ es (hs.take i)<=2 ^ 8:=Ph (by decide) (by lia);have h5:[([]:List Nat)].length=1:=rfl;unfold pk;rw[h5] at h1;lia
open Classical in
abbrev wq (es:List (Nat×Nat)) (ts:List Tn) (r:Nat) (q:List Nat):Rat:=if TD (prs es q r) r then pq (bW ts) q else 0
def zb{α:Type}{l:List α}{f:α->Rat}{j:Nat}{x:α}(e:l[j]?=some x):ls (l.take (j+1)) f=ls (l.take j) f+f x:=by
 rw[Ps,e,ky];show _+(f x+0)=_;rw[RN]
def vP{es:List (Nat×Nat)}{ts:List Tn}{r:Nat}(pa:cr ts):∀{l:List (List Nat)},(∀q∈l,(∀k∈q,k<ts.length)/\q.length<=7)->Sml (DD ts) (l.length*MM ts) (ls l (wq es ts r))
 |[],_=>Sml.zero _ _
 |q :: l,h=>by
  have h1:Sml (DD ts) (MM ts) (wq es ts r q):=by
   unfold wq;split
   .exact ES pa (h q O8).1 (h q O8).2
   .exact Sml.zero _ _
  rw[aV,P7,Sx,Vg];exact h1.add (vP pa λx hx=>h x (O9 _ hx))
def FT(pa:cr ts)(t8:ts.length<=8){l:List (List Nat)}(h:∀q∈l,(∀k∈q,k<ts.length)/\q.length<=7)(few:l.length<=900):Bq 3900 (ls l (wq es ts r)):=by
 have p1:=jE pa;refine eU pa t8 (vP pa h) (Qy p1) (Ph p1 (by decide)) ?_;unfold MM;exact PX (by lia) (Ph (Qa (by decide) p1) (by decide))
abbrev qN(K:Fg):Sp:=λvs H Q _=>∃(c p b:Addr) (ys xs:List V) (ts:List Tn) (es:List (Nat×Nat)) (L:List Nat) (r:Nat),vs=[.ref c,.ref p,.ref b,.int (r:Int)]/\H c=some (.tup ys)/\RzL K H ys (ts.map dT)/\H p=some (.lst xs)/\RzL K H xs (es.map dP)/\H b=some (.lst ((ni L).map V.int))/\es.length=ts.length/\ts.length<=8/\cr ts/\L.Nodup/\r∈L/\L.length<=8/\(∀k,k<es.length->(fro es k∈L↔tow es k∈L)) /\
 ∀(v:V) (H':Hp),Same H H'->QV K H' v (W es (bW ts) L r)->Q v H'
nonrec abbrev wg(K:Fg)(nq:Addr):TS:=(aq (a5 (cx K (aC (qS K) [] E0 (ae (aa 1) (ae (iN (cx K (aa 2)) 1 (al 0) (aR (ar EK (aa 0) (aa 4))) (aa 0)) aj)))) (al 5)
 (a8 (tB (aC (xF K) [] E0 (ae (aa 1) (ae (aa 5) (ae (aa 3) aj)))))
 (av (aC (qQ K) [] E0 (ae (aa 4) (ae (aC (Tr.xJ K) [] E0 (ae (aa 0) (ae (aa 5) aj))) aj))) (al 4))
 bw))
 (aI (aa 4)))
abbrev qi(K:Fg)(nq:Addr):TS:=(aq (av (tC (.ref nq)) (al 4))
 (wg K nq))
def Cy{K:Fg}(zero:∀H:Hp,SqT K H nq [.int 0,.int 1]){vs:List V}{H:Hp}{N:List Str}(hN:N.length=6)(h:qN K vs H Q E):qi K nq (ends Q) (L2.start N vs) H:=by
 obtain⟨c,p,b,ys,xs,ts,es,L,r,rfl,hc,ry,hp,rx,hb,et,t8,pa,nd,hr,l8,cl,k⟩:=h;rw[L2.aP hN];walk_at "t";have ndo:(bX L r).Nodup:=nd.filter _;have lo:=mf nd hr;unfold qi;cbv;refine⟨b,rfl,⟨_,SqL.of hb⟩,?_⟩;refine vE (xs:=(ni L).map V.int) λD nD=>⟨λj H2=>AccZ K H D H2 ((bX (L.take j) r).map dN),AccZ.start (Same.refl _) nD,λj H2 _ A=>SqL.of (A.same _ _ hb),?_,?_⟩
 .intro j x H2 hx A us hu;obtain⟨u0,rfl⟩:∃u,us=[u]:=RY.mp hu;have lj:=(O3.mp hx).1;obtain⟨h,eh,rfl⟩:=oU hx
  have er:bX (L.take (j+1)) r=bX (L.take j) r++[h].filter λx=>x != r:=by
   unfold bX;rw[Ps,eh,Tc];rfl
  have lr:(bX (L.take j) r).length<=8:=Pj (QT _ _) (by rw[Px];lia);cbv;refine⟨⟨[↥(h:Int)],rfl,rfl⟩,?_⟩;cbv;refine gW (λz=>?_) (λz=>?_)
  .have z':h≠r:=λe=>z (by rw[e])
   cbv;refine a6 lj ?_;refine A.cI (d:=dN h) (.int _) (au (by rw[O0];lia)) λH4 A4=>?_
   show AccZ K H D H4 ((bX (L.take (j+1)) r).map dN);rw[er,QX (by simpa using z'),O_];exact A4
  .have z':h=r:=by lia
   refine iG lj ?_;show AccZ K H D H2 ((bX (L.take (j+1)) r).map dN);rw[er,QI (by simpa using z')];simpa using A
 intro H2 A;rw[bQ,QC] at A;have hD:H2 D=some (.lst ((ni (bX L r)).map V.int)):=AccZ.ints (by unfold ni;rw[Qz];exact A);have S2:=A.same;cbv;refine⟨p,D,xs,es,bX L r,rfl,S2 _ _ hp,rx.same S2,by lia,hD,by lia,tJ (by lia) ndo,λq H3 A3=>?_⟩;have few:=tJ (es:=es) (by lia) ndo (bX L r).length;rw[QC] at few;obtain⟨zs,hz,rz⟩:=A3.at_;have lz:zs.length=(pk es (bX L r)).length:=by rw[rz.length,O0]
 have S3:=S2.trans A3.same
 have pkm:∀q∈pk es (bX L r),q.map (fro es)=bX L r/\∀k∈q,k<es.length:=λq hq=>by
  obtain⟨a,ha,ks,e1,e2,e3⟩:=tI hq;rw[Po.mp ha,So] at e1;rw[e1];exact⟨e2,e3⟩
 have pk7:∀q∈pk es (bX L r),(∀k∈q,k<ts.length)/\q.length<=7:=λq hq=>by
  obtain⟨e2,e3⟩:=pkm q hq
  have:=congrArg Rg e2
  rw[O0] at this;exact⟨λk hk=>by have:=e3 k hk;lia,by lia⟩
 have fin:ls (pk es (bX L r)) (wq es ts r)=W es (bW ts) L r:=I0 nd hr cl;rw[<- fin] at k;generalize pk es (bX L r)=P at rz lz few pkm pk7 k;refine ig (SqL.of hz) ?_;refine bn (xs:=zs) (λj σ H4=>∃(v:V) (u5:Option V),σ=[⇑c,⇑p,⇑b,↥(r:Int),some v,u5]/\Same H3 H4/\QV K H4 v (ls (P.take j) (wq es ts r))) ⟨.ref nq,none,rfl,Same.refl _,nq,rfl,zero H3⟩ (by rintro j σ H4 _ ⟨_,_,_,S,_⟩;exact SqL.of (S _ _ hz)) ?_ ?_
 .rintro j x σ H4 hx ⟨v,u5,rfl,S4,qv⟩;have lj:=(O3.mp hx).1;obtain⟨d,g1,g2⟩:=rz.get hx;rw[O4] at g1;obtain⟨w,hw,rfl⟩:=Pb.mp g1;obtain⟨a,rfl,_,ha⟩:=vB g2;have mw:=O7 hw;obtain⟨m1,m2⟩:=pkm w mw;obtain⟨m3,m4⟩:=pk7 w mw;have S04:=S3.trans S4
  have keys:(prs es w r).map (·.1)=r :: bX L r:=by
   unfold prs;rw[Qn,Qz,<- m1];rfl
  cbv;refine⟨p,a,xs,es,w,r,rfl,S04 _ _ hp,rx.same S04,S4 _ _ ha,by lia,m2,?_,?_,λtd H5 S5=>?_,λtd H5 S5=>?_⟩
  .rw[keys,Qf];exact⟨yP,ndo⟩
  .intro e he;rw[keys]
   have inL:∀h,h∈L->h∈r :: bX L r:=λh hh=>by
    by_cases q:h=r
    .rw[q];exact O8
    .exact O9 _ (fM.mpr ⟨hh,q⟩)
   rcases Py.mp (show e∈(r,r) :: w.map λk=>(fro es k,tow es k) from he) with rfl|he
   .exact O8
   .obtain⟨k,hk,rfl⟩:=Pl.mp he;refine inL _ ((cl k (m2 k hk)).mp ?_)
    have:fro es k∈w.map (fro es):=Pl.mpr ⟨k,hk,rfl⟩
    rw[m1] at this;exact(fM.mp this).1
  .cbv;refine⟨c,a,ys,ts,w,rfl,S5 _ _ (S04 _ _ hc),ry.same (S04.trans S5),S5 _ _ (S4 _ _ ha),m3,pa,t8,m4,λv2 H6 S6 qv2=>?_⟩;cbv;have fs:∀q∈P.take j,(∀k∈q,k<ts.length)/\q.length<=7:=λq hq=>pk7 q (QP hq)
   refine⟨v,v2,_,_,rfl,(qv.same S5).same S6,qv2,FT pa t8 fs (by rw[Px];lia),by have:=yA pa t8 m3 m4 w.length;rw[QC] at this;exact this,λp2 H7 S7 r7=>?_⟩;cbv;refine⟨_,_,rfl,S4.trans (S5.trans (S6.trans S7)),?_⟩;rw[zb hw,show wq es ts r w=pq (bW ts) w from if_pos td];exact QV.of r7
  .cbv;refine⟨_,_,rfl,S4.trans S5,?_⟩;rw[zb hw,show wq es ts r w=0 from if_neg td,RN];exact qv.same S5
 .rintro σ H4 ⟨v,u5,rfl,S4,qv⟩;rw[lz,QC] at qv;cbv;exact k v H4 (S3.trans S4) qv
open PySem L2 Fr G1 Sm Vs G2 Rk Sz Sf Rw Ti Lo
def a_{h:Nat}:h∈aJ f v↔h<f.length/\Lo.at_ f h=v:=by
 unfold aJ;rw[PQ,PJ,decide_eq_true_eq]
def cm(f:List Nat)(v:Nat):(aJ f v).Nodup:=TM.filter _
def fK:(aJ f v).length<=f.length:=by
 unfold aJ;exact Pj (QT _ _) (by rw[PN];exact Pa _)
def rZ{es:List (Nat×Nat)}{k:Nat}(h:k<es.length):(fro es k,tow es k)∈es:=by
 unfold fro tow;rw[O2,O1 h];exact Qx h
def d7(F:FI n es es f)(ok:MN n es)(v k:Nat)(hk:k<es.length):fro es k∈aJ f v↔tow es k∈aJ f v:=by
 have m:=rZ hk;have e:=F.one _ m;have o:=ok _ m;have o1:fro es k<n:=o.1;have o2:tow es k<n:=o.2;have e':Lo.at_ f (fro es k)=Lo.at_ f (tow es k):=e;rw[a_,a_,F.len,e'];constructor
 .exact λz=>⟨o2,z.2⟩
 .exact λz=>⟨o1,z.2⟩
def EX{L:List Nat}(l:List Nat)(nd:l.Nodup)(s:∀x∈l,x∈L):l.length<=L.length:=cq nd s
abbrev Wt (ts:List Tn) (h:Nat):Rat:=W (am ts) (bW ts) (aJ (aY (aF ts).length (am ts)) (Lo.at_ (aY (aF ts).length (am ts)) h)) h
abbrev kv(dv:List (Nat×V)):List (a7×V):=dv.map λq=>((.inl (q.1:Int):a7),q.2)
def zt:∀{dv:List (Nat×V)} {h:Nat},h∉dv.map (·.1)->bK (kv dv) (.inl (h:Int))=none
 |[],h,_=>rfl
 |q :: dv,h,n=>by
  show bK (((.inl (q.1:Int):a7),q.2) :: kv dv) (.inl (h:Int))=_;rw[bj λz=>n (by have:=Uf z;rw[Qn,show q.1=h by lia];exact O8)];exact zt λm=>n (O9 _ m)
def Ld{dv:List (Nat×V)}{h:Nat}(n:h∉dv.map (·.1)):cc (kv dv) (.inl (h:Int)) v=kv (dv++[(h,v)]):=by
 unfold cc;rw[eT,zt n];show kv dv++[_]=_;unfold kv;rw[O_];rfl
def Fb:∀{dv:List (Nat×V)} {h:Nat},h∈dv.map (·.1)->∃v,bK (kv dv) (.inl (h:Int))=some v/\(h,v)∈dv
 |[],h,m=>by cases m
 |q :: dv,h,m=>by
  by_cases e:q.1=h
  .refine⟨q.2,?_,by rw[<- e];exact O8⟩;show bK (((.inl (q.1:Int):a7),q.2) :: kv dv) (.inl (h:Int))=_;rw[bD (by rw[e])]
  .obtain⟨v,h1,h2⟩:=Fb (dv:=dv) (h:=h) ((Py.mp m).resolve_left λz=>e z.symm);refine⟨v,?_,O9 _ h2⟩;show bK (((.inl (q.1:Int):a7),q.2) :: kv dv) (.inl (h:Int))=_;rw[bj λz=>e (by have:=Uf z;lia)];exact h1
def QV.put{K:Fg}{de:List (a7×V)}(h:QV K H v x)(hd:H rd=some (.dK de)):QV K (upd H rd o) v x:=by
 obtain⟨a,e,ha⟩:=h;refine⟨a,e,?_⟩;rcases ha with(ha|⟨u,ha⟩)|ha
 .exact .inl (.inl (by rw[aE λz=>by rw[z,hd] at ha;cases ha];exact ha))
 .exact .inl (.inr ⟨u,by rw[aE λz=>by rw[z,hd] at ha;cases ha];exact ha⟩)
 .exact .inr ha
abbrev Kp(H H':Hp):Prop:=∀c o,H c=some o->(∀de,o≠.dK de)->H' c=some o
def Kp.on(k:Kp H H1)(S:Same H1 H2):Kp H H2:=λc o e n=>S _ _ (k c o e n)
def Kp.put{de:List (a7×V)}(k:Kp H H1)(hd:H1 rd=some (.dK de)):Kp H (upd H1 rd o):=λc o' e n=>by
 have:=k c o' e n
 rw[aE λz=>by rw[z,hd] at this;exact n de (PD this).symm];exact this
def Kp.lst{H H1:Hp}(k:Kp H H1){c:Addr}{xs:List V}(h:H c=some (.lst xs)):H1 c=some (.lst xs):=k _ _ h λ_ z=>by cases z
def Kp.tup{H H1:Hp}(k:Kp H H1){c:Addr}{xs:List V}(h:H c=some (.tup xs)):H1 c=some (.tup xs):=k _ _ h λ_ z=>by cases z
def Kp.rz{K:Fg}(k:Kp H H1)(h:RzL K H xs ds):RzL K H1 xs ds:=h.agr ⟨λ_ _ e=>k.tup e,λ_ _ z=>z.elim⟩
structure DI (K:Fg) (ts:List Tn) (H H3:Hp) (rd:Addr) (ks:List Nat) (H4:Hp):Prop where
 same:Same H H4
 keep:Kp H3 H4
 dict:∃dv:List (Nat×V),H4 rd=some (.dK (kv dv))/\dv.map (·.1)=ks/\∀q∈dv,QV K H4 q.2 (Wt ts q.1)
abbrev qM(K:Fg):Sp:=λvs H Q _=>∃(v:V) (ws:List Str) (ts:List Tn),vs=[v]/\Rz K H v (dV ws ts)/\ts.length<=8/\(aF ts).length<=8/\cr ts/\∀(p:Addr) (H':Hp) (xs:List V),H p=none->Same H H'->H' p=some (.lst xs)->xs.length=(aF ts).length->(∀i x,xs[i]?=some x->QV K H' x (Wt ts i))->Q (.ref p) H'
nonrec abbrev wf(K:Fg):TS:=(aq (a5 (cx K (aC (tf K) [] E0 (ae (aa 0) aj))) (al 3)
 (a5 (cx K (aa 3)) (al 4)
 (oz (aa 2) (aa 4) (aC (qN K) [] E0 (ae (ar (aD K) (aa 0) (tC (.int 1))) (ae (aa 1) (ae (aa 3) (ae (aa 4) aj))))))))
 (aI (fE (cw (ae (b_ J6 (ae (aa 2) aj)) aj)) (qH (aa 3) (aa 0)))))
abbrev qh(K:Fg):TS:=(aq (av (aC (iT K) [] E0 (ae (aa 0) aj)) (al 1))
 (aq (av EG (al 2))
 (wf K)))
def Cw{K:Fg}:ρ 5 (qM K) (qh K):=by
 fail "R";obtain⟨v,ws,ts,rfl,rv,t8,h8,pa,k⟩:=h;have rv0:=rv;obtain⟨a,v1,v2,rfl,ha,_,r2⟩:=si rv;obtain⟨c,ys,rfl,hc,ry⟩:=r2.cF;rw[L2.aP hN];walk_at "t";have ok:=bO ts;have le:(am ts).length=ts.length:=by unfold am;rw[O0]
 have F:=bR ok;unfold qh;cbv;refine⟨.ref a,ws,ts,rfl,rv0,by lia,λpe H1 A1=>?_⟩;obtain⟨xs,hpe,rx⟩:=A1.at_;have S1:=A1.same;cbv;intro rd nr;have S2:=S1.trans (ak nr (.dK []));have d2:upd H1 rd (.dK []) rd=some (.dK (kv [])):=ag;have hpe2:=ak nr (.dK []) _ _ hpe;have rx2:=rx.same (ak nr (.dK []));have nrH:H rd=none:=S1.free nr;generalize upd H1 rd (.dK [])=H2 at S2 d2 hpe2 rx2 ⊢;cbv;refine⟨.ref a,ws,ts,rfl,rv0.same S2,t8,h8,λlp H3 S3 r3=>?_⟩;obtain⟨lp',zs,elp,_,hl,rz⟩:=Rp.kx r3;cases elp;unfold cO at rz;have lz:zs.length=(ff (aY (aF ts).length (am ts))).length:=by rw[rz.length,O0,O0]
 have hW:∀h,Wt ts h=W (am ts) (bW ts) (aJ (aY (aF ts).length (am ts)) (Lo.at_ (aY (aF ts).length (am ts)) h)) h:=λ_=>rfl
 generalize aY (aF ts).length (am ts)=f at F rz lz hW;generalize (aF ts).length=n at F ok h8 k;have fl:=F.len;have hpe3:=S3 _ _ hpe2;have rx3:=rx2.same S3;have hc3:=S3 _ _ (S2 _ _ hc);have ry3:=(ry.same S2).same S3;have ha3:=S3 _ _ (S2 _ _ ha)
 have lo:∀i L,(ff f)[i]?=some L->∃v,((Pi f.length).filter λv=>Lo.at_ f v=v)[i]?=some v/\L=aJ f v:=λi L e=>by
  unfold ff at e;rw[O4] at e;obtain⟨v,h1,h2⟩:=Pb.mp e;exact⟨v,h1,h2.symm⟩
 have vnd:((Pi f.length).filter λv=>Lo.at_ f v=v).Nodup:=TM.filter _;generalize hV:(Pi f.length).filter (λv=>Lo.at_ f v=v)=Vs at lo vnd;have D0:DI K ts H H3 rd [] H3:=⟨S2.trans S3,λ_ _ e _=>e,[],S3 _ _ d2,rfl,λq hq=>by cases hq⟩
 let Dn:Nat->List Nat->Prop:=λi ks=>ks.Nodup/\∀h,h∈ks↔h<n/\∃m,m<i/\Vs[m]?=some (Lo.at_ f h)
 have Dn0:Dn 0 []:=⟨RB,λh=>⟨(λz=>by cases z),(by rintro ⟨_,m,hm,_⟩;exact absurd hm (Rq _))⟩⟩
 refine ig (SqL.of hl) ?_;refine bn (xs:=zs) (λi σ H4=>∃(u3 u4:Option V) (ks:List Nat),σ=[⇑a,⇑pe,⇑rd,u3,u4]/\DI K ts H H3 rd ks H4/\Dn i ks) ⟨none,none,[],rfl,D0,Dn0⟩ (by rintro i σ H4 _ ⟨_,_,_,_,D,_⟩;exact SqL.of (D.keep.lst hl)) ?_ ?_
 .rintro i x σ H4 hx ⟨u3,u4,ks,rfl,D,dn⟩;have li:=(O3.mp hx).1;obtain⟨d,g1,g2⟩:=rz.get hx;rw[O4,O4] at g1;cases eL:(ff f)[i]? with
  |none=>rw[eL] at g1;cases g1
  |some L =>
   rw[eL] at g1;cases g1;obtain⟨b,rfl,_,hb⟩:=vB g2;obtain⟨w,ew,rfl⟩:=lo i L eL;have hb':H3 b=some (.lst ((ni (aJ f w)).map V.int)):=hb;cbv;refine ig (SqL.of (D.keep.lst hb')) ?_;refine bn (xs:=(ni (aJ f w)).map V.int) (λj σ H5=>∃(u4:Option V),σ=[⇑a,⇑pe,⇑rd,⇑b,u4]/\DI K ts H H3 rd (ks++(aJ f w).take j) H5) ⟨u4,rfl,by simpa using D⟩ (by rintro j σ H5 _ ⟨_,_,D⟩;exact SqL.of (D.keep.lst hb')) ?_ ?_
   .rintro j x σ H5 hx5 ⟨u4,rfl,D5⟩;obtain⟨h,eh,rfl⟩:=oU hx5;have mh:=O7 eh;obtain⟨hn,ah⟩:=a_.mp mh
    have nk:h∉ks++(aJ f w).take j:=by
     intro m;rcases Pz.mp m with m|m
     .obtain⟨_,t,ht,et⟩:=(dn.2 h).mp m;rw[ah] at et;have l1:=(O3.mp et)
      have l2:=(O3.mp ew)
      have:=(SO (h₀:=l1.1) (h₁:=l2.1) vnd).mp (by rw[l1.2,l2.2])
      lia
     .obtain⟨t,et⟩:=P_ m
      have tj:t<j:=by
       have:=(O3.mp et).1
       rw[Px] at this;lia
      rw[VX tj] at et;have l1:=(O3.mp et)
      have l2:=(O3.mp eh)
      have:=(SO (h₀:=l1.1) (h₁:=l2.1) (cm f w)).mp (by rw[l1.2,l2.2])
      lia
    cbv;refine aG (SqT.of (D5.keep.tup ha3)) (v:=.ref c) rfl ?_;cbv;refine⟨c,pe,b,ys,xs,ts,am ts,aJ f w,h,rfl,D5.keep.tup hc3,D5.keep.rz ry3,D5.keep.lst hpe3,D5.keep.rz rx3,D5.keep.lst hb',le,t8,pa,cm f w,mh,Pj fK (by lia),d7 F ok w,λv6 H6 S6 qv=>?_⟩;obtain⟨dv,q1,q2,q3⟩:=D5.dict;have d6:=S6 _ _ q1;have nkd:h∉dv.map (·.1):=by rw[q2];exact nk
    have ldv:dv.length<=100:=by
     have l1:(dv.map (·.1)).length<=(Pi n).length:=by
      refine cq ?_ λx hx=>?_
      .rw[q2];refine Tq.mpr ⟨dn.1,(cm f w).sublist (Um _ _),λx hx y hy e=>?_⟩;subst e;obtain⟨_,t,ht,et⟩:=(dn.2 x).mp hx
       have:=(a_.mp (QP hy)).2
       rw[this] at et;have l1:=(O3.mp et)
       have l2:=(O3.mp ew)
       have:=(SO (h₀:=l1.1) (h₁:=l2.1) vnd).mp (by rw[l1.2,l2.2])
       lia
      .rw[q2] at hx;rw[PJ];rcases Pz.mp hx with hx|hx
       .exact((dn.2 x).mp hx).1
       .have:=(a_.mp (QP hx)).1
        lia
     rw[O0,PN] at l1;lia
    cbv;refine⟨rd,_,rfl,(DPut.k d6 (au (by unfold kv;rw[O0];lia)):DPut H6 rd (kV (.inl (h:Int))) _ _),?_⟩;refine⟨_,rfl,λe o q=>?_,(D5.keep.on S6).put d6,dv++[(h,v6)],?_,?_,λq hq=>?_⟩
    .rw[aE (aw q nrH)];exact S6 _ _ (D5.same e o q)
    .rw[ag,Ld nkd]
    .rw[O_,q2,Ps,eh,QF];rfl
    .rcases Pz.mp hq with hq|hq
     .exact((q3 q hq).same S6).put d6
     .rw[Po.mp hq];refine QV.put ?_ d6;show QV K H6 v6 (Wt ts h);rw[hW h,ah];exact qv
   .rintro σ H5 ⟨u4,rfl,D5⟩;rw[bQ,QC] at D5;cbv;refine⟨_,_,_,rfl,D5,Tq.mpr ⟨dn.1,cm f w,λx hx y hy e=>?_⟩,λh=>?_⟩
    .subst e;obtain⟨_,t,ht,et⟩:=(dn.2 x).mp hx;rw[(a_.mp hy).2] at et;have l1:=(O3.mp et)
     have l2:=(O3.mp ew)
     have:=(SO (h₀:=l1.1) (h₁:=l2.1) vnd).mp (by rw[l1.2,l2.2])
     lia
    .rw[Pz,dn.2 h,a_,fl];constructor
     .rintro(⟨q1,m,hm,em⟩|⟨q1,q2⟩)
      .exact⟨q1,m,by lia,em⟩
      .exact⟨q1,i,by lia,by rw[q2];exact ew⟩
     .rintro⟨q1,m,hm,em⟩;rcases Vl m i with z|z
      .exact .inl ⟨q1,m,z,em⟩
      .rw[show m=i by lia,ew] at em;exact .inr ⟨q1,(PD em).symm⟩
 rintro σ H4 ⟨u3,u4,ks,rfl,D,dn⟩;obtain⟨dv,q1,q2,q3⟩:=D.dict
 have all:∀h,h∈ks↔h<n:=λh=>by
  rw[dn.2 h];refine⟨λz=>z.1,λz=>⟨z,?_⟩⟩
  have m:Lo.at_ f h∈Vs:=by
   rw[<- hV,PQ,PJ,decide_eq_true_eq,fl];exact⟨Pk (F.le h z) z,F.fix h z⟩
  obtain⟨t,et⟩:=P_ m;refine⟨t,?_,et⟩
  have:=(O3.mp et).1
  rw[lz];unfold ff;rw[O0,hV];exact this
 have lk2:ks.length=n:=by
  have l1:=cq (hs:=Pi n) dn.1 λx hx=>PJ.mpr ((all x).mp hx)
  have l2:=cq (hs:=ks) (TM (n:=n)) λx hx=>(all x).mpr (PJ.mp hx)
  rw[PN] at l1 l2;lia
 have ldv:(kv dv).length=n:=by
  unfold kv;rw[O0,<- lk2,<- q2,O0]
 cbv;refine⟨rd,_,rfl,q1,?_⟩;rw[ldv];refine⟨_,rfl,by lia,by lia,?_⟩;rw[Qc];refine c_ (n:=n) λE nE=>⟨λj H5=>∃us:List V,H5=upd H4 E (.lst us)/\us.length=j/\∀i x,us[i]?=some x->QV K H4 x (Wt ts i),⟨[],rfl,rfl,λi x e=>by cases e⟩,?_,?_⟩
 .rintro j H5 hj ⟨us,rfl,lu,qs⟩;rw[SD];have q15:=ak nE (.lst us) _ _ q1;obtain⟨v,e1,e2⟩:=Fb (dv:=dv) (h:=j) (by rw[q2];exact(all j).mpr hj);cbv;refine⟨rd,_,rfl,(by have:=(DGet.k q15:DGet _ rd (kV (.inl (j:Int))) _);rw[e1] at this;exact this),?_⟩;refine a6 hj ⟨us,ag,au (by lia),us++[v],?_,by rw[Pm,lu];rfl,λi x e=>?_⟩
  .funext z;unfold upd;by_cases w:z=E
   .rw[if_pos w,if_pos w]
   .rw[if_neg w,if_neg w,if_neg w]
  .rcases Vl i us.length with z|z
   .rw[Qu z] at e;exact qs i x e
   .have li:=(O3.mp e).1;rw[Pm,Rj] at li;have ei:i=us.length:=by lia
    subst ei;rw[QG (Pa _),XW] at e;cases e;rw[lu];exact q3 _ e2
 .rintro H5 ⟨us,rfl,lu,qs⟩;exact k E _ us (D.same.free nE) (D.same.trans (ak nE _)) ag lu λi x e=>(qs i x e).same (ak nE _)
abbrev gS(K:Fg):Sp:=λvs H Q _=>∃t b:Int,vs=[.int t,.int b]/\0<b/\t.natAbs<2 ^ 8000/\b.natAbs<2 ^ 8000/\∀(p:Addr) (q d:Int) (H':Hp),Same H H'->Gd.Low t b q d->q.natAbs<=t.natAbs->d.natAbs<=b.natAbs->Rz K H' (.ref p) (dI [q,d])->Q (.ref p) H'
def zh{K:Fg}{t b:Int}{Q:VK}(t0:0<t)(b0:0<b)(t1:t<=10000000000)(b1:b<=10000000000)(k:∀(p:Addr) (q d:Int) (H':Hp),Same H H'->ga q d->Rz K H' (.ref p) (dI [q,d])->Q (.ref p) H'):gS K [.int t,.int b] H Q E:=by
 have z:(10000000000:Nat)<2 ^ 8000:=PL (show(10000000000:Nat)<2 ^ 40 by decide) (Ph (by decide) (by decide));refine⟨t,b,rfl,b0,Pk (by lia) z,Pk (by lia) z,λp q d H' S L m1 m2 r=>k p q d H' S ⟨?_,L.pos,L.low,?_,?_⟩ r⟩
 .have w:=L.worth
  have:=L.pos
  by_cases z:0<q
  .exact z
  .have h1:q*b<=0:=Int.mul_nonpos_of_nonpos_of_nonneg (by lia) (by lia);have h2:0<t*d:=VW t0 L.pos;lia
 .lia
 .have:=L.pos
  lia
nonrec abbrev wB(K:Fg):TS:=(aI (aC (gS K) [] E0 (ae (ar aX (tC (.int 1)) (ar aS (aa 0) (ar rA (tC (.int 10)) (tC (.int 9))))) (ae (ar aX (tC (.int 1)) (ar aS (ar b9 (aa 0) (ar rA (tC (.int 10)) (tC (.int 9)))) (ar rA (tC (.int 10)) (tC (.int 9))))) aj))))
nonrec abbrev wA(K:Fg):TS:=(aq (a8 (aR (ar hJ (aa 1) (tC (.int 1))))
 (aI (aC (gS K) [] E0 (ae (ar aX (tC (.int 1)) (ar aS (aa 0) (tC (.int 6)))) (ae (ar aX (tC (.int 1)) (ar aS (ar b9 (aa 0) (tC (.int 6))) (tC (.int 5)))) aj))))
 bw)
 (wB K))
abbrev qr(K:Fg):TS:=(aq (a8 (aR (ar hJ (aa 1) (tC (.int 0))))
 (aI (be (ae (tC (.int 1)) (ae (tC (.int 1)) aj))))
 bw)
 (wA K))
def CG{K:Fg}:ρ 2 (iP K) (qr K):=by
 fail "R";obtain⟨a,b,rfl,k⟩:=h;rw[L2.aP hN];walk_at "t";unfold qr;cbv;refine a9 (λz=>?_) (λz=>?_)
 .cbv;refine⟨aM,λp np=>?_⟩;exact k p 1 1 _ (ak np _) ⟨by decide,by decide,Oi,by decide,by decide⟩ (.tup ag (RpL.ints [1,1]))
 cbv;refine a9 (λz=>?_) (λz=>?_)
 .cbv;exact zh (by lia) (by lia) (by lia) (by lia) k
 .cbv;rw[p9];cbv;rw[p9];cbv;rw[p9];cbv;exact zh (by lia) (by lia) (by lia) (by lia) k
def Mu(pa:cr ts)(t8:ts.length<=8)(h8:(aF ts).length<=8){h:Nat}(hh:h<(aF ts).length):Sml (DD ts) (900*MM ts) (Wt ts h):=by
 have ok:=bO ts;have F:=bR ok;have le:(am ts).length=ts.length:=by unfold am;rw[O0]
 unfold Wt;generalize aY (aF ts).length (am ts)=f at F;have nd:=cm f (Lo.at_ f h);have hr:h∈aJ f (Lo.at_ f h):=a_.mpr ⟨by rw[F.len];exact hh,rfl⟩;have ndo:(bX (aJ f (Lo.at_ f h)) h).Nodup:=nd.filter _;have few:=tJ (es:=am ts) (by lia) ndo (bX (aJ f (Lo.at_ f h)) h).length;rw[QC] at few;have lo:=mf nd hr;have l8:(aJ f (Lo.at_ f h)).length<=8:=Pj fK (by rw[F.len];exact h8);rw[<- I0 nd hr (d7 F ok _)]
 have s:=vP (es:=am ts) (r:=h) pa (l:=pk (am ts) (bX (aJ f (Lo.at_ f h)) h)) λq hq=>by
  obtain⟨a,ha,ks,e1,e2,e3⟩:=tI hq;rw[Po.mp ha,So] at e1
  have:=congrArg Rg e2
  rw[O0] at this;rw[e1];exact⟨λk hk=>by have:=e3 k hk;lia,by lia⟩
 obtain⟨m,e,l⟩:=s;exact⟨m,e,Pj l (Qe _ few)⟩
def Mq{j:Nat}(hj:j<(aF ts).length):ls ((Pi (am ts).length).filter λk=>tow (am ts) k == j) (λk=>bW ts k*Wt ts (fro (am ts) k))=ls ((Pi (am ts).length).filter λk=>fro (am ts) k == j) λk=>bW ts k*Wt ts (fro (am ts) k):=by
 have ok:=bO ts;have F:=bR ok;have hW:∀h,Wt ts h=W (am ts) (bW ts) (aJ (aY (aF ts).length (am ts)) (Lo.at_ (aY (aF ts).length (am ts)) h)) h:=λ_=>rfl
 generalize aY (aF ts).length (am ts)=f at F hW;generalize am ts=es at ok F hW;have nd:=cm f (Lo.at_ f j);have mj:j∈aJ f (Lo.at_ f j):=a_.mpr ⟨by rw[F.len];exact hj,rfl⟩;have b:=Ep (es:=es) (pc:=bW ts) nd mj (d7 F ok _) EX
 have e1:ls ((Pi es.length).filter λk=>tow es k == j) (λk=>bW ts k*Wt ts (fro es k))=ls ((Pi es.length).filter λk=>tow es k == j) λk=>bW ts k*W es (bW ts) (aJ f (Lo.at_ f j)) (fro es k):=aQ λk hk=>by
  obtain⟨m1,m2⟩:=PQ.mp hk;have m2':tow es k=j:=by simpa using m2
  have:=F.one _ (rZ (PJ.mp m1))
  have this':Lo.at_ f (fro es k)=Lo.at_ f (tow es k):=this;rw[hW,this',m2']
 have e2:ls ((Pi es.length).filter λk=>fro es k == j) (λk=>bW ts k*Wt ts (fro es k))=ls (dR es j) λk=>bW ts k*W es (bW ts) (aJ f (Lo.at_ f j)) j:=aQ λk hk=>by
  obtain⟨m1,m2⟩:=PQ.mp hk;rw[show fro es k=j by simpa using m2,hW]
 rw[e1,e2];exact b
def yj(h:Rch es a b):∃n,Pn es n a b:=by
 induction h with
 |refl=>exact⟨0,rfl⟩
 |@step x y _ m ih =>
  obtain⟨n,p⟩:=ih;obtain⟨k,hk⟩:=P_ m;obtain⟨e1,e2⟩:=zW hk;have lk:=(O3.mp hk).1
  have:=Pn.snoc (es:=es) (k:=k) lk (n:=n) (a:=a) (by rw[e1];exact p)
  rw[e2] at this;exact⟨n+1,this⟩
def pM{es:List (Nat×Nat)}(bk:∀e∈es,Rch es e.2 e.1)(h:Rch (io es) a b):Rch es a b:=by
 induction h with
 |refl=>exact .refl
 |@step x y _ m ih =>
  refine Rch.trans ih ?_;rcases Pz.mp m with m|m
  .exact .step .refl m
  .obtain⟨e,he,z⟩:=Pl.mp m;cases z;exact bk e he
def gL{x:Rat}:0<x.num↔0<x:=by
 constructor
 .intro h;have h1:=RS.mp (Int.le_of_lt h);have h2:x≠0:=λe=>by rw[e] at h;exact absurd h (by decide)
  grind
 .intro h;have h1:=RS.mpr (RO h)
  have h2:x.num≠0:=λe=>by
   have:=YC.mp e
   rw[this] at h;exact absurd h (by decide)
  lia
def EZ(pa:cr ts){k:Nat}(hk:k<ts.length):0<bW ts k:=by
 obtain⟨t,ht⟩:∃t,ts[k]?=some t:=⟨_,O1 hk⟩
 obtain⟨q0,d0,g,_,_⟩:=pa t (O7 ht);obtain⟨e1,e2⟩:=cX (t:=t.q) (b:=t.d) (q:=t.q) (d:=t.d) (by lia) ⟨d0,g,rfl⟩;have e:bW ts k=PH t.q t.d:=by unfold bW;rw[ht]
 rw[e];exact gL.mp (by rw[<- e1];exact q0)
def jC(pa:cr ts)(bk:∀e∈am ts,Rch (am ts) e.2 e.1){h:Nat}(hh:h<(aF ts).length):0<(Wt ts h).num:=by
 have ok:=bO ts;have F:=bR ok;have le:(am ts).length=ts.length:=by unfold am;rw[O0]
 refine gL.mpr ?_;unfold Wt;generalize aY (aF ts).length (am ts)=f at F;have mh:h∈aJ f (Lo.at_ f h):=a_.mpr ⟨by rw[F.len];exact hh,rfl⟩;refine Oy (cm f _) mh (d7 F ok _) EX (λk hk=>EZ pa (by lia)) λx hx=>?_
 obtain⟨x1,x2⟩:=a_.mp hx;rw[F.len] at x1;exact yj (pM bk ((F.tied x1 hh).mp x2))
end Tr
namespace Rd
end Rd
namespace Wq
end Wq
namespace Nv
end Nv
namespace Lk
open Rk Sf Ti Lo
def Ke(a b:List Int)(q:Nat):pt (a++b) q=if q<a.length then pt a q else pt b (q-a.length):=by
 unfold pt;rw[O2,List.getElem?_append];split
 .rw[O2]
 .rw[O2]
abbrev reps(f:List Nat):List Nat:=(Pi f.length).filter λv=>at_ f v=v
abbrev mk(Y:Nat->List Int)(f:List Nat)(h:Nat):List Int:=Y h++(reps f).map λv=>if at_ f h=v then 1 else 0
def DB{v:Nat}:v∈reps f↔v<f.length/\at_ f v=v:=by
 unfold reps;rw[PQ,PJ,decide_eq_true_iff]
end Lk
namespace Mb
open Rk Sz Sf Cl Mk Bo
def EH{R:List (List Int)}{y:List Int}{q:Nat}:∀t,Cb R y q t=sm t λj=>pt (R.getD j []) q*pt y j
 |0=>rfl
 |t+1=>by
  show Cb R y q t+pt y t*pt (R.getD t []) q=sm t (λj=>pt (R.getD j []) q*pt y j)+pt (R.getD t []) q*pt y t;rw[EH t,R3]
open Rk Sz Sf Cl Mk
end Mb
namespace Lc
open PySem L2 Fr G1 Sm Vs G2 Rk Sz Sf Rw Ti Lo
open PySem.W (Dat kqdOk)
abbrev j_(n:Nat)(M:List (List Int)):List Int:=M.map λl=>if (n:Int)∈l then 1 else 0
abbrev qT(K:Fg):Sp:=λvs H Q _=>∃(n:Nat) (u:V) (M:List (List Int)),vs=[.int (n:Int),u]/\Rp K (λ_=>True) H u (dM M)/\M.length<=100/\∀(p:Addr) (H':Hp),AccZ K H p H' ((j_ n M).map Qm)->Q (.ref p) H'
abbrev qt(K:Fg):TS:=(aI (fE (cx K (aa 1)) (JC (aR (ar (oC K false) (aa 1) (aa 0))) (tC (.int 1)) (tC (.int 0)))))
def tU{l:List Int}:Qm n∈l.map Qm↔n∈l:=by
 constructor
 .intro h;obtain⟨x,hx,e⟩:=Pl.mp h;cases e;exact hx
 .exact λh=>Pl.mpr ⟨n,h,rfl⟩
def CH{K:Fg}:ρ 2 (qT K) (qt K):=by
 fail "R";obtain⟨n,u,M,rfl,ru,hl,k⟩:=h;rw[L2.aP hN];walk_at "t";obtain⟨c,ys,rfl,_,hc,ry⟩:=Rp.kx ru;have ly:ys.length=M.length:=by rw[ry.length,O0]
 have lm:(j_ n M).length=M.length:=by unfold j_;rw[O0]
 unfold qt;cbv;refine rP (SqL.of hc) ?_;refine df (xs:=ys) λD nD=>⟨λj H2=>AccZ K H D H2 (((j_ n M).take j).map Qm),by simpa using AccZ.start (Same.refl _) nD,λj H2 _ A=>SqL.of (A.same _ _ hc),?_,?_⟩
 .intro j x H2 hx A;have lj:=(O3.mp hx).1;obtain⟨d,g1,g2⟩:=ry.get hx;rw[O4] at g1;obtain⟨l,hl2,rfl⟩:=Pb.mp g1;have ej:(j_ n M)[j]?=some (if (n:Int)∈l then 1 else 0):=by unfold j_;rw[O4,hl2];rfl
  have r2:=g2.same A.same;cbv;refine NY (d:=Qm (n:Int)) (ds:=l.map Qm) (.int _) r2.rep (λe he=>by obtain⟨b,_,rfl⟩:=Pl.mp he;rfl) rfl (λz=>?_) (λz=>?_)
  .have z':=tU.mp z;cbv;refine a6 lj ?_;refine A.cI (.int 1) (au (by rw[O0,Px];lia)) λH5 A5=>?_
   show AccZ K H D H5 (((j_ n M).take (j+1)).map Qm);rw[Ps,ej,O_,if_pos z'];exact A5
  .have z' : ¬ (n:Int)∈l:=λy=>z (tU.mpr y)
   cbv;refine a6 lj ?_;refine A.cI (.int 0) (au (by rw[O0,Px];lia)) λH5 A5=>?_
   show AccZ K H D H5 (((j_ n M).take (j+1)).map Qm);rw[Ps,ej,O_,if_neg z'];exact A5
 .intro H2 A;rw[Pc (by lia)] at A;exact k D H2 A
abbrev dm(ts:List Tn):List (List Int):=(Pi (aF ts).length).map λi=>(aF ts).getD i []++j_ i (cO ts)
abbrev qU(K:Fg):Sp:=λvs H Q _=>∃(v:V) (ws:List Str) (ts:List Tn) (w:Nat),vs=[v]/\Rz K H v (dV ws ts)/\Jg w ts/\(aF ts).length<=8/\(cO ts).length<=8/\Wide w (aF ts)/\Bi 2 (aF ts) /\
 ∀(p:Addr) (H':Hp),Same H H'->Rp K (λa=>H a=none) H' (.ref p) (dM (MU (dm ts)).makers)->Q (.ref p) H'
def f7(ts:List Tn):(dm ts).length=(aF ts).length:=by unfold dm;rw[O0,PN]
def DJ{i:Nat}(h:i<(aF ts).length):(dm ts)[i]?=some ((aF ts).getD i []++j_ i (cO ts)):=by unfold dm;rw[O4,Qs h];rfl
def kz(hw:Wide w (aF ts)):Wide (w+(cO ts).length) (dm ts):=λr hr=>by
 unfold dm at hr;obtain⟨i,hi,rfl⟩:=Pl.mp hr;rw[Pm];unfold j_;rw[O0,O2,O1 (PJ.mp hi),Wh,hw _ (Qx _)]
def o7(br:Bi 2 (aF ts)):Bi 2 (dm ts):=λr hr c hc=>by
 unfold dm at hr;obtain⟨i,hi,rfl⟩:=Pl.mp hr;rcases Pz.mp hc with y|y
 .rw[O2,O1 (PJ.mp hi),Wh] at y;exact br _ (Qx _) c y
 .unfold j_ at y;obtain⟨l,_,rfl⟩:=Pl.mp y;split <;> decide
nonrec abbrev wI(K:Fg):TS:=(aI (aC (lM K) [] E0 (ae (fS (ii K (ae (aC (gy K) [] E0 (ae (aa 0) aj)) aj)) 2 (cg K 2 (aT (al 0) (aT (al 1) ci))) (ar yp (b_ (fJ K) (ae (aa 1) aj)) (aC (qT K) [] E0 (ae (aa 0) (ae (aa 3) aj))))) aj)))
abbrev qu(K:Fg):TS:=(aq (av (aC (tf K) [] E0 (ae (aa 0) aj)) (al 1))
 (wI K))
def CI{K:Fg}:ρ 2 (qU K) (qu K):=by
 fail "R";obtain⟨v,ws,ts,w,rfl,rv,co,h8,l8,hw,br,k⟩:=h;rw[L2.aP hN];walk_at "t";unfold qu;have t8:=co.le;have w5:=co.w5;cbv;refine⟨v,ws,ts,rfl,rv,t8,h8,λp1 H1 S1 r1=>?_⟩;cbv;refine⟨v,ws,ts,rfl,rv.same S1,by lia,λp2 H2 A2=>?_⟩;obtain⟨xs,hp2,rx⟩:=A2.at_;have lx:xs.length=(aF ts).length:=by rw[rx.length,O0]
 have r2:Rp K (λ_=>True) H2 (.ref p1) (dM (cO ts)):=(r1.same A2.same).mono λ_ _=>trivial
 have S02:=S1.trans A2.same;cbv;refine⟨p2,_,rfl,SqL.of hp2,?_⟩;refine vD (xs:=xs) λD nD=>⟨λj H3=>Acc K H2 D H3 (((dm ts).take j).map dL),by simpa using Acc.start nD,λj H3 _ A=>SqL.of (A.same _ _ hp2),?_,?_⟩
 .rintro j x H3 T hx A nT us hu
  obtain⟨u0,u1,rfl⟩:∃u w,us=[u,w]:=ex2 hu
  have lj:=(O3.mp hx).1;have lj':j<(aF ts).length:=by lia
  obtain⟨d,g1,g2⟩:=rx.get hx;rw[O4,O1 lj'] at g1;cases g1;obtain⟨b,rfl,hb⟩:=bN (g2.same A.same);have eB:=DJ lj';rw[O2,O1 lj',Wh] at eB;have lr:(aF ts)[j].length=w:=hw _ (Qx _);generalize (aF ts)[j]=r at hb eB lr;have S3:=ak nT (.tup [.int (j:Int),.ref b]);have hT:upd H3 T (.tup [.int (j:Int),.ref b]) T=some (.tup [.int (j:Int),.ref b]):=ag;have hb3:=S3 _ _ hb;have A3:=A.on S3;generalize upd H3 T (.tup [.int (j:Int),.ref b])=H4 at S3 hT hb3 A3 ⊢;refine bI (SqT.of hT) rfl ?_;cbv;refine⟨⟨[↥(j:Int),⇑b],rfl,rfl⟩,?_⟩;cbv;refine zz (SqT.of hb3) λl nl=>?_
  have S5:=ak nl (.lst (r.map V.int));have hl5:upd H4 l (.lst (r.map V.int)) l=some (.lst (r.map V.int)):=ag;generalize upd H4 l (.lst (r.map V.int))=H5 at S5 hl5 ⊢;have S45:=A3.same.trans S5;cbv;refine⟨j,.ref p1,cO ts,rfl,r2.same S45,by lia,λm H6 A6=>?_⟩;have h6:=AccZ.ints A6;cbv;have lk:(j_ j (cO ts)).length=(cO ts).length:=by unfold j_;rw[O0]
  refine⟨l,m,_,_,rfl,rfl,A6.same _ _ hl5,h6,by rw[Sv,O0,O0];lia,λq nq=>?_⟩;have S7:=ak nq (.lst (r.map V.int++(j_ j (cO ts)).map V.int));have hq:upd H6 q (.lst (r.map V.int++(j_ j (cO ts)).map V.int)) q=some (.lst ((r++j_ j (cO ts)).map V.int)):=by rw[O_];exact ag
  have S47:=(S5.trans A6.same).trans S7;have nq4:H4 q=none:=(S5.trans A6.same).free nq;generalize upd H6 q (.lst (r.map V.int++(j_ j (cO ts)).map V.int))=H7 at S7 hq S47 ⊢;refine a6 lj ?_;refine A3.cI S47 (d:=dL (r++j_ j (cO ts))) (vA nq4 hq) (au (by rw[O0,Px];lia)) λH8 A8=>?_
  show Acc K H2 D H8 (((dm ts).take (j+1)).map dL);rw[Ps,eB,O_];exact A8
 .intro H3 A;have lB:=f7 ts;rw[Pc (by lia)] at A;cbv;refine⟨D,dm ts,w+(cO ts).length,2,rfl,M_ A,kz hw,by lia,by lia,o7 br,by decide,Mg (by lia),λq H4 S4 r4=>?_⟩;have S03:=S02.trans A.same;exact k q H4 (S03.trans S4) (r4.mono λ_ z=>S03.free z)
def t6{hs:List (List Int)}:∀(ts:List Tn) (l:List (List Int)),(∀t∈ts,t.fr∈hs/\t.to∈hs)->(∀x∈l,x∈hs)->∀x∈ik l ts,x∈hs
 |[],l,_,h,x,hx=>h x hx
 |t :: ts,l,ht,h,x,hx=>by
  have ins:∀(l:List (List Int)) (y:List Int),(∀x∈l,x∈hs)->y∈hs->∀x∈cK l y,x∈hs:=λl y h hy x hx=>by
   unfold cK at hx;split at hx
   .exact h x hx
   .rcases Pz.mp hx with z|z
    .exact h x z
    .rw[Po.mp z];exact hy
  have t0:=ht t O8;exact t6 ts (cK (cK l t.fr) t.to) (λu hu=>ht u (O9 _ hu)) (ins _ _ (ins _ _ h t0.1) t0.2) x hx
structure OC (w:Nat) (ts:List Tn):Prop where
 h8:(aF ts).length<=8
 l8:(cO ts).length<=8
 wide:Wide w (aF ts)
 bnd:Bi 2 (aF ts)
 to:∀t∈ts,t.to.length=w
def Oe(vo:nh ws ts):OC ws.length ts:=by
 obtain⟨hs,po,h8,tk⟩:=vo.turns;have sub:∀x∈aF ts,x∈hs:=t6 ts [] (λt ht=>⟨(tk.ok t ht).1,(tk.ok t ht).2.1⟩) λx h=>by cases h
 have n8:(aF ts).length<=8:=Pj (cq (pB ts) sub) h8;refine⟨n8,?_,λr hr=>(po.2 r (sub r hr)).1,λr hr c hc=>?_,λt ht=>(po.2 _ (tk.ok t ht).2.1).1⟩
 .unfold cO ff;rw[O0,O0];refine Pj (QT _ _) ?_;rw[PN,(bR (bO ts)).len];exact n8
 .have:=(po.2 r (sub r hr)).2 c hc
  show c.natAbs<4;lia
section
variable{ts:List Tn}{w:Nat}
def DA{i:Nat}(hi:i<(aF ts).length):j_ i (cO ts)=(Lk.reps (aY (aF ts).length (am ts))).map λv=>if at_ (aY (aF ts).length (am ts)) i=v then 1 else 0:=by
 have F:=bR (bO ts);unfold cO j_ ff Lk.reps;generalize aY (aF ts).length (am ts)=f at F;rw[Qz,Qz];refine Q3 λv _=>?_
 show(if (i:Int)∈zN (aJ f v) then (1:Int) else 0)=_
 have e:(i:Int)∈zN (aJ f v)↔at_ f i=v:=by
  unfold zN aJ;rw[Pl];constructor
  .rintro⟨a,ha,ea⟩
   have:a=i:=T8 ea
   subst this;simpa using(PQ.mp ha).2
  .intro h;exact⟨i,PQ.mpr ⟨PJ.mpr (by rw[F.len];exact hi),by simpa using h⟩,rfl⟩
 by_cases c:at_ f i=v
 .rw[if_pos (e.mpr c),if_pos c]
 .rw[if_neg λz=>c (e.mp z),if_neg c]
def DH(ts:List Tn):dm ts=(Pi (aF ts).length).map (Lk.mk (λh=>(aF ts).getD h []) (aY (aF ts).length (am ts))):=by
 unfold dm;refine Q3 λi hi=>?_
 rw[DA (PJ.mp hi)];rfl
def ju{x:List Int}(h:x∈aF ts):(aF ts).getD (ix (aF ts) x) []=x:=by rw[O2,DQ h];rfl
def LX(hw:Wide w (aF ts)){h:Nat}(hh:h<(aF ts).length):((aF ts).getD h []).length=w:=by
 rw[O2,O1 hh];exact hw _ (Qx _)
end
end Lc
namespace Wd
open PySem L2 Fr G1 Sm Vs Dn Rk
open PySem.W (Dat kqdOk)
abbrev Nn(n:Nat)(ts:List Tn):Prop:=∀t∈ts,t.fr.length=n/\t.to.length=n
def mQ{ts:List Tn}{k:Nat}{t:Tn}(h:ts[k]?=some t):(ts.map pr).getD k ([],[])=pr t:=by
 rw[O2,O4,h];rfl
abbrev xO(K:Fg):Sp:=λvs H Q _=>∃(v w:V) (t:Tn) (c:List Int),vs=[v,w]/\Rz K H v (dT t)/\Rz K H w (dI c)/\t.fr.length<=100/\∀H',Same H H'->Q (.bl (pJ (pr t) c)) H'
abbrev xh(K:Fg):TS:=(aI (b_ (Hq K) (ae (fS (pA K .T .T (ae (ar (aD K) (aa 0) (tC (.int 0))) (ae (aa 1) aj))) 2 (cg K 2 (aT (al 0) (aT (al 1) ci))) (ar Nd (aa 0) (aa 1))) aj)))
def Hd{K:Fg}:ρ 2 (xO K) (xh K):=by
 fail "R";obtain⟨v,w,t,c,rfl,rv,rw_,hl,k⟩:=h;obtain⟨a,w1,w2,w3,rfl,ha,q1,q2,_⟩:=kc rv;obtain⟨b,rfl,hb⟩:=bN rw_;obtain⟨f,rfl,hf⟩:=bN q1;rw[L2.aP hN];walk_at "t";unfold xh;have lz:(Q_ t.fr c).length=min t.fr.length c.length:=YB;cbv;refine aG (SqT.of ha) (v:=.ref f) rfl ?_;cbv;refine⟨f,b,_,_,rfl,SqT.of hf,SqT.of hb,?_⟩;have ml:min (t.fr.map V.int).length (c.map V.int).length=(Q_ t.fr c).length:=by rw[O0,O0,lz]
 refine um (xs:=t.fr.map V.int) (ys:=c.map V.int) λD nD=>⟨λi H2=>AccZ K H D H2 ((((Q_ t.fr c).take i).map λz=>decide (z.1<=z.2)).map Dat.bool),by simpa using AccZ.start (Same.refl _) nD,λi H2 _ A=>⟨SqT.of (A.same _ _ hf),SqT.of (A.same _ _ hb)⟩,?_,?_⟩
 .intro i x y H2 T e1 e2 A nT us hu
  obtain⟨u1,u2',rfl⟩:∃u0 u1,us=[u0,u1]:=ex2 hu
  rw[O4] at e1 e2;obtain⟨m1,f1,rfl⟩:=Pb.mp e1;obtain⟨m2,f2,rfl⟩:=Pb.mp e2;have ez:(Q_ t.fr c)[i]?=some (m1,m2):=by rw[RJ];exact⟨f1,f2⟩
  have li:i<(Q_ t.fr c).length:=(O3.mp ez).1;refine bI (SqT.of ag) rfl ?_;cbv;refine⟨⟨[↥m1,↥m2],rfl,rfl⟩,?_⟩;cbv;refine a6 (by rw[ml];exact li) ?_;refine(A.on (ak nT _)).cI (.bl (decide (m1<=m2))) (au (by rw[O0,O0,Px];lia)) λH4 A4=>?_
  show AccZ K H D H4 ((((Q_ t.fr c).take (i+1)).map λz=>decide (z.1<=z.2)).map Dat.bool);rw[Ps,ez,O_,O_];exact A4
 .intro H2 A;rw[ml,Pc (Pa _)] at A;cbv;refine LL A.bls ?_;have e:((Q_ t.fr c).map λz=>decide (z.1<=z.2)).all id=pJ (pr t) c:=by unfold pJ;rw[List.all_map];rfl
  rw[e];exact k H2 A.same
abbrev xN(K:Fg):Sp:=λvs H Q _=>∃(v w:V) (t:Tn) (c:List Int),vs=[v,w]/\Rz K H v (dT t)/\Rz K H w (dI c)/\t.fr.length=c.length/\t.to.length=c.length/\c.length<=100/\∀(p:Addr) (H':Hp),Same H H'->Rz K H' (.ref p) (dI (beh (pr t) c))->Q (.ref p) H'
def AI{t:Tn}{c:List Int}{i:Nat}{m1 m2 m3:Int}(f1:t.fr[i]?=some m1)(f2:t.to[i]?=some m2)(f3:c[i]?=some m3):(beh (pr t) c)[i]?=some (m3-m1+m2):=by
 have li:i<c.length:=(O3.mp f3).1;unfold beh;rw[O4,Qs li];show some (pt c i-pt t.fr i+pt t.to i)=_;unfold pt;rw[O2,f3,O2,f1,O2,f2];rfl
def AH(t:Tp)(c:List Int):(beh t c).length=c.length:=by unfold beh;rw[O0,PN]
abbrev w4(K:Fg):TS:=(aI (b_ (cz K) (ae (fS (DW K (ae (aa 1) (ae (ar (aD K) (aa 0) (tC (.int 0))) (ae (ar (aD K) (aa 0) (tC (.int 1))) aj)))) 3 (cg K 3 (aT (al 0) (aT (al 1) (aT (al 2) ci)))) (ar aX (ar hX (aa 0) (aa 1)) (aa 2))) aj)))
def G_{K:Fg}:ρ 2 (xN K) (w4 K):=by
 fail "R";obtain⟨v,w,t,c,rfl,rv,rw_,l1,l2,hl,k⟩:=h;obtain⟨a,w1,w2,w3,rfl,ha,q1,q2,_⟩:=kc rv;obtain⟨b,rfl,hb⟩:=bN rw_;obtain⟨f,rfl,hf⟩:=bN q1;obtain⟨g,rfl,hg⟩:=bN q2;rw[L2.aP hN];walk_at "t";unfold w4;have lb:=AH (pr t) c;cbv;refine Fc ?_;cbv;refine aG (SqT.of ha) (v:=.ref f) rfl ?_;cbv;refine aG (SqT.of ha) (v:=.ref g) rfl ?_;cbv;refine⟨b,f,g,_,_,_,rfl,SqT.of hb,SqT.of hf,SqT.of hg,?_⟩;refine pG (xs:=c.map V.int) (ys:=t.fr.map V.int) (zs:=t.to.map V.int) (m:=c.length) (O0 _) (by rw[O0];exact l1) (by rw[O0];exact l2) λD nD=>⟨λi H2=>AccZ K H D H2 (((beh (pr t) c).take i).map Qm),by simpa using AccZ.start (Same.refl _) nD,λi H2 _ A=>⟨SqT.of (A.same _ _ hb),SqT.of (A.same _ _ hf),SqT.of (A.same _ _ hg)⟩,?_,?_⟩
 .intro i x y u H2 T e1 e2 e3 A nT us hu
  obtain⟨u1,u2,u3,rfl⟩:∃u0 u1 u2,us=[u0,u1,u2]:=by
   match us,hu with
   |[u0,u1,u2],_=>exact⟨u0,u1,u2,rfl⟩
  rw[O4] at e1 e2 e3;obtain⟨m1,f1,rfl⟩:=Pb.mp e1;obtain⟨m2,f2,rfl⟩:=Pb.mp e2;obtain⟨m3,f3,rfl⟩:=Pb.mp e3;have li:i<c.length:=(O3.mp f1).1;have ec:=AI f2 f3 f1;refine bI (SqT.of ag) rfl ?_;cbv;refine⟨⟨[↥m1,↥m2,↥m3],rfl,rfl⟩,?_⟩;cbv;refine a6 li ?_;refine(A.on (ak nT _)).cI (.int _) (au (by rw[O0,Px];lia)) λH4 A4=>?_
  show AccZ K H D H4 (((beh (pr t) c).take (i+1)).map Qm);rw[Ps,ec,O_];exact A4
 .intro H2 A;rw[Pc (by lia)] at A;cbv;refine eG (SqL.of (AccZ.ints A)) λp np=>?_
  exact k p _ (A.same.trans (ak np _)) (.tup ag (RpL.ints _))
end Wd
namespace Tw
end Tw
namespace Tp2
end Tp2
namespace Md
end Md
namespace Tr2
end Tr2
namespace Cm
end Cm
namespace Cg
end Cg
namespace Bg
end Bg
namespace Gu
end Gu
namespace Tg
end Tg
local macro_rules | `(tactic| walk_at "d")=>`(tactic| repeat first|fail "1"|with_reducible first|refine L2.k_fld ?_|refine L2.k_sfld ?_|refine L2.k_mt ?_)
namespace Dk
open PySem L2 Fr G1 Sm Vs
open PySem.W (Dat kqdOk)
open Dn (pJ beh pr)
end Dk
namespace Dk
open PySem L2 Fr G1 Sm Vs
open PySem.W (Dat kqdOk)
open PySem L2 Fr G1 Sm Vs Dn Rk Wd
end Dk
namespace Dk
open PySem L2 Fr G1 Sm Vs Dn Rk Wd
open PySem.W (Dat kqdOk)
end Dk
namespace Dh
open PySem L2 Fr G1 Sm Vs Dk
open PySem.W (Dat kqdOk)
open Dn (pJ beh pr)
end Dh
namespace Dh
open PySem L2 Fr G1 Sm Vs Dk
open PySem.W (Dat kqdOk)
open PySem L2 Fr G1 Sm Vs Dk Dn Rk Wd
local macro_rules | `(tactic| walk_at "d")=>`(tactic| repeat first|fail "1"|with_reducible first|refine k_fld ?_|refine k_sfld ?_|refine k_mt ?_|refine k_bIf ?_|refine k_bMethA ?_|refine k_bSeq ?_|refine k_tryB ?_)
end Dh
namespace Pw
abbrev IsP(p:Nat):Prop:=2<=p/\∀d,d∣p->d=1\/d=p
def l9:∀{n:Nat},2<=n->∃p,IsP p/\p∣n:=by
 intro n
 induction n using Ss with
 |_ n ih =>
  intro h;by_cases c:∃d,d∣n/\d≠1/\d≠n
  .obtain⟨d,dv,d1,dn⟩:=c;have dp:0<d:=Nat.pos_of_dvd_of_pos dv (by lia);have dl:=RM (by lia) dv;obtain⟨p,pp,pd⟩:=ih d (by lia) (by lia);exact⟨p,pp,Xn pd dv⟩
  .refine⟨n,⟨h,λd dv=>?_⟩,X3 n⟩;by_cases d1:d=1
   .exact .inl d1
   .by_cases dn:d=n
    .exact .inr dn
    .exact absurd ⟨d,dv,d1,dn⟩ c
def IsP.dvd_mul{a b:Nat}(hp:IsP p)(h:p∣a*b):p∣a\/p∣b:=by
 rcases hp.2 (P4 p a) (UK p a) with g|g
 .exact .inr (Uw g h)
 .exact .inl (g ▸ X4 p a)
abbrev tk(d n:Nat):Nat×Nat:=if _h:2<=d/\0<n/\d∣n then ((tk d (n / d)).1+1,(tk d (n / d)).2) else (0,n)
termination_by n
decreasing_by all_goals exact Nat.div_lt_self _h.2.1 _h.1
abbrev bB(d n:Nat):Nat:=(tk d n).1
abbrev b7(d n:Nat):Nat:=(tk d n).2
def FZ{d n:Nat}(h : ¬ d∣n):tk d n=(0,n):=by
 rw[tk,dif_neg λz=>h z.2.2]
def jo{d n:Nat}(h : ¬ d∣n):bB d n=0:=by unfold bB;rw[FZ h]
def v0{d n:Nat}(hd:2<=d)(hn:0<n):tk d (d*n)=(bB d n+1,b7 d n):=by
 rw[tk,dif_pos ⟨hd,Qa (by lia) hn,VT d n⟩,Wi n (by lia:0<d)];rfl
def di{d n:Nat}(hd:2<=d)(hn:0<n):bB d (d*n)=bB d n+1:=by
 show(tk d (d*n)).1=_;rw[v0 hd hn]
def gt{d:Nat}(hd:2<=d):∀n,0<n->n=d ^ bB d n*b7 d n/\¬ d∣b7 d n:=by
 intro n
 induction n using Ss with
 |_ n ih =>
  intro hn;by_cases c:d∣n
  .obtain⟨m,rfl⟩:=c;have hm:0<m:=QY hn;have lt:m<d*m:=by have:=Qe m hd;lia
   obtain⟨a,b⟩:=ih m lt hm;have e:tk d (d*m)=(bB d m+1,b7 d m):=v0 hd hm;unfold bB b7;rw[e];refine⟨?_,b⟩;show d*m=d ^ (bB d m+1)*b7 d m;rw[QW,Qv (d ^ bB d m) d,P9,<- a]
  .have e:=FZ c;unfold bB b7;rw[e];exact⟨by simp,c⟩
def iI(hp:IsP p):∀a b,0<a->0<b->bB p (a*b)=bB p a+bB p b:=by
 intro a
 induction a using Ss with
 |_ a ih =>
  intro b ha hb;by_cases c:p∣a
  .obtain⟨m,rfl⟩:=c;have hm:0<m:=QY ha;have lt:m<p*m:=by have:=Qe m hp.1;lia
   rw[P9,di hp.1 (Qa hm hb),ih m lt b hm hb,di hp.1 hm];lia
  .clear ih;rw[jo c,SX]
   induction b using Ss with
   |_ b ih =>
    by_cases c2:p∣b
    .obtain⟨m,rfl⟩:=c2;have hm:0<m:=QY hb;have lt:m<p*m:=by have:=Qe m hp.1;lia
     rw[Q8,di hp.1 (Qa ha hm),ih m lt hm,di hp.1 hm]
    .rw[jo c2,jo λz=>(hp.dvd_mul z).elim c c2]
structure Add (f:Nat->Int):Prop where
 mul:∀a b,0<a->0<b->f (a*b)=f a+f b
def IsP.add(hp:IsP p):Add λn=>(bB p n:Int):=⟨λa b ha hb=>by rw[iI hp a b ha hb];lia⟩
def Add.one(h:Add f):f 1=0:=by have:=h.mul 1 1 (by decide) (by decide);simp at this;lia
def Add.pow{f:Nat->Int}(h:Add f){a:Nat}(ha:0<a):∀k:Nat,f (a ^ k)=(k:Int)*f a
 |0=>by rw[TL,h.one];simp
 |k+1=>by
  rw[QW,h.mul _ _ (Qy ha) ha,Add.pow h ha k];show _=((k:Int)+1)*f a;rw[UX,TB]
nonrec abbrev Pr:=Nat×Int
abbrev SF(f:Nat->Int):List Pr->Int
 |[]=>0
 |x :: L=>x.2*f x.1+SF f L
def kJ(f:Nat->Int):∀A B,SF f (A++B)=SF f A+SF f B
 |[],B=>by simp[SF]
 |x :: A,B=>by show _+SF f (A++B)=_;rw[kJ f A B];show _=_+_+_;lia
abbrev xA(x y:Pr):List Pr :=
 [(b7 (P4 x.1 y.1) x.1,x.2),(b7 (P4 x.1 y.1) y.1,y.2),(P4 x.1 y.1,bB (P4 x.1 y.1) x.1*x.2+bB (P4 x.1 y.1) y.1*y.2)]
def fI{d n:Nat}(hd:2<=d)(hn:0<n):0<b7 d n:=by
 rcases XB (b7 d n) with z|z
 .have:=(gt hd n hn).2;rw[z] at this;exact absurd ⟨0,rfl⟩ this
 .exact z
def MC(hf:Add f){x y:Pr}(hx:0<x.1)(hy:0<y.1)(hg:2<=P4 x.1 y.1):SF f (xA x y)=x.2*f x.1+y.2*f y.1:=by
 have gp:0<P4 x.1 y.1:=by lia
 have e:∀n,0<n->f n=bB (P4 x.1 y.1) n*f (P4 x.1 y.1)+f (b7 (P4 x.1 y.1) n):=λn hn=>by
  have s:=(gt hg n hn).1
  have:=congrArg f s
  rw[hf.mul _ _ (Qy gp) (fI hg hn),hf.pow gp] at this;exact this
 have e1:=e x.1 hx;have e2:=e y.1 hy;show x.2*f (b7 (P4 x.1 y.1) x.1)+(y.2*f (b7 (P4 x.1 y.1) y.1)+((bB (P4 x.1 y.1) x.1*x.2+bB (P4 x.1 y.1) y.1*y.2)*f (P4 x.1 y.1)+0))=_;rw[e1,e2];generalize f (b7 (P4 x.1 y.1) x.1)=u;generalize f (b7 (P4 x.1 y.1) y.1)=v;generalize f (P4 x.1 y.1)=w;generalize (bB (P4 x.1 y.1) x.1:Int)=i;generalize (bB (P4 x.1 y.1) y.1:Int)=j;rw[SA,SA,UX,X5 x.2 i w,Q1 i x.2 w,X5 y.2 j w,Q1 j y.2 w];lia
def Ig{d:Nat}(hd:2<=d):bB d 1=0:=jo λz=>by have:=RM (by decide) z;lia
abbrev EA(L:List Nat):Prop:=(∀q∈L,2<=q)/\L.Pairwise λa b=>Ra a b
def L9{p:Nat}(hp:2<=p)(c:Ra q r)(h:p∣q) : ¬ p∣r:=λz=>by
 have:=Nat.dvd_gcd h z
 rw[c] at this
 have:=RM (by decide) this
 lia
def AR{f:Nat->Int}:∀{L:List Pr},(∀x∈L,f x.1=0)->SF f L=0
 |[],_=>rfl
 |x :: L,h=>by show _*_+_=0;rw[h x O8,AR λy hy=>h y (O9 _ hy)];simp
def Ms{L:List Pr}(ha:EA (L.map (·.1)))(he:∀x∈L,x.2≠0)(hL:L≠[]):∃p,IsP p/\SF (λn=>(bB p n:Int)) L≠0:=by
 cases L with
 |nil=>exact absurd rfl hL
 |cons x L =>
  have h2:2<=x.1:=ha.1 x.1 O8;obtain⟨p,hp,d⟩:=l9 h2;refine⟨p,hp,?_⟩;have c:=(Ud.mp ha.2).1;show x.2*_+SF _ L≠0;rw[AR λy hy=>by show(bB p y.1:Int)=0;rw[jo (L9 hp.1 (c y.1 (QK hy)) d)];rfl,SB];obtain⟨m,e⟩:=d;have hm:0<m:=P5 λz=>by rw[z] at e;simp at e;lia
  show x.2*(bB p x.1:Int)≠0;rw[e,di hp.1 hm];exact WE (he x O8) (by lia)
def Js{q:Nat}(hp:IsP p)(hq:0<q)(d:p∣q):0<bB p q:=by
 obtain⟨m,rfl⟩:=d;rw[di hp.1 (QY hq)];lia
abbrev vs(f:Nat->Int):List (Nat×Nat)->List Int->Int
 |w :: W,e :: R=>e*(f w.1-f w.2)+vs f W R
 |_,_=>0
abbrev gi:List (Nat×Nat)->List Int->List Pr
 |w :: W,e :: R=>(w.1,e) :: (w.2,-e) :: gi W R
 |_,_=>[]
def pV(f:Nat->Int):∀W R,SF f (gi W R)=vs f W R
 |[],_=>rfl
 |_ :: _,[]=>rfl
 |w :: W,e :: R=>by
  show e*f w.1+(-e*f w.2+SF f (gi W R))=e*(f w.1-f w.2)+vs f W R;rw[pV f W R,WX,Tx];lia
abbrev One(W:List (Nat×Nat))(R:List Int):Prop:=∀p,IsP p->vs (λn=>(bB p n:Int)) W R=0
def yR{T:List Pr}(ha:EA (T.map (·.1)))(he:∀x∈T,x.2≠0)(hs:∀f,Add f->SF f T=SF f (gi W R)):One W R↔T=[]:=by
 constructor
 .intro h;by_cases c:T=[]
  .exact c
  .obtain⟨p,hp,z⟩:=Ms ha he c;exact absurd ((hs _ hp.add).trans ((pV _ W R).trans (h p hp))) z
 .intro h p hp;rw[<- pV,<- hs _ hp.add,h];rfl
abbrev bH:List Nat->Nat
 |[]=>1
 |q :: L=>q*bH L
def dh:∀A B,bH (A++B)=bH A*bH B
 |[],B=>(Uj _).symm
 |q :: A,B=>by show q*bH (A++B)=q*bH A*bH B;rw[dh A B,P9]
def gH:∀{L:List Nat},(∀q∈L,0<q)->0<bH L
 |[],_=>by decide
 |q :: L,h=>Qa (h q O8) (gH λx hx=>h x (O9 _ hx))
def ja:∀{L:List Nat} {i q:Nat},L[i]?=some q->bH L=q*bH (L.eraseIdx i)
 |x :: L,0,q,h=>by cases h;rfl
 |x :: L,i+1,q,h=>by
  show x*bH L=q*(x*bH (L.eraseIdx i));rw[ja (L:=L) (i:=i) (by simpa using h),Q8]
def ux(f:Nat->Int):∀{L:List Pr} {i:Nat} {y:Pr},L[i]?=some y->SF f L=y.2*f y.1+SF f (L.eraseIdx i)
 |x :: L,0,y,h=>by cases h;rfl
 |x :: L,i+1,y,h=>by
  show x.2*f x.1+SF f L=y.2*f y.1+(x.2*f x.1+SF f (L.eraseIdx i))
  rw[ux f (L:=L) (i:=i) (by simpa using h)];lia
abbrev gm:List Pr->Nat
 |[]=>0
 |x :: L=>x.2.natAbs*x.1.log2+gm L
def gk:∀A B,gm (A++B)=gm A+gm B
 |[],B=>(SX _).symm
 |q :: A,B=>by show _+gm (A++B)=_+gm A+gm B;rw[gk A B,Nat.add_assoc]
def nN:∀{L:List Pr} {i:Nat} {y:Pr},L[i]?=some y->gm L=y.2.natAbs*y.1.log2+gm (L.eraseIdx i)
 |x :: L,0,y,h=>by cases h;rfl
 |x :: L,i+1,y,h=>by
  show _+gm L=_+(x.2.natAbs*x.1.log2+gm (L.eraseIdx i))
  rw[nN (L:=L) (i:=i) (by simpa using h)];lia
def tX{a b:Nat}(ha:0<a)(hb:0<b):a.log2+b.log2<=(a*b).log2:=by
 rw[W1 (SZ (Qa ha hb)),QU];exact PX (UL (SZ ha)) (UL (SZ hb))
def Ip{a b:Nat}(ha:0<a)(h:a<=b):a.log2<=b.log2:=by
 rw[W1 (by lia)];exact Pj (UL (by lia)) h
def zm{a b:Nat}(ha:0<a)(h:2*a<=b):a.log2+1<=b.log2:=by
 rw[W1 (by lia),QW]
 have:=UL (n:=a) (by lia)
 lia
def tW{a:Nat}(ha:0<a):∀k:Nat,k*a.log2<=(a ^ k).log2
 |0=>by simp
 |k+1=>by
  have:=tX (Qy (n:=k) ha) ha
  have:=tW ha k
  rw[QW,Sx];lia
def zj{d n:Nat}(hd:2<=d)(hn:0<n):bB d n*d.log2+(b7 d n).log2<=n.log2:=by
 have:=tX (Qy (n:=bB d n) (by lia:0<d)) (fI hd hn)
 rw[<- (gt hd n hn).1] at this
 have:=tW (by lia:0<d) (bB d n)
 lia
def FX{x y:Pr}(hx:0<x.1)(hy:0<y.1)(hg:2<=P4 x.1 y.1):gm (xA x y)<=x.2.natAbs*x.1.log2+y.2.natAbs*y.1.log2:=by
 have a:=PU x.2.natAbs (zj hg hx);have b:=PU y.2.natAbs (zj hg hy);show x.2.natAbs*(b7 (P4 x.1 y.1) x.1).log2+(y.2.natAbs*(b7 (P4 x.1 y.1) y.1).log2+((bB (P4 x.1 y.1) x.1*x.2+bB (P4 x.1 y.1) y.1*y.2).natAbs*(P4 x.1 y.1).log2+0))<=_;generalize P4 x.1 y.1=g at *
 have c:(bB g x.1*x.2+bB g y.1*y.2).natAbs<=x.2.natAbs*bB g x.1+y.2.natAbs*bB g y.1:=by
  refine Pj (Ts _ _) ?_;rw[P2,P2,Pu,Pu,Qv,Qv (bB g y.1)];exact Pa _
 have c':=Qe g.log2 c;rw[Nat.add_mul,P9,P9] at c';rw[Nat.mul_add] at a b;lia
def EJ{d n:Nat}(hd:2<=d)(hn:0<n):b7 d n<=n:=by
 have:=(gt hd n hn).1
 have k:=Qe (b7 d n) (Qy (n:=bB d n) (by lia:0<d));lia
def Ie{d n:Nat}(hd:2<=d)(hn:0<n)(h:d∣n):0<bB d n:=by
 obtain⟨m,rfl⟩:=h;rw[di hd (QY hn)];lia
def Of{a b:Nat}(ha:0<a)(hb:0<b)(hg:2<=P4 a b):2*(b7 (P4 a b) a*(b7 (P4 a b) b*P4 a b))<=a*b:=by
 have da:=UK a b;have db:=X4 a b;generalize P4 a b=g at *
 have le:∀n,0<n->g∣n->b7 g n*g<=n:=λn hn h=>by
  have o:=Ie hg hn h;have s:=(gt hg n hn).1;obtain⟨k,e⟩:∃k,bB g n=k+1:=⟨bB g n-1,by lia⟩
  rw[e,QW,P9,Qv g] at s
  have:=Qe (b7 g n*g) (Qy (n:=k) (by lia:0<g))
  lia
 have la:=le a ha da;have lb:=le b hb db;have l2:2*b7 g a<=a:=by have:=PU (b7 g a) hg;lia
 calc 2*(b7 g a*(b7 g b*g))=(2*b7 g a)*(b7 g b*g):=by rw[P9]
  _<=a*b:=PX l2 lb
def Ag{α β:Type}(f:α->β):∀(L:List α) (i:Nat),(L.map f).eraseIdx i=(L.eraseIdx i).map f
 |[],_=>rfl
 |_ :: _,0=>rfl
 |x :: L,i+1=>congrArg (f x :: ·) (Ag f L i)
structure Ap (P0:List Pr) (B T C:Nat) (told left:List Pr):Prop where
 apt:EA (told.map (·.1))
 ne:∀x∈told,x.2≠0
 pos:∀x∈left,0<x.1
 bT:∀x∈told,x.1<=B
 bL:∀x∈left,x.1<=B
 sf:∀f,Add f->SF f told+SF f left=SF f P0
 le:gm told+gm left<=T
 few:told.length+left.length+(bH (told.map (·.1))*bH (left.map (·.1))).log2<=C
abbrev mu(told left:List Pr):Nat:=2*(bH (told.map (·.1))*bH (left.map (·.1)))+left.length
def Ap.start{P0:List Pr}{B:Nat}(hp:∀x∈P0,0<x.1/\x.1<=B):Ap P0 B (gm P0) (P0.length+(bH (P0.map (·.1))).log2) [] P0 :=
 ⟨⟨λ_ h=>(by cases h),XO⟩,λ_ h=>(by cases h),λx h=>(hp x h).1,λ_ h=>(by cases h),λx h=>(hp x h).2,λf _=>by simp[SF],by simp[gm],by show 0+P0.length+(1*bH (P0.map (·.1))).log2<=_;rw[Uj,SX];exact Pa _⟩
variable{P0:List Pr}{B T C:Nat}{told left:List Pr}{x y:Pr}
def uw(f:Nat->Int)(x:Pr):SF f [x]=x.2*f x.1:=by simp[SF]
def FY(x:Pr):gm [x]=x.2.natAbs*x.1.log2:=by simp[gm]
def Ap.pp(h:Ap P0 B T C told (left++[x])):0<bH (told.map (·.1))/\0<bH (left.map (·.1))/\0<x.1/\x.1<=B :=
 ⟨gH λq hq=>by have:=h.apt.1 q hq;lia,gH λq hq=>by obtain⟨z,hz,rfl⟩:=Pl.mp hq;exact h.pos z (PK _ hz),h.pos x (PB _ O8),h.bL x (PB _ O8)⟩
def Ap.drop(h:Ap P0 B T C told (left++[x]))(c : ¬ (1<x.1/\x.2≠0)):Ap P0 B T C told left/\mu told left<mu told (left++[x]):=by
 have ⟨p1,p2,p3,_⟩:=h.pp;refine⟨⟨h.apt,h.ne,λz hz=>h.pos z (PK _ hz),h.bT,λz hz=>h.bL z (PK _ hz),λf hf=>?_,?_,?_⟩,?_⟩
 .have e:=h.sf f hf;rw[kJ,uw] at e
  have:x.2*f x.1=0:=by
   by_cases z:x.2=0
   .rw[z];simp
   .rw[show x.1=1 by lia,hf.one];simp
  lia
 .have:=h.le
  rw[gk] at this;lia
 .have f:=h.few;rw[O_,dh,Pm] at f
  have:=Ip (Qa p1 p2) (PU (bH (told.map (·.1))) (QZ (bH (left.map (·.1))) (by show 0<x.1*1;lia:0<bH ([x].map (·.1)))))
  lia
 .unfold mu;rw[O_,dh,Pm];show _<2*(_*(bH (left.map (·.1))*(x.1*1)))+(left.length+1)
  have:=PU (bH (told.map (·.1))) (QZ (bH (left.map (·.1))) (by lia:0<x.1*1))
  lia
def Ap.keep(h:Ap P0 B T C told (left++[x]))(c1:1<x.1)(c2:x.2≠0)(hc:∀z∈told,P4 z.1 x.1<=1):Ap P0 B T C (told++[x]) left/\mu (told++[x]) left<mu told (left++[x]):=by
 have ⟨p1,p2,p3,p4⟩:=h.pp
 have cop:∀z∈told,Ra z.1 x.1:=λz hz=>by
  have:=hc z hz
  have g:0<P4 z.1 x.1:=Nat.gcd_pos_of_pos_right _ p3;show P4 z.1 x.1=1;lia
 refine⟨⟨⟨λq hq=>?_,?_⟩,λz hz=>?_,λz hz=>h.pos z (PK _ hz),λz hz=>?_,λz hz=>h.bL z (PK _ hz),λf hf=>?_,?_,?_⟩,?_⟩
 .rw[O_] at hq;rcases Pz.mp hq with k|k
  .exact h.apt.1 q k
  .have:q=x.1:=by simpa using k
   lia
 .rw[O_,List.pairwise_append];refine⟨h.apt.2,by simp,λa ha b hb=>?_⟩;obtain⟨z,hz,rfl⟩:=Pl.mp ha
  have:b=x.1:=by simpa using hb
  rw[this];exact cop z hz
 .rcases Pz.mp hz with k|k
  .exact h.ne z k
  .have:z=x:=by simpa using k
   rw[this];exact c2
 .rcases Pz.mp hz with k|k
  .exact h.bT z k
  .have:z=x:=by simpa using k
   rw[this];exact p4
 .have e:=h.sf f hf;rw[kJ,uw] at e;rw[kJ,uw];lia
 .have:=h.le
  rw[gk] at this;rw[gk];lia
 .have f:=h.few;rw[O_,dh,Pm] at f;rw[O_,dh,Pm,P9,Qv (bH ([x].map (·.1)))];lia
 .unfold mu;rw[O_,dh,O_,dh,Pm]
  have:bH (told.map (·.1))*bH ([x].map (·.1))*bH (left.map (·.1))=bH (told.map (·.1))*(bH (left.map (·.1))*bH ([x].map (·.1))):=by
   rw[P9,Qv (bH ([x].map (·.1)))]
  rw[this];show _<_+(left.length+1)
  lia
def Ap.split(h:Ap P0 B T C told (left++[x])){i:Nat}(hi:told[i]?=some y)(hg:1<P4 y.1 x.1) :
  Ap P0 B T C (told.eraseIdx i) (left++xA x y)/\mu (told.eraseIdx i) (left++xA x y)<mu told (left++[x]):=by
 have ⟨p1,p2,p3,p4⟩:=h.pp;have hy:=O7 hi;have y2:2<=y.1:=h.apt.1 y.1 (QK hy);have yB:=h.bT y hy;rw[Nat.gcd_comm] at hg;have hg2:2<=P4 x.1 y.1:=hg;have sub:(told.eraseIdx i).Sublist told:=List.eraseIdx_sublist _ _;have gl:P4 x.1 y.1<=x.1:=RM p3 (UK _ _)
 have mem:∀z∈xA x y,0<z.1/\z.1<=B:=λz hz=>by
  have r1:=fI hg2 p3;have r2:=fI hg2 (by lia:0<y.1);have r3:=EJ hg2 p3;have r4:=EJ hg2 (by lia:0<y.1);unfold xA at hz;simp only[Py,Sc,or_false] at hz;rcases hz with rfl|rfl|rfl
  .exact⟨r1,by show b7 _ _<=_;lia⟩
  .exact⟨r2,by show b7 _ _<=_;lia⟩
  .exact⟨by show 0<P4 _ _;lia,by show P4 _ _<=_;lia⟩
 have hv:2*(bH ((told.eraseIdx i).map (·.1))*bH ((left++xA x y).map (·.1)))<=bH (told.map (·.1))*bH ((left++[x]).map (·.1))/\2<=bH ((told.eraseIdx i).map (·.1))*bH ((left++xA x y).map (·.1)):=by
  have hi':(told.map (·.1))[i]?=some y.1:=by rw[O4,hi];rfl
  rw[ja hi',<- Ag];generalize hP:bH ((told.map (·.1)).eraseIdx i)=P;have Pp:0<P:=P5 λz=>by rw[ja hi',hP,z] at p1;simp at p1
  rw[O_,dh,O_,dh];generalize hL:bH (left.map (·.1))=L at p2;have hf:=Of p3 (by lia:0<y.1) hg2;show 2*(P*(L*(b7 (P4 x.1 y.1) x.1*(b7 (P4 x.1 y.1) y.1*(P4 x.1 y.1*1)))))<=y.1*P*(L*(x.1*1))/\2<=P*(L*(b7 (P4 x.1 y.1) x.1*(b7 (P4 x.1 y.1) y.1*(P4 x.1 y.1*1))));rw[TC,TC]
  have S1:2<=b7 (P4 x.1 y.1) x.1*(b7 (P4 x.1 y.1) y.1*P4 x.1 y.1):=by
   have r1:=fI hg2 p3;have r2:=fI hg2 (by lia:0<y.1)
   calc 2<=1*(1*P4 x.1 y.1):=by lia
    _<=_:=PX r1 (PX r2 (Pa _))
  generalize b7 (P4 x.1 y.1) x.1*(b7 (P4 x.1 y.1) y.1*P4 x.1 y.1)=S at hf S1
  have q1:y.1*P*(L*x.1)=P*L*(x.1*y.1):=by
   rw[Qv y.1 P,P9,P9,Q8 y.1 L,Qv y.1]
  rw[q1,<- P9 P L S];have q2:=PU (P*L) hf;have q3:1<=P*L:=Qa Pp p2;have q4:=PX q3 S1;rw[Q8] at q2;exact⟨q2,by lia⟩
 refine⟨⟨⟨λq hq=>h.apt.1 q ((sub.map _).subset hq),h.apt.2.sublist (sub.map _)⟩,λz hz=>h.ne z (sub.subset hz),λz hz=>?_,λz hz=>h.bT z (sub.subset hz),λz hz=>?_,λf hf=>?_,?_,?_⟩,?_⟩
 .rcases Pz.mp hz with k|k
  .exact h.pos z (PK _ k)
  .exact(mem z k).1
 .rcases Pz.mp hz with k|k
  .exact h.bL z (PK _ k)
  .exact(mem z k).2
 .have e:=h.sf f hf;rw[kJ,uw,ux f hi] at e;rw[kJ,MC hf p3 (by lia) hg2];lia
 .have e:=h.le;rw[gk,FY,nN hi] at e
  have:=FX p3 (by lia:0<y.1) hg2
  rw[gk];lia
 .have f:=h.few;have lt:=(O3.mp hi).1
  have:=zm (P5 λz=>by rw[z] at hv;lia) hv.1
  rw[Pm] at f ⊢;rw[WZ,if_pos lt];show told.length-1+(left.length+3)+_<=C;have f':told.length+(left.length+1)+(bH (told.map (·.1))*bH ((left++[x]).map (·.1))).log2<=C:=f;lia
 .unfold mu;rw[Pm,Pm];show _+(left.length+3)<_+(left.length+1)
  lia
variable{N0 F Wt:List Nat}{a b:Nat}
end Pw
namespace Tr
def Nx(a b c:Rat):a*(b*c)=b*(a*c):=by rw[<- Qg,<- Qg,Vn a b]
def mx{α:Type}(f:α->Rat):∀{l:List α},l≠[]->∃j∈l,∀h∈l,f h<=f j
 |[],h=>absurd rfl h
 |[a],_=>⟨a,O8,λh hh=>by rw[show h=a by simpa using hh];exact W0⟩
 |a :: b :: l,_=>by
  obtain⟨j,hj,k⟩:=mx f (l:=b :: l) (by simp);rcases Rat.le_total (a:=f a) (b:=f j) with z|z
  .refine⟨j,O9 _ hj,λh hh=>?_⟩;rcases Py.mp hh with e|e
   .rw[e];exact z
   .exact k h e
  .refine⟨a,O8,λh hh=>?_⟩;rcases Py.mp hh with e|e
   .rw[e];exact W0
   .exact Rat.le_trans (k h e) z
def ze{α:Type}{f:α->Rat}:∀{l:List α},(∀x∈l,0<=f x)->ls l f=0->∀x∈l,f x=0
 |a :: l,h,e,x,hx=>by
  have h1:=h a O8;have h2:0<=ls l f:=jq λy hy=>h y (O9 _ hy)
  rw[aV] at e
  have e1:f a=0:=by
   refine Rat.le_antisymm ?_ h1
   have:=(Rat.add_le_add_left (c:=f a)).mpr h2
   rw[e,RN] at this;exact this
  rcases Py.mp hx with z|z
  .rw[z];exact e1
  .rw[e1,Vk] at e;exact ze (λy hy=>h y (O9 _ hy)) e x z
def La{α:Type}(l:List α)(f g:α->Rat):ls l (λx=>f x-g x)=ls l f-ls l g:=by
 have:ls l (λx=>f x-g x)=ls l (λx=>f x+(-1)*g x):=aQ λx _=>by rw[XC,Rat.neg_mul,RH]
 rw[this,Fa,oY,XC,Rat.neg_mul,RH]
section
variable{es:List (Nat×Nat)}{pc:Nat->Rat}
abbrev OD(es:List (Nat×Nat))(pc u:Nat->Rat)(n:Nat):Prop:=∀j,j<n->ls ((Pi es.length).filter λk=>tow es k == j) (λk=>pc k*u (fro es k))=ls ((Pi es.length).filter λk=>fro es k == j) λk=>pc k*u (fro es k)
def Pn.app:∀{n m a b c:Nat},Pn es n a b->Pn es m b c->Pn es (n+m) a c
 |0,m,a,b,c,h,k=>by rw[SX,show a=b from h];exact k
 |n+1,m,a,b,c,⟨k,hk,e,p⟩,q=>by rw[Nat.succ_add];exact⟨k,hk,e,Pn.app p q⟩
def Pn.back(bk:∀k,k<es.length->∃m,Pn es m (tow es k) (fro es k)):∀{n a b:Nat},Pn es n a b->∃m,Pn es m b a
 |0,a,b,h=>⟨0,(show a=b from h).symm⟩
 |n+1,a,b,⟨k,hk,e,p⟩=>by
  obtain⟨m1,q1⟩:=Pn.back bk p;obtain⟨m2,q2⟩:=bk k hk;rw[e] at q2;exact⟨m1+m2,q1.app q2⟩
def Pn.lt{N:Nat}(ok:∀k,k<es.length->fro es k<N/\tow es k<N):∀{n a b:Nat},Pn es n a b->a<N->b<N
 |0,a,b,h,l=>by rw[<- show a=b from h];exact l
 |n+1,a,b,⟨k,hk,_,p⟩,_=>Pn.lt ok p (ok k hk).2
open Classical in
def OP{n:Nat}(ok:∀k,k<es.length->fro es k<n/\tow es k<n)(pp:∀k,k<es.length->0<pc k)(bk:∀k,k<es.length->∃m,Pn es m (tow es k) (fro es k))
  (bu:OD es pc u n) (bv:OD es pc v n) (vp:∀h,h<n->0<v h) {a:Nat} (ha:a<n):∃c:Rat,∀b m,Pn es m a b->u b=c*v b:=by
 obtain⟨j,hj,top⟩:=mx (λh=>u h / v h) (l:=(Pi n).filter λh=>decide (∃m,Pn es m a h)) (λz=>by
  have:a∈(Pi n).filter λh=>decide (∃m,Pn es m a h):=PQ.mpr ⟨PJ.mpr ha,decide_eq_true ⟨0,rfl⟩⟩
  rw[z] at this;cases this)
 obtain⟨j1,j2⟩:=PQ.mp hj;have jn:=PJ.mp j1;obtain⟨mj,pj⟩:=of_decide_eq_true j2;have dv:∀h,h<n->u h / v h*v h=u h:=λh hh=>VG λz=>by have:=vp h hh;rw[z] at this;exact absurd this V2
 refine⟨u j / v j,?_⟩
 have le:∀h m,Pn es m a h->u h<=u j / v j*v h:=λh m p=>by
  have hn:=p.lt ok ha
  have:=top h (PQ.mpr ⟨PJ.mpr hn,decide_eq_true ⟨m,p⟩⟩)
  have:=Rat.mul_le_mul_of_nonneg_right this (RO (vp h hn))
  rw[dv h hn] at this;exact this
 generalize hc:u j / v j=c at le;have ej:u j=c*v j:=by rw[<- hc,dv j jn]
 have step:∀k,k<es.length->(∃m,Pn es m a (tow es k))->u (tow es k)=c*v (tow es k)->u (fro es k)=c*v (fro es k):=by
  intro k hk ⟨m,p⟩ e;have xn:=(ok k hk).2;have b1:=bu _ xn;have b2:=bv _ xn
  have o:ls ((Pi es.length).filter λi=>fro es i == tow es k) (λi=>pc i*u (fro es i))=c*ls ((Pi es.length).filter λi=>fro es i == tow es k) λi=>pc i*v (fro es i):=by
   rw[<- oY];refine aQ λi hi=>?_
   have:fro es i=tow es k:=by simpa using(PQ.mp hi).2
   rw[this,e,<- Qg,<- Qg,Vn (pc i) c]
  have z:ls ((Pi es.length).filter λi=>tow es i == tow es k) (λi=>c*(pc i*v (fro es i))-pc i*u (fro es i))=0:=by
   rw[La,oY,b1,b2,<- o,Rat.sub_self]
  have ge:∀i∈(Pi es.length).filter λi=>tow es i == tow es k,0<=c*(pc i*v (fro es i))-pc i*u (fro es i):=λi hi=>by
   obtain⟨i1,i2⟩:=PQ.mp hi;have il:=PJ.mp i1;have it:tow es i=tow es k:=by simpa using i2
   obtain⟨m2,q⟩:=bk i il;rw[it] at q
   have:=le _ _ (p.app q)
   have:=Rat.mul_le_mul_of_nonneg_left this (RO (pp i il))
   rw[Nx] at this;exact Rat.le_iff_sub_nonneg _ _ |>.mp this
  have:=ze ge z k (PQ.mpr ⟨PJ.mpr hk,by simp⟩)
  have e2:c*(pc k*v (fro es k))=pc k*u (fro es k):=by
   have:=congrArg (· + pc k*u (fro es k)) this
   simpa[Rat.sub_add_cancel,Vk] using this
  rw[Nx] at e2;have pk:=pp k hk
  have:=congrArg ((pc k)⁻¹ * ·) e2
  simp only[<- Qg] at this;rw[Rat.inv_mul_cancel _ (λz=>by rw[z] at pk;exact absurd pk V2)] at this;simp only[RH] at this;exact this.symm
 have all:∀m b,(∃k,Pn es k a b)->Pn es m b j->u b=c*v b:=by
  intro m
  induction m with
  |zero=>intro b _ h;rw[show b=j from h];exact ej
  |succ m ih =>
   intro b ⟨q,hq⟩ ⟨k,hk,e,p⟩;subst e;exact step k hk ⟨_,hq.snoc hk⟩ (ih _ ⟨_,hq.snoc hk⟩ p)
 intro b m p;obtain⟨m2,q⟩:=p.back bk;exact all _ b ⟨m,p⟩ (q.app pj)
end
end Tr
namespace Ev
open Bo Pw
abbrev vr(f:Nat->Int)(x:Rat):Int:=f x.num.natAbs-f x.den
def nump{x:Rat}(h:0<x):0<x.num.natAbs:=by
 have a:=RS.mpr (RO h);have b:x.num≠0:=λz=>by rw[YC.mp z] at h;exact absurd h V2
 lia
def fe{f:Nat->Int}(hf:Add f){x y:Rat}(hx:0<x)(hy:0<y):vr f (x*y)=vr f x+vr f y:=by
 have e:(x*y).num*((x.den:Int)*y.den)=x.num*y.num*(x*y).den:=by
  have h:PH (x*y).num (x*y).den=PH (x.num*y.num) ((x.den:Int)*y.den):=by
   rw[Qk,<- Q6,Qk,Qk]
  have d1:((x*y).den:Int)≠0:=by have:=(x*y).den_nz;lia
  have d2:(x.den:Int)*y.den≠0:=WE (by have:=x.den_nz;lia) (by have:=y.den_nz;lia);exact(Q2 d1 d2).mp h
 have e2:=congrArg YW e;rw[P2,P2,P2,P2,Pu,Pu,Pu] at e2;have e3:=congrArg f e2;have px:=nump hx;have py:=nump hy;have pz:=nump (Rv hx hy);have dx:=P5 x.den_nz;have dy:=P5 y.den_nz;have dz:=P5 (x*y).den_nz;rw[hf.mul _ _ pz (Qa dx dy),hf.mul _ _ dx dy,hf.mul _ _ (Qa px py) dz,hf.mul _ _ px py] at e3;unfold vr;lia
def kf{f:Nat->Int}(hf:Add f):vr f 1=0:=by
 have:=fe hf (x:=1) (y:=1) (by decide) (by decide)
 rw[Q4] at this;lia
def sM{f:Nat->Int}(hf:Add f){x:Rat}(hx:0<x):∀k:Nat,0<x ^ k/\vr f (x ^ k)=(k:Int)*vr f x
 |0=>by rw[TN,kf hf];exact⟨by decide,by simp⟩
 |k+1=>by
  obtain⟨a,b⟩:=sM hf hx k;rw[Td,fe hf a hx,b];refine⟨Rv a hx,?_⟩;show _=((k:Int)+1)*_;rw[UX,TB]
def Mc{n N:Nat}{lot:Nat->Nat}{row d:Nat->Int}(lb:∀k,k<n->lot k<N)(dl:∀k k',k<n->k'<n->lot k=lot k'->d k=d k')
  (z:∀l,l<N->sm n (λk=>if lot k=l then row k else 0)=0):sm n (λk=>row k*d k)=0:=by
 classical
 let D:Nat->Int:=λl=>if h:∃k,k<n/\lot k=l then d h.choose else 0
 have hD:∀k,k<n->D (lot k)=d k:=λk hk=>by
  have h:∃k',k'<n/\lot k'=lot k:=⟨k,hk,rfl⟩
  show(if h:∃k',k'<n/\lot k'=lot k then d h.choose else 0)=d k;rw[dif_pos h];exact dl _ _ h.choose_spec.1 hk h.choose_spec.2
 have e:sm n (λk=>row k*d k)=sm n (λk=>sm N (λj=>D j*(if lot k=j then 1 else 0))*row k):=bS λk hk=>by
  rw[tu (lb k hk) λj _ nj=>by rw[if_neg λq=>nj q.symm,R4],if_pos rfl,Yp,hD k hk,R3]
 rw[e,xQ];refine fF λj hj=>?_
 have:sm n (λk=>(if lot k=j then 1 else 0)*row k)=sm n (λk=>if lot k=j then row k else 0):=bS λk _=>by
  split
  .exact TB _
  .exact RL _
 rw[this,z j hj,R4]
def Eb{f:Nat->Int}(hf:Add f){n S N:Nat}{W v w:Nat->Rat}{h:Nat->Nat->Nat}{lot:Nat->Nat}{row:Nat->Int}
  (pW:∀k,k<n->0<W k) (pv:∀k,k<n->0<v k) (hv:∀k,k<n->vr f (v k)=sm S λs=>vr f (w s)*(h k s:Int)) (lb:∀k,k<n->lot k<N)
  (pr:∀k k',k<n->k'<n->lot k=lot k'->W k*v k'=W k'*v k) (z:∀l,l<N->sm n (λk=>if lot k=l then row k else 0)=0) (st:∀s,s<S->sm n (λk=>(h k s:Int)*row k)=0) :
  sm n (λk=>row k*vr f (W k))=0:=by
 have e:sm n (λk=>row k*vr f (W k))=sm n (λk=>row k*(vr f (W k)-vr f (v k)))+sm n (λk=>sm S (λs=>vr f (w s)*(h k s:Int))*row k):=by
  rw[<- Bo.tw];refine bS λk hk=>?_
  rw[<- hv k hk,WX,R3 (vr f (v k))];lia
 rw[e,Mc lb (λk k' hk ZQ l=>?_) z,xQ,fF λs hs=>by rw[st s hs,R4]]
 .rfl
 .have a:=fe hf (pW k hk) (pv k' ZQ);have b:=fe hf (pW k' ZQ) (pv k hk);rw[pr k k' hk ZQ l] at a;lia
end Ev
namespace Dt
end Dt
namespace As
open PySem L2 Fr G1 Sm Vs G2 Ti
open PySem.W (Dat kqdOk)
abbrev Fine(es:List (Nat×Nat))(j:Nat):Prop:=∀x y,es[j]?=some (x,y)->Rch es y x
abbrev lO(K:Fg):Sp:=λvs H Q _=>∃(v:V) (ws:List Str) (ts:List Tn),vs=[v]/\Rz K H v (dV ws ts)/\ts.length<=100 /\
 (∀i x y,(am ts)[i]?=some (x,y)->(∀j<i,Fine (am ts) j)->¬ Rch (am ts) y x->∀H',Same H H'->Q (.int (i:Int)) H')/\((∀j,Fine (am ts) j)->∀H',Same H H'->Q .non H')
abbrev lv(K:Fg):TS:=(aq (a5 (ii K (ae (aC (iT K) [] E0 (ae (aa 0) aj)) aj)) (cg K 2 (aT (al 1) (aT (al 2) ci)))
 (a8 (aR (ar CU (aC (xI K) [] E0 (ae (aa 0) (ae (ar (aD K) (aa 2) (tC (.int 1))) (ae (ar (aD K) (aa 2) (tC (.int 0))) aj)))) (tC .non)))
 (aI (aa 1))
 bw))
 (aI (tC .non)))
def yi{K:Fg}:ρ 3 (lO K) (lv K):=by
 fail "R";obtain⟨v,ws,ts,rfl,rv,hl,k1,k2⟩:=h;rw[L2.aP hN];walk_at "t";have eo:=bO ts;unfold lv;cbv;refine⟨v,ws,ts,rfl,rv,hl,λpe H1 A1=>?_⟩;obtain⟨xs,hpe,rx⟩:=A1.at_;have S1:=A1.same;have lx:xs.length=(am ts).length:=by rw[rx.length,O0]
 cbv;refine⟨pe,xs,rfl,SqL.of hpe,?_⟩;refine dB (xs:=xs) (λi σ H2=>∃u1 u2:Option V,σ=[some v,u1,u2]/\Same H1 H2/\∀j<i,Fine (am ts) j) ⟨none,none,rfl,Same.refl _,λj hj=>absurd hj (Rq _)⟩ (by rintro i σ H2 _ ⟨_,_,_,S,_⟩;exact SqL.of (S _ _ hpe)) ?_ ?_
 .rintro i z σ H2 T hz ⟨u1,u2,rfl,S2,dn⟩ nT;obtain⟨dd,g1,g2⟩:=rx.get hz;rw[O4] at g1;obtain⟨e,he,rfl⟩:=Pb.mp g1;obtain⟨x,y⟩:=e;have oe:=eo _ (O7 he);have S3:=ak nT (.tup [.int (i:Int),z]);obtain⟨pb,rfl,hpb⟩:=An ((g2.same S2).same S3);refine bI (SqT.of ag) rfl ?_;cbv;generalize upd H2 T (.tup [.int (i:Int),.ref pb])=H3 at S3 hpb ⊢;have S13:=S2.trans S3;refine aG (SqT.of hpb) (v:=.int (y:Int)) rfl ?_;cbv;refine aG (SqT.of hpb) (v:=.int (x:Int)) rfl ?_;cbv;refine⟨v,ws,ts,y,x,rfl,(rv.same S1).same S13,hl,oe.2,oe.1,λr p H4 S4=>?_,λnr H4 S4=>?_⟩
  .cbv;refine a9 (λz=>nomatch z) (λ_=>?_);cbv;refine⟨_,_,rfl,S13.trans S4,λj hj x' y' ge=>?_⟩;by_cases ji:j<i
   .exact dn j ji x' y' ge
   .have:j=i:=by lia
    rw[this,he] at ge;cases PD ge;exact r
  .cbv;refine a9 (λ_=>?_) (λz=>absurd rfl z);cbv;exact k1 i x y he dn nr H4 (S1.trans (S13.trans S4))
 .rintro σ H2 ⟨u1,u2,rfl,S2,dn⟩;cbv;refine k2 (λj=>?_) H2 (S1.trans S2);by_cases jl:j<xs.length
  .exact dn j jl
  .intro x y ge;rw[PY (by lia)] at ge;cases ge
end As
namespace Pw
open PySem L2 Fr G1 Sm Vs G2 Rk Sz Sf Rw Ti
open PySem.W (Dat kqdOk)
def D9(m d:Nat):(m:Int).fmod (d:Int)=((m % d:Nat):Int):=by
 rw[Vv _ (VC d)];rfl
def Ea(m d:Nat):(m:Int).fdiv (d:Int)=((m / d:Nat):Int):=by
 rw[Vu _ (VC d)];rfl
def Fl(a b:Nat):Gd.gd (a:Int) (b:Int)=((P4 a b:Nat):Int):=rfl
def Jx{d m:Nat}(hd:2<=d)(hm:0<m)(h:d∣m):bB d m=bB d (m / d)+1/\b7 d m=b7 d (m / d)/\0<m / d/\m / d<m:=by
 obtain⟨k,rfl⟩:=h;have hk:0<k:=QY hm;have e:=v0 hd hk;rw[Wi k (by lia:0<d)];refine⟨di hd hk,by show(tk d (d*k)).2=_;rw[e],hk,?_⟩
 have:=Qe k hd
 lia
def Jw{d m:Nat}(h : ¬ d∣m):bB d m=0/\b7 d m=m:=⟨jo h,congrArg Uu (FZ h)⟩
abbrev B3(K:Fg):Sp:=λvs H Q _=>∃n d:Nat,vs=[.int (n:Int),.int (d:Int)]/\0<n/\2<=d/\d<2 ^ 9000/\∀(p:Addr) (H':Hp),Same H H'->Rz K H' (.ref p) (dI [(bB d n:Int),(b7 d n:Int)])->Q (.ref p) H'
abbrev F6(K:Fg):TS:=(aq (av (tC (.int 0)) (al 2))
 (aq (gR (aR (ar hJ (ar Hk (aa 0) (aa 1)) (tC (.int 0))))
 (aq (av (ar CW (aa 0) (aa 1)) (al 0))
 (av (ar aX (aa 2) (tC (.int 1))) (al 2))))
 (aI (be (ae (aa 2) (ae (aa 0) aj))))))
def JP{K:Fg}:ρ 3 (B3 K) (F6 K):=by
 fail "R";obtain⟨n,d,rfl,n0,d2,dw,k⟩:=h;rw[L2.aP hN];walk_at "t";unfold F6;cbv
 refine iy (λσ H'=>H'=H/\∃m c:Nat,σ=[↥(m:Int),↥(d:Int),↥(c:Int)]/\0<m/\bB d n=c+bB d m/\b7 d n=b7 d m)
  (λσ _=>match σ with | [↥m,_,_]=>m.toNat|_=>0) ⟨rfl,n,0,rfl,n0,by lia,rfl⟩ ?_ ?_
 .rintro σ H' ⟨rfl,m,c,rfl,m0,e1,e2⟩;cbv;refine cP (by lia) ?_;cbv;rw[D9];refine a9 (λz=>?_) (λz=>?_)
  .have dv:d∣m:=Nat.dvd_of_mod_eq_zero (by lia);obtain⟨f1,f2,f3,f4⟩:=Jx d2 m0 dv;cbv;refine cP ⟨by lia,by show d<_;exact dw⟩ ?_;rw[Ea];cbv;exact⟨⟨rfl,m / d,c+1,rfl,f3,by lia,by rw[e2,f2]⟩,by show(((m / d:Nat):Int)).toNat<((m:Nat):Int).toNat;lia⟩
  .have dv : ¬ d∣m:=λy=>z (by rw[Nat.mod_eq_zero_of_dvd y];rfl)
   obtain⟨f1,f2⟩:=Jw dv;cbv;refine⟨aM,λp np=>?_⟩
   have:=k p _ (ak np (.tup [.int (c:Int),.int (m:Int)]))
   rw[e1,e2,f1,f2] at this;exact this (.tup ag (RpL.ints [_,_]))
 .rintro σ H' R R' h ⟨w1,e1,w2,e2,i,j,e3,e4,c,sc,kk,ek,q⟩;exact⟨w1,e1,w2,e2,i,j,e3,e4,c,sc,kk,ek,h _ _ q⟩
abbrev jz(x:Pr):Dat:=dI [(x.1:Int),x.2]
abbrev qO(K:Fg):Sp:=λvs H Q _=>∃(u v:V) (x y:Pr),vs=[u,v]/\Rz K H u (jz x)/\Rz K H v (jz y)/\0<x.1/\0<y.1/\2<=P4 x.1 y.1/\x.1<2 ^ 8000/\y.1<2 ^ 8000/\x.2.natAbs<2 ^ 8000/\y.2.natAbs<2 ^ 8000 /\
 ∀(p:Addr) (H':Hp),AccZ K H p H' ((xA x y).map jz)->Q (.ref p) H'
def E3{d n:Nat}(hd:2<=d)(hn:0<n):bB d n<n:=by
 have e:=(gt hd n hn).1;have r:=fI hd hn;have l:bB d n<d ^ bB d n:=Nat.lt_pow_self (by lia)
 have:=PU (d ^ bB d n) r
 lia
nonrec abbrev wn(K:Fg):TS:=(aI (bU (ae (be (ae (ar (aD K) (aa 3) (tC (.int 1))) (ae (ar (aD K) (aa 0) (tC (.int 1))) aj))) (ae (be (ae (ar (aD K) (aa 4) (tC (.int 1))) (ae (ar (aD K) (aa 1) (tC (.int 1))) aj))) (ae (be (ae (aa 2) (ae (ar aX (ar cV (ar (aD K) (aa 3) (tC (.int 0))) (ar (aD K) (aa 0) (tC (.int 1)))) (ar cV (ar (aD K) (aa 4) (tC (.int 0))) (ar (aD K) (aa 1) (tC (.int 1))))) aj))) aj)))))
nonrec abbrev wm(K:Fg):TS:=(aq (av (aC (Pw.B3 K) [] E0 (ae (ar (aD K) (aa 0) (tC (.int 0))) (ae (aa 2) aj))) (al 3))
 (aq (av (aC (Pw.B3 K) [] E0 (ae (ar (aD K) (aa 1) (tC (.int 0))) (ae (aa 2) aj))) (al 4))
 (wn K)))
abbrev qj(K:Fg):TS:=(aq (av (aC nQ [] E0 (ae (ar (aD K) (aa 0) (tC (.int 0))) (ae (ar (aD K) (aa 1) (tC (.int 0))) aj))) (al 2))
 (wm K))
def Cz{K:Fg}:ρ 5 (qO K) (qj K):=by
 fail "R";obtain⟨u,v,x,y,rfl,ru,rv,x0,y0,g2,xb,yb,xe,ye,k⟩:=h;rw[L2.aP hN];walk_at "t";obtain⟨a,rfl,ha⟩:=bN ru;obtain⟨b,rfl,hb⟩:=bN rv;have p8:(2:Nat) ^ 8000<2 ^ 9000:=Tr.pw_lt (by decide);have p2:(2:Nat) ^ 8000<2 ^ 20000:=Tr.pw_lt (by decide);have ox:=E3 g2 x0;have oy:=E3 g2 y0;have gl:=RM x0 (UK x.1 y.1);have k':=k;unfold xA at k';generalize hg:P4 x.1 y.1=g at *;generalize (2:Nat) ^ 8000=P8 at *;unfold qj;cbv;refine aG (SqT.of ha) (v:=.int (x.1:Int)) rfl ?_;cbv;refine aG (SqT.of hb) (v:=.int (y.1:Int)) rfl ?_;cbv;refine⟨_,_,rfl,?_⟩;rw[Fl,hg];cbv;refine aG (SqT.of ha) (v:=.int (x.1:Int)) rfl ?_;cbv;refine⟨x.1,g,rfl,x0,g2,by lia,λp1 H1 S1 r1=>?_⟩;cbv;have Z3:=S1 _ _ hb;have ha1:=S1 _ _ ha;refine aG (SqT.of Z3) (v:=.int (y.1:Int)) rfl ?_;cbv;refine⟨y.1,g,rfl,y0,g2,by lia,λp3 H3 S3 r3=>?_⟩;have ha3:=S3 _ _ ha1;have hb3:=S3 _ _ Z3;obtain⟨_,q1,h1⟩:=bN (r1.same S3);cases q1;obtain⟨_,q3,h3⟩:=bN r3;cases q3;cbv;refine aG (SqT.of h1) (v:=.int (b7 g x.1:Int)) rfl ?_;cbv;refine aG (SqT.of ha3) (v:=.int x.2) rfl ?_;cbv;refine⟨aM,λq1 n1=>?_⟩;have T1:=ak n1 (.tup [.int (b7 g x.1:Int),.int x.2]);have z1:Rz K (upd H3 q1 (.tup [.int (b7 g x.1:Int),.int x.2])) (.ref q1) (jz (b7 g x.1,x.2)):=.tup ag (RpL.ints [_,_]);generalize upd H3 q1 (.tup [.int (b7 g x.1:Int),.int x.2])=H4 at T1 z1 ⊢;cbv;refine aG (SqT.of (T1 _ _ h3)) (v:=.int (b7 g y.1:Int)) rfl ?_;cbv;refine aG (SqT.of (T1 _ _ hb3)) (v:=.int y.2) rfl ?_;cbv;refine⟨aM,λq2 n2=>?_⟩;have T2:=ak n2 (.tup [.int (b7 g y.1:Int),.int y.2]);have z2:Rz K (upd H4 q2 (.tup [.int (b7 g y.1:Int),.int y.2])) (.ref q2) (jz (b7 g y.1,y.2)):=.tup ag (RpL.ints [_,_]);generalize upd H4 q2 (.tup [.int (b7 g y.1:Int),.int y.2])=H5 at T2 z2 ⊢;have T12:=T1.trans T2;cbv;refine aG (SqT.of (T12 _ _ h1)) (v:=.int (bB g x.1:Int)) rfl ?_;cbv;refine aG (SqT.of (T12 _ _ ha3)) (v:=.int x.2) rfl ?_;cbv;refine cP ⟨by show bB g x.1<_;lia,by lia⟩ ?_;cbv;refine aG (SqT.of (T12 _ _ h3)) (v:=.int (bB g y.1:Int)) rfl ?_;cbv;refine aG (SqT.of (T12 _ _ hb3)) (v:=.int y.2) rfl ?_;cbv;refine cP ⟨by show bB g y.1<_;lia,by lia⟩ ?_;cbv;refine⟨aM,λq3 n3=>?_⟩;have T3:=ak n3 (.tup [.int (g:Int),.int (bB g x.1*x.2+bB g y.1*y.2)]);have z3:Rz K (upd H5 q3 (.tup [.int (g:Int),.int (bB g x.1*x.2+bB g y.1*y.2)])) (.ref q3) (jz (g,bB g x.1*x.2+bB g y.1*y.2)):=.tup ag (RpL.ints [_,_]);generalize upd H5 q3 (.tup [.int (g:Int),.int (bB g x.1*x.2+bB g y.1*y.2)])=H6 at T3 z3 ⊢;cbv;refine⟨fG,λl nl=>?_⟩;have T4:=ak nl (.lst [.ref q1,.ref q2,.ref q3]);have S06:=((S1.trans S3).trans T12).trans T3;exact k' l _ ⟨S06.trans T4,S06.free nl,_,ag,.cons (((z1.same T2).same T3).same T4) (.cons ((z2.same T3).same T4) (.cons (z3.same T4) .nil))⟩
abbrev qR(K:Fg):Sp:=λvs H Q _=>∃(a:Addr) (xs:List V) (L:List Pr) (n:Nat),vs=[.ref a,.int (n:Int)]/\H a=some (.lst xs)/\RzL K H xs (L.map jz) /\
 (∀(i:Nat) (y:Pr) (H':Hp),Same H H'->L[i]?=some y->1<P4 y.1 n->Q (.int (i:Int)) H')/\∀H',Same H H'->(∀z∈L,P4 z.1 n<=1)->Q .non H'
abbrev qp(K:Fg):TS:=(aq (a5 (ii K (ae (aa 0) aj)) (cg K 2 (aT (al 2) (aT (al 3) ci)))
 (a8 (aR (ar CV (aC nQ [] E0 (ae (ar (aD K) (aa 3) (tC (.int 0))) (ae (aa 1) aj))) (tC (.int 1))))
 (aI (aa 2))
 bw))
 (aI (tC .non)))
def CD{K:Fg}:ρ 4 (qR K) (qp K):=by
 fail "R";obtain⟨a,xs,L,n,rfl,ha,rx,k1,k2⟩:=h;rw[L2.aP hN];walk_at "t";unfold qp;cbv;refine⟨a,_,rfl,SqL.of ha,?_⟩;refine dB (xs:=xs) (λi σ H2=>∃u1 u2:Option V,σ=[⇑a,↥(n:Int),u1,u2]/\Same H H2/\∀j<i,∀z,L[j]?=some z->P4 z.1 n<=1) ⟨none,none,rfl,Same.refl _,λj hj=>absurd hj (Rq _)⟩ (by rintro i σ H2 _ ⟨_,_,_,S,_⟩;exact SqL.of (S _ _ ha)) ?_ ?_
 .rintro i z σ H2 T hz ⟨u1,u2,rfl,S,d⟩ nT;obtain⟨dd,g1,g2⟩:=rx.get hz;rw[O4] at g1;obtain⟨y,hy,rfl⟩:=Pb.mp g1;have S1:=ak nT (.tup [.int (i:Int),z]);have S2:=S.trans S1;obtain⟨b,rfl,hb⟩:=bN (g2.same S2);have hT:upd H2 T (.tup [.int (i:Int),.ref b]) T=some (.tup [.int (i:Int),.ref b]):=ag;generalize upd H2 T (.tup [.int (i:Int),.ref b])=H3 at S1 S2 hT hb ⊢;refine bI (SqT.of hT) rfl ?_;cbv;refine aG (SqT.of hb) (v:=.int (y.1:Int)) rfl ?_;cbv;refine⟨_,_,rfl,?_⟩;rw[Fl];cbv;refine a9 (λc=>?_) (λc=>?_)
  .cbv;exact k1 i y H3 S2 hy (by lia)
  .cbv;refine⟨_,_,rfl,S2,λj hj z hz=>?_⟩;by_cases e:j=i
   .rw[e,hy] at hz;cases hz;lia
   .exact d j (by lia) z hz
 .rintro σ H2 ⟨u1,u2,rfl,S,d⟩;cbv;refine k2 H2 S λz hz=>?_
  obtain⟨j,hj⟩:=P_ hz
  have:=(O3.mp hj).1
  exact d j (by rw[rx.length,O0];exact this) z hj
def Ls{K:Fg}{ds:List Dat}{d:Dat}{Q:VK}(A:AccZ K H0 l H (ds++[d]))
  (h:∀y H2,Rz K H2 y d->AccZ K H0 l H2 ds->(∀{m:Addr} {es:List Dat},m≠l->AccZ K H0 m H es->AccZ K H0 m H2 es)->Q y H2):Hj (.ref l) [] H Q:=by
 obtain⟨xs,h1,h2⟩:=A.at_
 obtain⟨a,b,rfl,ra,rb⟩:∃a b,xs=a++[b]/\RzL K H a ds/\Rz K H b d:=by
  have ll:=h2.length;rw[Pm] at ll;have ZR:xs≠[]:=λz=>by rw[z] at ll;simp at ll
  refine⟨xs.dropLast,xs.getLast ZR,(Vb ZR).symm,?_⟩;have e:=(Vb ZR).symm;rw[e] at h2;generalize xs.dropLast=a at h2;generalize xs.getLast ZR=b at h2;clear e ll h1 A h ZR
  induction a generalizing ds with
  |nil =>
   cases ds with
   |nil=>cases h2 with|cons r _=>exact⟨.nil,r⟩
   |cons e es=>cases h2 with|cons _ r=>cases es <;> cases r
  |cons x a ih =>
   cases ds with
   |nil=>cases h2 with|cons _ r=>cases a <;> cases r
   |cons e es=>cases h2 with|cons q r=>exact⟨.cons q (ih r).1,(ih r).2⟩
 refine⟨l,a++[b],b,rfl,rfl,h1,by rw[Pm];show(a++[b])[a.length+1-1]? = _;simp,?_⟩;rw[List.dropLast_concat];exact h b _ (Rz.upd rb h1) ⟨A.ag,A.new,a,ag,RzL.upd ra h1⟩ λne B=>B.other ne A.new h1
def oA{K:Fg}{H:Hp}:∀{xs:List V} {ds:List Dat} (i:Nat),RzL K H xs ds->RzL K H (xs.eraseIdx i) (ds.eraseIdx i)
 |_,_,_,.nil=>.nil
 |_,_,0,.cons _ r=>r
 |_,_,i+1,.cons q r=>.cons q (oA i r)
def DK{K:Fg}{d:Dat}{i:Nat}{Q:VK}(A:AccZ K H0 l H ds)(hi:ds[i]?=some d)(n:ds.length<2 ^ 62)
  (h:∀y H2,Rz K H2 y d->AccZ K H0 l H2 (ds.eraseIdx i)->(∀{v:V} {e:Dat},Rz K H v e->Rz K H2 v e)->(∀{m:Addr} {es:List Dat},m≠l->AccZ K H0 m H es->AccZ K H0 m H2 es)->Q y H2):ym (.ref l) [.int (i:Int)] H Q:=by
 obtain⟨xs,h1,h2⟩:=A.at_;have li:=(O3.mp hi).1;have lx:=h2.length;obtain⟨y,hy⟩:∃y,xs[i]?=some y:=⟨_,O1 (by lia)⟩
 obtain⟨e,g1,g2⟩:=h2.get hy;rw[hi] at g1;cases g1;refine⟨l,xs,i,i,y,rfl,rfl,h1,by lia,by lia,?_,hy,h y _ (Rz.upd g2 h1) ⟨A.ag,A.new,_,ag,RzL.upd (oA i h2) h1⟩ (λq=>Rz.upd q h1) λne B=>B.other ne A.new h1⟩;unfold seqIndex?;simp;lia
def LB{K:Fg}{Q:VK}(A:AccZ K H0 l H ds)(hb:H b=some (.lst zs))(rz:RzL K H zs es)(n:ds.length+es.length<=sizeLine)
  (h:∀H2,AccZ K H0 l H2 (ds++es)->(∀{m:Addr} {fs:List Dat},m≠l->AccZ K H0 m H fs->AccZ K H0 m H2 fs)->Q .non H2):i_ (.ref l) [.ref b] H Q:=by
 obtain⟨xs,h1,h2⟩:=A.at_;exact⟨l,b,xs,zs,rfl,rfl,h1,hb,by rw[h2.length,rz.length];exact n,h _ ⟨A.ag,A.new,_,ag,RzL.upd (h2.append rz) h1⟩ λne B=>B.other ne A.new h1⟩
def Bm{c:TT}{tb:TS}{D:cu}{H:Hp}(Pv:Nat->St->Hp->Prop)(h0:Pv m σ H)
  (hs:∀m σ H,Pv m σ H->c σ H λb H1=>if b=true then tb {D with nx:=λσ' H'=>∃k,k<m/\Pv k σ' H',ct:=λσ' H'=>∃k,k<m/\Pv k σ' H',bk:=D.nx} σ H1 else D.nx σ H1)
  (mono:∀σ H Q Q',(∀b H1,Q b H1->Q' b H1)->c σ H Q->c σ H Q'):gR c tb D σ H:=by
 refine⟨Pv,⟨m,h0⟩,λn σ H p=>mono σ H _ _ (λb H1 q=>?_) (hs n σ H p)⟩;cases b with
 |true=>exact⟨_,λσ' H' h=>h,q⟩
 |false=>exact q
abbrev lP(K:Fg):Sp:=λvs H Q _=>∃(a:Addr) (xs:List V) (P0:List Pr),vs=[.ref a]/\H a=some (.lst xs)/\RzL K H xs (P0.map jz)/\(∀x∈P0,0<x.1/\x.1<2 ^ 8000)/\gm P0<2 ^ 8000/\P0.length+(bH (P0.map (·.1))).log2<2 ^ 20 /\
 ∀(p:Addr) (H':Hp) (T:List Pr),AccZ K H p H' (T.map jz)->EA (T.map (·.1))->(∀x∈T,x.2≠0)->(∀f,Add f->SF f T=SF f P0)->T.length<2 ^ 20->Q (.ref p) H'
def qd:∀{L:List Pr} {x:Pr},x∈L->2<=x.1->x.2.natAbs<=gm L
 |y :: L,x,h,h2=>by
  show _<=y.2.natAbs*y.1.log2+gm L;rcases Py.mp h with e|e
  .subst e
   have:1<=x.1.log2:=(W1 (by lia)).mpr (by lia)
   have:=PU x.2.natAbs this
   lia
  .have:=qd e h2
   lia
nonrec abbrev xj(K:Fg):TS:=(a8 (aR (ar CU (aa 4) (tC .non)))
 (bM (dU K "list" aN (aa 1) (ae (aa 3) aj)))
 (bM (dU K "list" i_ (aa 2) (ae (aC (Pw.qO K) [] E0 (ae (aa 3) (ae (dU K "list" ym (aa 1) (ae (aa 4) aj)) aj))) aj))))
nonrec abbrev xi(K:Fg):TS:=(a8 (jR (aR (ar CV (ar (aD K) (aa 3) (tC (.int 0))) (tC (.int 1)))) (aR (ar EK (ar (aD K) (aa 3) (tC (.int 1))) (tC (.int 0)))))
 (aq (av (aC (Pw.qR K) [] E0 (ae (aa 1) (ae (ar (aD K) (aa 3) (tC (.int 0))) aj))) (al 4))
 (xj K))
 bw)
abbrev qF(K:Fg):TS:=(aq (av (bU aj) (al 1))
 (aq (av (b_ (fJ K) (ae (aa 0) aj)) (al 2))
 (aq (gR (aR (ar CV (b_ (cH K) (ae (aa 2) aj)) (tC (.int 0))))
 (aq (av (Gp K "list" Hj (aa 2)) (al 3))
 (xi K)))
 (aI (aa 1)))))
def CQ{K:Fg}:ρ 5 (lP K) (qF K):=by
 fail "R";obtain⟨a,xs,P0,rfl,ha,rx,pos,ht,hc,k⟩:=h;rw[L2.aP hN];walk_at "t";obtain⟨B,hB⟩:∃B,B+1=2 ^ 8000:=⟨2 ^ 8000-1,Nat.sub_add_cancel (Qy (by decide))⟩
 rw[<- hB] at pos ht;have s24:sizeLine=16777216:=by decide
 have lt8:∀{n:Nat},n<=B->n<2 ^ 8000:=λ{n} h=>by rw[<- hB];lia
 unfold qF;cbv;refine⟨by show 0<=sizeLine;exact Ql _,λl nl=>?_⟩;have A1:AccZ K H l (upd H l (.lst [])) []:=AccZ.start (Same.refl _) nl;have ha1:=ak nl (.lst []) _ _ ha;have rx1:=rx.same (ak nl (.lst []));generalize upd H l (.lst [])=H1 at A1 ha1 rx1 ⊢;cbv;refine rS (SqL.of ha1) λm nm=>?_
 have Sm_:=ak nm (.lst xs);have lm:l≠m:=λz=>by obtain⟨_,h1,_⟩:=A1.at_;rw[z,nm] at h1;cases h1
 have A2:=A1.on Sm_;have A3:AccZ K H m (upd H1 m (.lst xs)) (P0.map jz):=⟨A2.same,A1.same.free nm,xs,ag,rx1.same Sm_⟩
 generalize upd H1 m (.lst xs)=H2 at A2 A3 ⊢;cbv
 refine Bm (λn σ H'=>∃(told left:List Pr) (u1 u2:Option V),n=mu told left/\σ=[⇑a,⇑l,⇑m,u1,u2]/\AccZ K H l H' (told.map jz)/\AccZ K H m H' (left.map jz)/\Ap P0 B (gm P0) (P0.length+(bH (P0.map (·.1))).log2) told left)
  ⟨[],P0,none,none,rfl,rfl,A2,A3,Ap.start λx hx=>⟨(pos x hx).1,by have:=(pos x hx).2;lia⟩⟩ ?_ ?_
 .rintro _ σ H3 ⟨told,left,u1,u2,rfl,rfl,AT,AL,ap⟩;have few:=ap.few;obtain⟨zs,hz,rz⟩:=AL.at_;have lz:zs.length=left.length:=by rw[rz.length,O0]
  cbv;refine cR (SqL.of hz) ?_;cbv;rw[lz];refine a9 (λc=>?_) (λc=>?_)
  .rcases List.eq_nil_or_concat left with e|⟨L,x,e⟩
   .rw[e] at c;simp at c
   rw[List.concat_eq_append] at e;subst e;rw[O_] at AL;have lf:told.length+(L.length+1)<2 ^ 20:=by rw[Pm] at few;show told.length+(L.length+[x].length)<_;lia
   cbv;refine⟨AL.ty,Ls (ds:=L.map jz) AL λy H4 ry AL4 bX=>?_⟩;have AT4:=bX lm AT;obtain⟨b,rfl,hb⟩:=bN ry;cbv;refine aG (SqT.of hb) (v:=.int (x.1:Int)) rfl ?_;cbv;refine a9 (λc1=>?_) (λc1=>?_)
   .cbv;refine aG (SqT.of hb) (v:=.int x.2) rfl ?_;cbv;refine gW (λc2=>?_) (λc2=>?_)
    .have x2:1<x.1:=by lia
     obtain⟨ys,hy,rY⟩:=AT4.at_;cbv;refine aG (SqT.of hb) (v:=.int (x.1:Int)) rfl ?_;cbv;refine⟨l,ys,told,x.1,rfl,hy,rY,λi y H5 S5 hi hg=>?_,λH5 S5 no=>?_⟩
     .have AT5:=AT4.on S5;have AL5:=AL4.on S5;have rx5:=ry.same S5;cbv;refine a9 (λz=>nomatch z) (λ_=>?_);cbv;refine⟨AL5.ty,?_⟩;cbv;refine⟨AT5.ty,?_⟩;cbv;refine DK AT5 (d:=jz y) (i:=i) (by rw[O4,hi];rfl) (by rw[O0];lia) λy' H6 ry' AT6 rz6 oth6=>?_
      have AL6:=oth6 (λz=>lm z.symm) AL5;have hyT:=O7 hi;have y2:2<=y.1:=ap.apt.1 y.1 (QK hyT);have yB:=ap.bT y hyT;have xB:=ap.bL x (PB _ O8);have le:=ap.le;have t1:=qd hyT y2;have t2:=qd (L:=L++[x]) (PB _ O8) (by lia:2<=x.1);have g2:2<=P4 x.1 y.1:=by rw[Nat.gcd_comm];exact hg
      cbv;refine⟨_,y',x,y,rfl,rz6 rx5,ry',by lia,by lia,g2,lt8 xB,lt8 yB,lt8 (by lia),lt8 (by lia),λp H7 A7=>?_⟩;obtain⟨zs7,h7,r7⟩:=A7.at_;cbv;have s1:=ap.split hi hg;have AL7:=AL6.on A7.same;refine LB AL7 h7 r7 (by rw[O0,O0];show L.length+3<=_;lia) λH8 AL8 oth8=>?_
      have AT8:=oth8 lm (AT6.on A7.same);cbv;exact⟨_,s1.2,told.eraseIdx i,L++xA x y,_,_,rfl,rfl,by rw[<- Ag];exact AT8,by rw[O_];exact AL8,s1.1⟩
     .have AT5:=AT4.on S5;have AL5:=AL4.on S5;cbv;refine a9 (λ_=>?_) (λz=>absurd rfl z);cbv;refine⟨AT5.ty,?_⟩;cbv;refine b6 AT5 (ry.same S5) (by rw[O0];lia) λH6 AT6 rz6 _ oth6=>?_
      have AL6:=oth6 (λz=>lm z.symm) AL5;cbv;exact⟨_,(ap.keep x2 c2 no).2,told++[x],L,_,_,rfl,rfl,by rw[O_];exact AT6,AL6,(ap.keep x2 c2 no).1⟩
    .cbv;have dr:=ap.drop λz=>z.2 c2
     exact⟨_,dr.2,told,L,_,_,rfl,rfl,AT4,AL4,dr.1⟩
   .cbv;have dr:=ap.drop λz=>c1 (by lia)
    exact⟨_,dr.2,told,L,_,_,rfl,rfl,AT4,AL4,dr.1⟩
  .have e:left=[]:=Qq (by lia);subst e;cbv;exact k l H3 told AT ap.apt ap.ne (λf hf=>by have:=ap.sf f hf;simpa[SF] using this) (by lia)
 .rintro σ H' R R' h ⟨w1,e1,p,ys,e3,e4,i,j,e5,e6,kk,e7,q⟩;exact⟨w1,e1,p,ys,e3,e4,i,j,e5,e6,kk,e7,h _ _ q⟩
abbrev wl(w:Nat->Rat)(n:Nat):List (Nat×Nat):=(Pi n).map λi=>((w i).num.natAbs,(w i).den)
def vR:∀{A B:List (Nat×Nat)} {R S:List Int},A.length=R.length->gi (A++B) (R++S)=gi A R++gi B S
 |[],_,[],_,_=>rfl
 |_ :: A,B,_ :: R,S,h=>by show _ :: _ :: gi (A++B) (R++S)=_;rw[vR (by simpa using h)];rfl
def qc:∀{A:List (Nat×Nat)} {R:List Int},A.length=R.length->(gi A R).length=2*R.length
 |[],[],_=>rfl
 |_ :: A,_ :: R,h=>by show(gi A R).length+2=2*(R.length+1);rw[qc (by simpa using h)];lia
abbrev BZ(K:Fg):Sp:=λvs H Q _=>∃(a b:Addr) (xs:List V) (row:List Int) (w:Nat->Rat),vs=[.ref a,.ref b]/\H a=some (.lst xs)/\H b=some (.lst (row.map V.int))/\xs.length=row.length/\row.length<=100/\(∀i x,xs[i]?=some x->Tr.QV K H x (w i)/\0<(w i).num) /\
 ∀(p:Addr) (H':Hp),AccZ K H p H' ((gi (wl w row.length) row).map jz)->Q (.ref p) H'
nonrec abbrev F3 (K:Fg):TS:=(aq (bM (dU K "list" aN (aa 2) (ae (be (ae (ar (aD K) (aa 3) (tC (.int 0))) (ae (aa 4) aj))) aj)))
 (bM (dU K "list" aN (aa 2) (ae (be (ae (ar (aD K) (aa 3) (tC (.int 1))) (ae (Jk (rU λi=>.int (-i)) (aa 4)) aj))) aj))))
abbrev F5(K:Fg):TS:=(aq (av (bU aj) (al 2))
 (aq (a5 (pA K .L .L (ae (aa 0) (ae (aa 1) aj))) (cg K 2 (aT (al 3) (aT (al 4) ci)))
 (F3 K))
 (aI (aa 2))))
def JO{K:Fg}:ρ 5 (BZ K) (F5 K):=by
 fail "R";obtain⟨a,b,xs,row,w,rfl,ha,hb,lx,l1,qx,k⟩:=h;rw[L2.aP hN];walk_at "t";unfold F5;cbv;refine⟨by show 0<=sizeLine;exact Ql _,λl nl=>?_⟩;have A1:AccZ K H l (upd H l (.lst [])) []:=AccZ.start (Same.refl _) nl;generalize upd H l (.lst [])=H1 at A1 ⊢;cbv;refine⟨a,b,xs,_,rfl,SqL.of (A1.same _ _ ha),SqL.of (A1.same _ _ hb),?_⟩;refine rX (n:=row.length) lx (by rw[O0]) (λi σ H2=>∃u1 u2:Option V,σ=[⇑a,⇑b,⇑l,u1,u2]/\AccZ K H l H2 ((gi (wl w i) (row.take i)).map jz)) ⟨none,none,rfl,A1⟩ (λi σ H2 _ ⟨_,_,_,A⟩=>⟨SqL.of (A.same _ _ ha),SqL.of (A.same _ _ hb)⟩) ?_ ?_
 .rintro i x y σ H2 T hx hy ⟨u1,u2,rfl,A2⟩ nT;rw[O4] at hy;obtain⟨e,he,rfl⟩:=Pb.mp hy;have li:=(O3.mp he).1;obtain⟨q,wp⟩:=qx i x hx;have S3:=ak nT (.tup [x,.int e]);have A3:=A2.on S3;have hT:upd H2 T (.tup [x,.int e]) T=some (.tup [x,.int e]):=ag;generalize upd H2 T (.tup [x,.int e])=H3 at S3 A3 hT ⊢;refine bI (SqT.of hT) rfl ?_;have nn:((w i).num.natAbs:Int)=(w i).num:=by lia
  have lw:(wl w i).length=(row.take i).length:=by unfold wl;rw[O0,PN,Px];lia
  have ll:=qc lw;rw[Px] at ll
  have em:(gi (wl w (i+1)) (row.take (i+1))).map jz=(gi (wl w i) (row.take i)).map jz++[jz ((w i).num.natAbs,e)]++[jz ((w i).den,-e)]:=by
   rw[Ps,he,show wl w (i+1)=wl w i++[((w i).num.natAbs,(w i).den)] by unfold wl;rw[Rr,O_];rfl,vR lw,O_,QF];rfl
  cbv;refine⟨A3.ty,?_⟩;cbv;obtain⟨p,rfl,hp⟩:=q.same A3.same;refine aG hp (v:=.int (w i).num) rfl ?_;cbv;refine⟨aM,λt nt=>?_⟩;have S4:=ak nt (.tup [.int (w i).num,.int e])
  have z4:Rz K (upd H3 t (.tup [.int (w i).num,.int e])) (.ref t) (jz ((w i).num.natAbs,e)):=by
   show Rz K _ _ (dI [((w i).num.natAbs:Int),e]);rw[nn];exact .tup ag (RpL.ints [_,_])
  have A4:=A3.on S4;generalize upd H3 t (.tup [.int (w i).num,.int e])=H4 at S4 z4 A4 ⊢;cbv;refine b6 A4 z4 (au (by rw[O0,ll];lia)) λH5 A5 _ _ _=>?_
  cbv;refine⟨A5.ty,?_⟩;cbv;obtain⟨p',e',hp'⟩:=(qx i _ hx).1.same A5.same;cases e';refine aG hp' (v:=.int ((w i).den:Int)) rfl ?_;cbv;refine⟨aM,λt' nt'=>?_⟩;have S6:=ak nt' (.tup [.int ((w i).den:Int),.int (-e)]);have z6:Rz K (upd H5 t' (.tup [.int ((w i).den:Int),.int (-e)])) (.ref t') (jz ((w i).den,-e)):=.tup ag (RpL.ints [_,_]);have A6:=A5.on S6;generalize upd H5 t' (.tup [.int ((w i).den:Int),.int (-e)])=H6 at S6 z6 A6 ⊢;cbv;refine b6 A6 z6 (au (by rw[Pm,O0,ll];show _+1<=_;lia)) λH7 A7 _ _ _=>?_
  cbv;exact⟨_,_,rfl,by rw[em];exact A7⟩
 .rintro σ H2 ⟨u1,u2,rfl,A2⟩;cbv;rw[QC] at A2;exact k l H2 A2
open PySem L2 Fr G1 Sm Vs G2 Rk Sz Sf Rw Ti Lo Lc Tr
def Io{a b:Nat}(ha:0<a)(hb:0<b):(a*b).log2<=a.log2+b.log2+1:=by
 have:a*b<2 ^ (a.log2+b.log2+2):=by
  rw[show a.log2+b.log2+2=(a.log2+1)+(b.log2+1) by lia,QU];exact UJ Yn Yn
 have:=(WS (SZ (Qa ha hb))).mpr this
 lia
def uh{c M:Nat}:∀{L:List Pr},(∀x∈L,0<x.1/\x.1<2 ^ c/\x.2.natAbs<=M)->gm L<=L.length*(M*c)/\0<bH (L.map (·.1))/\(bH (L.map (·.1))).log2<=L.length*(c+1)
 |[],_=>⟨Ql _,by decide,by show Nat.log2 1<=0*(c+1);rw[TK];decide⟩
 |x :: L,h=>by
  obtain⟨a,b,e⟩:=uh (c:=c) (M:=M) (L:=L) λy hy=>h y (O9 _ hy)
  obtain⟨x0,xc,xm⟩:=h x O8;have l:x.1.log2<=c:=Rx ((WS (by lia)).mpr xc);refine⟨?_,Qa x0 b,?_⟩
  .show x.2.natAbs*x.1.log2+gm L<=(L.length+1)*(M*c);rw[Sx]
   have:=PX xm l
   lia
  .show(x.1*bH (L.map (·.1))).log2<=(L.length+1)*(c+1);rw[Sx]
   have:=Io x0 b
   lia
def vQ{P:Nat×Nat->Prop}{M:Nat}{x:Pr}:∀{W:List (Nat×Nat)} {R:List Int},(∀w∈W,P w)->(∀c∈R,c.natAbs<=M)->x∈gi W R->(∃w,P w/\(x.1=w.1\/x.1=w.2))/\x.2.natAbs<=M
 |w :: W,e :: R,hW,hR,h=>by
  rcases Py.mp h with q|q
  .rw[q];exact⟨⟨w,hW w O8,.inl rfl⟩,hR e O8⟩
  .rcases Py.mp q with q|q
   .rw[q];exact⟨⟨w,hW w O8,.inr rfl⟩,by show(-e).natAbs<=M;rw[Int.natAbs_neg];exact hR e O8⟩
   .exact vQ (λy hy=>hW y (O9 _ hy)) (λy hy=>hR y (O9 _ hy)) q
 |[],_,_,_,h=>by cases h
 |_ :: _,[],_,_,h=>by cases h
structure jF (w:Nat) (ts:List Tn):Prop where
 co:Jg w ts
 h8:(aF ts).length<=8
 l8:(cO ts).length<=8
 wide:Wide w (aF ts)
 bnd:Bi 2 (aF ts)
 nn:∀r∈aF ts,∀c∈r,0<=c
 pa:cr ts
abbrev wW (ts:List Tn):List (Nat×Nat):=wl (Wt ts) (aF ts).length
abbrev mks(ts:List Tn):List (List Int):=(MU (dm ts)).makers
abbrev iw(ts:List Tn):Prop:=∀j,As.Fine (am ts) j
abbrev tm(K:Fg):Sp:=λvs H Q _=>∃(v:V) (ws:List Str) (ts:List Tn) (w:Nat),vs=[v]/\Rz K H v (dV ws ts)/\jF w ts /\
 (∀(i x y:Nat) (p:Addr) (H':Hp),(am ts)[i]?=some (x,y)->(∀j<i,As.Fine (am ts) j)->¬ Rch (am ts) y x->Same H H'->H p=none->H' p=some (.tup [.bl false,.int (i:Int)])->Q (.ref p) H') /\
 (∀(j:Nat) (m:List Int) (p r:Addr) (H':Hp),iw ts->(mks ts)[j]?=some m->(∀i<j,∀m',(mks ts)[i]?=some m'->One (wW ts) m')->¬ One (wW ts) m->Same H H'->H p=none->H r=none->H' p=some (.tup [.bl false,.ref r])->H' r=some (.lst (m.map V.int))->Q (.ref p) H') /\
 ∀(p f:Addr) (xs:List V) (H':Hp),iw ts->(∀m∈mks ts,One (wW ts) m)->Same H H'->H p=none->H f=none->H' p=some (.tup [.bl true,.ref f])->H' f=some (.lst xs)->xs.length=(aF ts).length->(∀i x,xs[i]?=some x->QV K H' x (Wt ts i))->Q (.ref p) H'
def IZ(pa:cr ts)(t8:ts.length<=8)(h8:(aF ts).length<=8){h:Nat}(hh:h<(aF ts).length):Bq 3900 (Wt ts h):=by
 have p1:=jE pa;refine eU pa t8 (Mu pa t8 h8 hh) (Qy p1) (Ph p1 (by decide)) ?_;unfold MM;exact PX (by lia) (Ph (Qa (by decide) p1) (by decide))
nonrec abbrev fO(ts:List Tn):List Nat:=aY (aF ts).length (am ts)
def zr(hw:Wide w (aF ts)){j:Nat}(hj:j<(aF ts).length)(q:Nat) :
  pt ((dm ts).getD j []) q=if q<w then pt ((aF ts).getD j []) q else pt ((Lk.reps (fO ts)).map λv=>if at_ (fO ts) j=v then 1 else 0) (q-w):=by
 rw[DH,O2,O4,Qs hj];show pt (_++_) q=_;rw[Lk.Ke,LX hw hj]
def Ka{l:List Nat}{a:Nat}:pt (l.map λv=>if a=v then (1:Int) else 0) q=if l[q]?=some a then 1 else 0:=by
 unfold pt;rw[O2,O4];cases l[q]? with
 |none=>rfl
 |some v =>
  show(if a=v then (1:Int) else 0)=_;by_cases c:a=v
  .rw[if_pos c,if_pos (by rw[c])]
  .rw[if_neg c,if_neg λz=>c (PD z).symm]
def fX(o:jF w ts){m:List Int}(hm:m∈mks ts):m.length=(aF ts).length/\(∀q,bC m (dm ts) q=0)/\∀c∈m,c.natAbs<2 ^ 800:=by
 have hw:=kz o.wide;have hb:=o7 o.bnd;have G:=(Mk.K3 hw (by decide) hb (dm ts).length (Pa _)).good m hm;refine⟨G.len.trans (f7 ts),G.nought,λc hc=>PL (G.bnd c hc) (Ph (by decide) ?_)⟩;have h8:=o.h8;refine Pj (show bits 2 _<=bits 2 8 from ?_) (by decide);unfold bits;exact Nat.sub_le_sub_right (PU _ (Ph (by decide) (Pj (V_ _ _) (by rw[f7];exact h8)))) 1
def JN(o:jF w ts)(af:iw ts){m:List Int}(lm:m.length=(aF ts).length)(bm:∀c∈m,c.natAbs<=2 ^ 800) :
  (∀x∈gi (wW ts) m,0<x.1/\x.1<2 ^ 8000)/\gm (gi (wW ts) m)<2 ^ 8000/\(gi (wW ts) m).length+(bH ((gi (wW ts) m).map (·.1))).log2<2 ^ 20:=by
 have h8:=o.h8;have lw:(wW ts).length=m.length:=by unfold wW wl;rw[O0,PN,lm]
 have ll:=qc lw
 have all:∀x∈gi (wW ts) m,0<x.1/\x.1<2 ^ 3900/\x.2.natAbs<=2 ^ 800:=λx hx=>by
  obtain⟨⟨u,⟨a,b,c,d⟩,e⟩,f⟩:=vQ (P:=λu=>0<u.1/\0<u.2/\u.1<2 ^ 3900/\u.2<2 ^ 3900) (M:=2 ^ 800) (λu hu=>by
   unfold wW wl at hu
   obtain⟨i,hi,rfl⟩:=Pl.mp hu
   have li:=PJ.mp hi
   have wb:=IZ o.pa o.co.le o.h8 li
   have wp:=jC o.pa (λe he=>by obtain⟨j,hj⟩:=P_ he;exact af j e.1 e.2 hj) li
   exact⟨by show 0<(Wt ts i).num.natAbs;lia,P5 (Wt ts i).den_nz,wb.1,wb.2⟩) bm hx
  rcases e with e|e <;> rw[e]
  .exact⟨a,c,f⟩
  .exact⟨b,d,f⟩
 obtain⟨t1,t2,t3⟩:=uh all;have p1:(2:Nat) ^ 3900<2 ^ 8000:=pw_lt (by decide);have p2:16*(2 ^ 800*3900)<(2:Nat) ^ 8000:=PL (by decide:16*(2 ^ 800*3900)<2 ^ 820) (Ph (by decide) (by decide));refine⟨λx hx=>⟨(all x hx).1,Qo (all x hx).2.1 p1⟩,Pk (Pj t1 (Qe _ (by lia))) p2,?_⟩
 have:=Qe (3900+1) (by lia:(gi (wW ts) m).length<=16)
 lia
def OR(o:jF w ts)(af:iw ts){m:List Int}(hm:m∈mks ts) :
  (∀x∈gi (wW ts) m,0<x.1/\x.1<2 ^ 8000)/\gm (gi (wW ts) m)<2 ^ 8000/\(gi (wW ts) m).length+(bH ((gi (wW ts) m).map (·.1))).log2<2 ^ 20:=by
 obtain⟨lm,_,bm⟩:=fX o hm;exact JN o af lm λc hc=>Rx (bm c hc)
nonrec abbrev BU(K:Fg):TS:=(aq (a5 (cx K (aC (qU K) [] E0 (ae (aa 0) aj))) (al 3)
 (a8 (aR (ar CV (b_ (cH K) (ae (aC (Pw.lP K) [] E0 (ae (aC (Pw.BZ K) [] E0 (ae (aa 2) (ae (aa 3) aj))) aj)) aj)) (tC (.int 0))))
 (aI (be (ae (tC (.bl false)) (ae (aa 3) aj))))
 bw))
 (aI (be (ae (tC (.bl true)) (ae (aa 2) aj)))))
abbrev wX(K:Fg):TS:=(aq (av (aC (As.lO K) [] E0 (ae (aa 0) aj)) (al 1))
 (aq (a8 (aR (ar J4 (aa 1) (tC .non)))
 (aI (be (ae (tC (.bl false)) (ae (aa 1) aj))))
 bw)
 (aq (av (aC (qM K) [] E0 (ae (aa 0) aj)) (al 2))
 (BU K))))
def G8{K:Fg}:ρ 4 (tm K) (wX K):=by
 fail "R";obtain⟨v,ws,ts,w,rfl,rv,o,k1,k2,k3⟩:=h;rw[L2.aP hN];walk_at "t";have t8:=o.co.le;have h8:=o.h8;unfold wX;cbv;refine⟨v,ws,ts,rfl,rv,by lia,λi x y he fi nr H1 S1=>?_,λaf H1 S1=>?_⟩
 .cbv;refine gW (λ_=>?_) (λz=>nomatch z);cbv;refine⟨aM,λp np=>?_⟩;exact k1 i x y p _ he fi nr (S1.trans (ak np _)) (S1.free np) ag
 .have af:iw ts:=af;cbv;refine gW (λz=>absurd rfl z) (λ_=>?_);cbv;refine⟨v,ws,ts,rfl,rv.same S1,t8,h8,o.pa,λf H2 xs nf S2 hf lf qf=>?_⟩;have S02:=S1.trans S2;cbv;refine⟨v,ws,ts,w,rfl,rv.same S02,o.co,h8,o.l8,o.wide,o.bnd,λpl H3 S3 r3=>?_⟩;have S03:=S02.trans S3;obtain⟨_,ys,e,_,hpl,ry⟩:=r3.kx;cases e;have ly:ys.length=(mks ts).length:=by rw[ry.length,O0];rfl
  cbv;refine⟨pl,rfl,⟨ys,SqL.of hpl⟩,?_⟩;refine bn (xs:=ys) (λj σ H4=>∃u:Option V,σ=[some v,some .non,⇑f,u]/\Same H3 H4/\∀i<j,∀m',(mks ts)[i]?=some m'->One (wW ts) m') ⟨none,rfl,Same.refl _,λi hi=>absurd hi (Rq _)⟩ (by rintro i σ H4 _ ⟨_,_,S4,_⟩;exact SqL.of (S4 _ _ hpl)) ?_ ?_
  .rintro j y σ H4 hy ⟨u,rfl,S4,dn⟩;obtain⟨dd,g1,g2⟩:=ry.get hy;rw[O4] at g1;obtain⟨m,hm,rfl⟩:=Pb.mp g1;have hm':(mks ts)[j]?=some m:=hm;have mem:=O7 hm';obtain⟨r,zs,rfl,nr,hr,rz⟩:=g2.kx;rw[RpL.ints_of rz] at hr;obtain⟨lm,_,bm⟩:=fX o mem;obtain⟨a1,a2,a3⟩:=OR o af mem;have bk:∀e∈am ts,Rch (am ts) e.2 e.1:=λe he=>by obtain⟨j,hj⟩:=P_ he;exact af j e.1 e.2 hj
   cbv;refine⟨f,r,xs,m,Wt ts,rfl,S4 _ _ (S3 _ _ hf),S4 _ _ hr,by lia,by lia,λi x hx=>⟨((qf i x hx).same S3).same S4,jC o.pa bk (by have:=(O3.mp hx).1;lia)⟩,λq H5 A5=>?_⟩;obtain⟨zs5,h5,r5⟩:=A5.at_;rw[show wl (Wt ts) m.length=wW ts by rw[lm];rfl] at r5;cbv;refine⟨q,zs5,_,rfl,h5,r5,a1,a2,a3,λt H6 T A6 ap ne sf lt=>?_⟩;obtain⟨zs6,h6,r6⟩:=A6.at_;have l6:zs6.length=T.length:=by rw[r6.length,O0]
   have on:=yR (W:=wW ts) (R:=m) ap ne sf;cbv;refine cR (SqL.of h6) ?_;rw[l6];cbv;have S06:=S03.trans (S4.trans (A5.same.trans A6.same));refine a9 (λc=>?_) (λc=>?_)
   .have no : ¬ One (wW ts) m:=λz=>by rw[on.mp z] at c;simp at c
    cbv;refine⟨aM,λp np=>?_⟩;have S7:=ak np (.tup [.bl false,.ref r]);exact k2 j m p r _ af hm' dn no (S06.trans S7) (S06.free np) (S02.free nr) ag (S7 _ _ (A6.same _ _ (A5.same _ _ (S4 _ _ hr))))
   .have ye:One (wW ts) m:=on.mpr (Qq (by lia));cbv;refine⟨_,rfl,S4.trans (A5.same.trans A6.same),λi hi m' h'=>?_⟩;by_cases ij:i=j
    .rw[ij,hm'] at h';cases h';exact ye
    .exact dn i (by lia) m' h'
  .rintro σ H4 ⟨u,rfl,S4,dn⟩;cbv;refine⟨aM,λp np=>?_⟩;have S04:=S03.trans S4;have S7:=ak np (.tup [.bl true,.ref f]);refine k3 p f xs _ af (λm hm=>?_) (S04.trans S7) (S04.free np) (S1.free nf) ag (S7 _ _ (S4 _ _ (S3 _ _ hf))) lf λi x hx=>(((qf i x hx).same S3).same S4).same S7
   obtain⟨i,hi⟩:=P_ hm
   have:=(O3.mp hi).1
   exact dn i (by lia) m hi
def EC{f:Nat->Int}:∀{A:List (Nat×Nat)} {R:List Int} (x:Nat×Nat) (e:Int),A.length=R.length->vs f (A++[x]) (R++[e])=vs f A R+e*(f x.1-f x.2)
 |[],[],x,e,_=>by show e*_+0=0+e*_;lia
 |a :: A,c :: R,x,e,h=>by show c*_+vs f (A++[x]) (R++[e])=c*_+vs f A R+_;rw[EC x e (by simpa using h)];lia
open Bo (sm bS)
open Cl Mk
def y_(o:jF w ts){m:List Int}(hm:m∈mks ts) :
  (∀s,s<w->sm (aF ts).length (λk=>pt ((aF ts).getD k []) s*pt m k)=0)/\∀k,k<(aF ts).length->sm (aF ts).length (λi=>if at_ (fO ts) i=at_ (fO ts) k then pt m i else 0)=0:=by
 obtain⟨lm,z,_⟩:=fX o hm;have F:=bR (bO ts)
 have e:∀q,sm (aF ts).length (λj=>pt ((dm ts).getD j []) q*pt m j)=0:=λq=>by
  rw[<- z q,<- xT,Mb.EH,f7]
 refine⟨λs hs=>?_,λk hk=>?_⟩
 .exact Eq.trans (bS λj hj=>by rw[zr o.wide hj,if_pos hs]) (e s)
 .have mv:at_ (fO ts) k∈Lk.reps (fO ts):=by
   have kl:k<(fO ts).length:=by rw[F.len];exact hk
   exact Lk.DB.mpr ⟨Pk (F.le k hk) kl,F.fix k hk⟩
  obtain⟨l,hl⟩:=P_ mv;refine Eq.trans (bS λj hj=>?_) (e (w+l));rw[zr o.wide hj,if_neg (show ¬ w+l<w by lia),show w+l-w=l by lia,Ka,hl];by_cases c:at_ (fO ts) j=at_ (fO ts) k
  .rw[if_pos c,if_pos (by rw[c]),TB]
  .rw[if_neg c,if_neg λz=>c (PD z).symm,RL]
end Pw
namespace Pw
open PySem L2 Fr G1 Sm Vs G2 Rk Sz Sf Rw Ti Lo Lc Tr
open Bo (sm bS fF)
abbrev pr:Nat->(Nat->Rat)->Rat
 |0,_=>1
 |n+1,f=>pr n f*f n
abbrev hv(w:Nat)(u:Nat->Rat)(r:List Int):Rat:=pr w λs=>u s ^ (pt r s).toNat
def yx{f:Nat->Rat}:∀{n:Nat},(∀s,s<n->0<f s)->0<pr n f
 |0,_=>by show(0:Rat)<1;decide
 |n+1,h=>Rv (yx λs hs=>h s (by lia)) (h n (by lia))
def Jp{g:Nat->Int}(hg:Add g){f:Nat->Rat}:∀{n:Nat},(∀s,s<n->0<f s)->Ev.vr g (pr n f)=sm n λs=>Ev.vr g (f s)
 |0,_=>Ev.kf hg
 |n+1,h=>by
  show Ev.vr g (pr n f*f n)=_;rw[Ev.fe hg (yx λs hs=>h s (by lia)) (h n (by lia)),Jp hg λs hs=>h s (by lia)];rfl
def LV{u:Nat->Rat}(up:∀s,0<u s)(r:List Int):0<hv w u r:=yx λs _=>(Ev.sM (f:=λ_=>0) ⟨λ_ _ _ _=>rfl⟩ (up s) _).1
abbrev Di(t:Tn):Rat:=PH t.q t.d
inductive Bh (w:Nat) (u:Nat->Rat):List Tn->Prop
 |nil:Bh w u []
 |cons (x y:Tn) (ts:List Tn):y.fr=x.to->y.to=x.fr->Di x*hv w u x.fr=Di y*hv w u y.fr->Bh w u ts->Bh w u (ts++[x,y])
def E9{α:Type}{F:α->Rat}{G:Nat->Rat}{l:List α}(h:∀k x,l[k]?=some x->G k=F x):ls (Pi l.length) G=ls l F:=by
 unfold ls;congr 1;refine Sy λi=>?_
 rw[O4,O4];by_cases c:i<l.length
 .rw[Qs c,O1 c];exact congrArg some (h i _ (O1 c))
 .rw[PY (by rw[PN];lia),PY (by lia)];rfl
def AM{r:List Int}(h:Bh w u ts):ls ts (λt=>if t.to=r then Di t*hv w u t.fr else 0)=ls ts λt=>if t.fr=r then Di t*hv w u t.fr else 0:=by
 induction h with
 |nil=>rfl
 |cons x y ts e1 e2 e3 _ ih =>
  rw[ky,ky,ih];congr 1;rw[aV,aV,oX,aV,aV,oX,e2,e1,<- e1,<- e3,e1];rw[RN,RN,Rat.add_comm]
def mS{ts:List Tn}{k:Nat}{t:Tn}(h:ts[k]?=some t):fro (am ts) k=ix (aF ts) t.fr/\tow (am ts) k=ix (aF ts) t.to/\bW ts k=Di t:=by
 unfold fro tow bW;rw[O2,h];unfold am;rw[O4,h];exact⟨rfl,rfl,rfl⟩
def DP{x:List Int}(hx:x∈aF ts){j:Nat}(hj:j<(aF ts).length):ix (aF ts) x=j↔x=(aF ts).getD j []:=by
 constructor
 .intro e;rw[<- e,ju hx]
 .intro e;have a:=DQ hx;have b:(aF ts)[j]?=some x:=by rw[e,O2,O1 hj];rfl
  obtain⟨l1,e1⟩:=O3.mp a;obtain⟨l2,e2⟩:=O3.mp b;have i1:=V3 (pB ts) _ l1;have i2:=V3 (pB ts) _ l2;rw[e1] at i1;rw[e2] at i2;lia
def Mp(h:Bh w u ts):OD (am ts) (bW ts) (λh=>hv w u ((aF ts).getD h [])) (aF ts).length:=by
 intro j hj;have le:(am ts).length=ts.length:=by unfold am;rw[O0]
 have mem:∀t∈ts,t.fr∈aF ts/\t.to∈aF ts:=λt ht=>du (hs:=[]) ht
 rw[cJ,cJ,le];rw[E9 (F:=λt=>if t.to=(aF ts).getD j [] then Di t*hv w u t.fr else 0) λk t ht=>?_,E9 (F:=λt=>if t.fr=(aF ts).getD j [] then Di t*hv w u t.fr else 0) λk t ht=>?_]
 .exact AM h
 .obtain⟨e1,e2,e3⟩:=mS ht;have m:=mem t (O7 ht);show(if (_ == j)=true then bW ts k*hv w u ((aF ts).getD (fro (am ts) k) []) else 0)=_;rw[e1,e3,ju m.1];by_cases c:t.fr=(aF ts).getD j []
  .rw[if_pos c,if_pos (by rw[(DP m.1 hj).mpr c];simp)]
  .rw[if_neg c,if_neg λz=>c ((DP m.1 hj).mp (by simpa using z))]
 .obtain⟨e1,e2,e3⟩:=mS ht;have m:=mem t (O7 ht);show(if (_ == j)=true then bW ts k*hv w u ((aF ts).getD (fro (am ts) k) []) else 0)=_;rw[e1,e2,e3,ju m.1];by_cases c:t.to=(aF ts).getD j []
  .rw[if_pos c,if_pos (by rw[(DP m.2 hj).mpr c];simp)]
  .rw[if_neg c,if_neg λz=>c ((DP m.2 hj).mp (by simpa using z))]
def FV{f:Nat->Int}{w:Nat->Rat}{m:List Int}:∀n,n<=m.length->vs f (wl w n) (m.take n)=sm n λk=>pt m k*Ev.vr f (w k)
 |0,_=>rfl
 |n+1,h=>by
  have e:m[n]?=some m[n]:=O1 h;have lw:(wl w n).length=(m.take n).length:=by unfold wl;rw[O0,PN,Px];lia
  rw[Ps,e,show wl w (n+1)=wl w n++[((w n).num.natAbs,(w n).den)] by unfold wl;rw[Rr,O_];rfl,show(some m[n]).toList=[m[n]] from rfl,EC _ _ lw,FV n (by lia)];show _+_=_+pt m n*_;rw[show pt m n=m[n] by unfold pt;rw[O2,e];rfl];rfl
def Ec{u:Nat->Rat}(o:jF w ts)(af:iw ts)(up:∀s,0<u s)(h:Bh w u ts):∀m∈mks ts,One (wW ts) m:=by
 intro m hm p hp;obtain⟨lm,_,_⟩:=fX o hm;obtain⟨cs,cl⟩:=y_ o hm;have F:=bR (bO ts);have le:(am ts).length=ts.length:=by unfold am;rw[O0]
 have bk:∀e∈am ts,Rch (am ts) e.2 e.1:=λe he=>by obtain⟨j,hj⟩:=P_ he;exact af j e.1 e.2 hj
 have Wp:∀k,k<(aF ts).length->0<Wt ts k:=λk hk=>gL.mp (jC o.pa bk hk)
 have ok:=bO ts;have ok':∀k,k<(am ts).length->fro (am ts) k<(aF ts).length/\tow (am ts) k<(aF ts).length:=λk hk=>ok _ (rZ hk)
 have vv:∀k,0<hv w u ((aF ts).getD k []):=λk=>LV up _
 have key:vs (λn=>(bB p n:Int)) (wW ts) m=sm (aF ts).length λk=>pt m k*Ev.vr (λn=>(bB p n:Int)) (Wt ts k):=by
  have:=FV (f:=λn=>(bB p n:Int)) (w:=Wt ts) (m:=m) (aF ts).length (by lia)
  rw[Pc (by lia)] at this;exact this
 rw[key];refine Ev.Eb hp.add (S:=w) (N:=(aF ts).length) (v:=λk=>hv w u ((aF ts).getD k [])) (w:=u) (h:=λk s=>(pt ((aF ts).getD k []) s).toNat) (lot:=at_ (fO ts)) Wp (λk _=>vv k) (λk hk=>?_) (λk hk=>Pk (F.le k hk) hk) (λk k' hk ZQ e=>?_) (λl hl=>?_) λs hs=>?_
 .show Ev.vr _ (pr w _)=_;rw[Jp hp.add λs _=>(Ev.sM hp.add (up s) _).1];refine bS λs _=>?_
  rw[(Ev.sM hp.add (up s) _).2,R3]
 .obtain⟨c,hc⟩:=OP (u:=Wt ts) (v:=λk=>hv w u ((aF ts).getD k [])) ok' (λk hk=>EZ o.pa (by lia)) (λk hk=>yj (bk _ (rZ hk))) (λj hj=>Mq hj) (Mp h) (λk _=>vv k) hk;obtain⟨n1,p1⟩:=yj (pM bk ((F.tied hk ZQ).mp e));rw[hc k 0 rfl,hc k' n1 p1,Qg,Qg,Vn (hv w u ((aF ts).getD k []))]
 .by_cases c:∃k,k<(aF ts).length/\at_ (fO ts) k=l
  .obtain⟨k,hk,rfl⟩:=c;exact cl k hk
  .exact fF λk hk=>if_neg λz=>c ⟨k,hk,z⟩
 .refine Eq.trans (bS λk hk=>?_) (cs s hs);show(((pt ((aF ts).getD k []) s).toNat:Nat):Int)*_=_
  have nn:0<=pt ((aF ts).getD k []) s:=by
   rw[O2,O1 hk];show 0<=pt (aF ts)[k] s;unfold pt;rw[O2];cases e:(aF ts)[k][s]? with
   |none=>exact Int.le_refl 0
   |some c=>exact o.nn _ (Qx hk) c (O7 e)
  rw[show(((pt ((aF ts).getD k []) s).toNat:Nat):Int)=pt ((aF ts).getD k []) s by lia]
end Pw
namespace Pw
open PySem L2 Fr G1 Sm Vs G2 Rk Sz Sf Rw Ti Lo Lc Tr
open PySem.W (Dat kqdOk)
abbrev Fq(M:Nat)(x:Rat):Prop:=∃n d:Nat,0<n/\0<d/\x=PH n d/\n<=M/\d<=M
def Fq.low(h:Fq M x):0<x.num/\x.num.natAbs<=M/\x.den<=M:=by
 obtain⟨n,d,n0,d0,rfl,hn,hd⟩:=h;have dn:(d:Int)≠0:=by lia
 have e:(PH n d).num*(d:Int)=n*((PH n d).den:Int):=by
  have:=Qk (PH (n:Int) (d:Int))
  exact(Q2 (by have:=(PH (n:Int) (d:Int)).den_nz;lia) dn).mp this
 have dp:0<(PH (n:Int) (d:Int)).den:=P5 (PH (n:Int) (d:Int)).den_nz;have cp:=(PH (n:Int) (d:Int)).reduced;generalize hN:(PH (n:Int) (d:Int)).num=N at *;generalize hD:(PH (n:Int) (d:Int)).den=D at *
 have N0:0<N:=by
  by_cases z:0<N
  .exact z
  .have:=Int.mul_le_mul_of_nonneg_right (by lia:N<=0) (by lia:(0:Int)<=d)
   have:=VW (by lia:(0:Int)<n) (by lia:(0:Int)<D)
   lia
 have e2:N.natAbs*d=n*D:=by
  have:=congrArg YW e
  rwa [P2,P2,Pu,Pu,Pu] at this
 have q1:N.natAbs∣n:=Ra.dvd_of_dvd_mul_right cp ⟨d,e2.symm⟩;have q2:D∣d:=Uw cp.symm ⟨n,by rw[e2,Qv]⟩;exact⟨N0,Pj (RM n0 q1) hn,Pj (RM d0 q2) hd⟩
def Fq.mul(h:Fq M x)(k:Fq N y):Fq (M*N) (x*y):=by
 obtain⟨n,d,n0,d0,rfl,hn,hd⟩:=h;obtain⟨a,b,a0,b0,rfl,ha,hb⟩:=k;exact⟨n*a,d*b,Qa n0 a0,Qa d0 b0,by rw[Q6,Qj,Qj],PX hn ha,PX hd hb⟩
def Fq.pow{M:Nat}{x:Rat}(h:Fq M x):∀k,Fq (M ^ k) (x ^ k)
 |0=>⟨1,1,by decide,by decide,by rw[TN];rfl,by simp,by simp⟩
 |k+1=>by rw[Td,QW];exact(Fq.pow h k).mul h
def Fq.up{N:Nat}(h:Fq M x)(l:M<=N):Fq N x:=by
 obtain⟨n,d,n0,d0,e,hn,hd⟩:=h;exact⟨n,d,n0,d0,e,Pj hn l,Pj hd l⟩
def Fq.bits{c:Nat}(h:Fq M x)(l:M<2 ^ c):Bq c x:=⟨Pk h.low.2.1 l,Pk h.low.2.2 l⟩
abbrev fU(K:Fg):Sp:=λvs H Q _=>∃(v:V) (c:Addr) (x:Rat) (a b:Nat),vs=[v,.ref c]/\QV K H v x/\SqT K H c [.int (a:Int),.int (b:Int)]/\0<b/\a<=4/\b<=4/\Bq 3900 x/\∀(p:Addr) (H':Hp),Same H H'->Rz K H' (.ref p) (dQ (x*PH a b))->Q (.ref p) H'
abbrev qW(K:Fg):Sp:=λvs H Q _=>∃(a:Addr) (ns:List Int) (t:Int),vs=[.ref a,.int t]/\SqL K H a (ns.map V.int)/\0<=t/\∀(p:Addr) (H':Hp) (ws:List Str) (ts:List Tn) (u:Nat->Rat),Same H H'->nh ws ts->Bh ws.length u ts->(∀s,0<u s)->Rz K H' (.ref p) (dV ws ts)->Q (.ref p) H'
abbrev dW(x:Nat×Nat):Dat:=dI [(x.1:Int),(x.2:Int)]
abbrev MV(W:List (Nat×Nat)):Prop:=∀x∈W,0<x.1/\0<x.2/\x.1<=4/\x.2<=4
abbrev uO(W:List (Nat×Nat))(s:Nat):Rat:=PH (W.getD s (1,1)).1 (W.getD s (1,1)).2
abbrev dE(x:List Int×List Int):Dat:=.tuple [dI x.1,dI x.2]
abbrev AF(u:Nat->Rat)(p:Rat)(t g:List Int)(j:Nat):Rat:=p*pr j λs=>u s ^ (pt t s).toNat*(u s)⁻¹ ^ (pt g s).toNat
def vq{W:List (Nat×Nat)}(wo:MV W)(s:Nat):Fq 4 (uO W s)/\Fq 4 (uO W s)⁻¹/\uO W s*(uO W s)⁻¹=1:=by
 have h:0<(W.getD s (1,1)).1/\0<(W.getD s (1,1)).2/\(W.getD s (1,1)).1<=4/\(W.getD s (1,1)).2<=4:=by
  rw[O2];cases e:W[s]? with
  |none=>exact⟨by decide,by decide,by decide,by decide⟩
  |some x=>exact wo x (O7 e)
 obtain⟨a,b,c,d⟩:=h;unfold uO;generalize (W.getD s (1,1)).1=m at *;generalize (W.getD s (1,1)).2=n at *;have e:(PH (m:Int) (n:Int))⁻¹=PH (n:Int) (m:Int):=VH _ _;have F:Fq 4 (PH (m:Int) (n:Int)):=⟨m,n,a,b,rfl,c,d⟩
 refine⟨F,by rw[e];exact⟨n,m,b,a,rfl,d,c⟩,Sh _ λz=>?_⟩
 have:=F.low.1
 rw[z] at this;exact absurd this (by decide)
def l_{x y:Rat}(h:x*y=1):∀k:Nat,x ^ k*y ^ k=1
 |0=>by rw[TN,TN,Q4]
 |k+1=>by
  rw[Td,Td,Qg,<- Qg x,Vn x (y ^ k),Qg (y ^ k),h,Q4,l_ h k]
def lZ(x:Rat)(a:Nat):∀b:Nat,x ^ (a+b)=x ^ a*x ^ b
 |0=>by rw[Nat.add_zero,TN,Q4]
 |b+1=>by rw[<- Nat.add_assoc,Td,lZ x a b,Td,Qg]
def Ol{x y:Rat}(h:x*y=1)(fx:Fq 4 x)(fy:Fq 4 y){a b:Nat}(ha:a<=3)(hb:b<=3):Fq 64 (x ^ a*y ^ b):=by
 by_cases c:b<=a
 .obtain⟨k,rfl⟩:∃k,a=k+b:=⟨a-b,by lia⟩
  rw[lZ,Qg,l_ h,Q4];exact(fx.pow k).up (Pj (Ph (by decide) (by lia:k<=3)) (by decide))
 .obtain⟨k,rfl⟩:∃k,b=a+k:=⟨b-a,by lia⟩
  rw[lZ,<- Qg,l_ h,RH];exact(fy.pow k).up (Pj (Ph (by decide) (by lia:k<=3)) (by decide))
def IT{W:List (Nat×Nat)}(wo:MV W){P:Rat}(fp:Fq 6 P){t g:List Int}(ht:∀s,(pt t s).toNat<=3)(hg:∀s,(pt g s).toNat<=3):∀j,Fq (6*64 ^ j) (AF (uO W) P t g j)
 |0=>by
  show Fq (6*1) (P*1);rw[Q4];exact fp
 |j+1=>by
  show Fq _ (P*(pr j _*_));rw[<- Qg,QW,<- P9];exact(IT wo fp ht hg j).mul (Ol (vq wo j).2.2 (vq wo j).1 (vq wo j).2.1 (ht j) (hg j))
def Me{W:List (Nat×Nat)}(wo:MV W)(P:Rat)(t g:List Int):∀w,P*hv w (uO W) t=AF (uO W) P t g w*hv w (uO W) g
 |0=>by show P*1=P*1*1;rw[Q4,Q4]
 |w+1=>by
  have ih:=Me wo P t g w;show P*(hv w (uO W) t*uO W w ^ (pt t w).toNat)=P*((pr w λs=>uO W s ^ (pt t s).toNat*(uO W s)⁻¹ ^ (pt g s).toNat)*(uO W w ^ (pt t w).toNat*(uO W w)⁻¹ ^ (pt g w).toNat))*(hv w (uO W) g*uO W w ^ (pt g w).toNat);have e:=l_ (vq wo w).2.2 (pt g w).toNat;generalize uO W w ^ (pt t w).toNat=A;generalize uO W w ^ (pt g w).toNat=B at e ⊢;generalize (uO W w)⁻¹ ^ (pt g w).toNat=C at e ⊢;have ih':P*hv w (uO W) t=P*(pr w λs=>uO W s ^ (pt t s).toNat*(uO W s)⁻¹ ^ (pt g s).toNat)*hv w (uO W) g:=ih;generalize (pr w λs=>uO W s ^ (pt t s).toNat*(uO W s)⁻¹ ^ (pt g s).toNat)=R at ih' ⊢;generalize hv w (uO W) t=X at ih' ⊢;generalize hv w (uO W) g=Y at ih' ⊢;rw[<- Qg,ih']
  calc P*R*Y*A=P*R*Y*A*(B*C):=by rw[e,Q4]
   _=P*(R*(A*C))*(Y*B):=by
    simp only[Qg,Vn,Nx]
structure RI (w:Nat) (u:Nat->Rat) (hs:List (List Int)) (ts:List Tn) (i:Nat) (R:List Tn):Prop where
 prs:Bh w u R
 len:R.length<=6
 nd:(R.map bZ).Nodup
 ok:∀t∈R,TurnOk hs t
 rev:∀t∈R,(t.to,t.fr)∈R.map bZ
 src:∀t∈R,bZ t∈(ts.take i).map bZ\/(t.to,t.fr)∈(ts.take i).map bZ
 ne:0<i->R≠[]
def RI.start(w:Nat)(u:Nat->Rat)(hs:List (List Int))(ts:List Tn):RI w u hs ts 0 [] :=
 ⟨.nil,by decide,RB,λ_ h=>(by cases h),λ_ h=>(by cases h),λ_ h=>(by cases h),λh=>absurd h (by decide)⟩
def sR{α:Type}{l:List α}{x:α}(h:x∈l.take i):x∈l.take (i+1):=by rw[Ps];exact PK _ h
def RI.skip(h:RI w u hs ts i R)(n:R≠[]):RI w u hs ts (i+1) R:=by
 refine⟨h.prs,h.len,h.nd,h.ok,h.rev,λt ht=>?_,λ_=>n⟩;rcases h.src t ht with z|z
 .obtain⟨x,hx,e⟩:=Pl.mp z;exact .inl (Pl.mpr ⟨x,sR hx,e⟩)
 .obtain⟨x,hx,e⟩:=Pl.mp z;exact .inr (Pl.mpr ⟨x,sR hx,e⟩)
def RI.add(h:RI w u hs ts i R)(ndT:(ts.map bZ).Nodup){t:Tn}(ht:ts[i]?=some t)(no:(t.to,t.fr)∉R.map bZ)(l5:R.length<5)
  (ex:bZ x=(t.fr,t.to)) (ey:bZ y=(t.to,t.fr)) (ox:TurnOk hs x) (oy:TurnOk hs y) (b:Di x*hv w u x.fr=Di y*hv w u y.fr):RI w u hs ts (i+1) (R++[x,y]):=by
 have x1:x.fr=t.fr:=congrArg UY ex;have x2:x.to=t.to:=congrArg Uu ex;have y1:y.fr=t.to:=congrArg UY ey;have y2:y.to=t.fr:=congrArg Uu ey;have ne:t.fr≠t.to:=by have:=ox.2.2.1;rwa [x1,x2] at this
 have no2:(t.fr,t.to)∉R.map bZ:=λz=>by
  obtain⟨r,hr,er⟩:=Pl.mp z
  have:=h.rev r hr
  rw[show r.to=t.to from congrArg Uu er,show r.fr=t.fr from congrArg UY er] at this;exact no this
 have me:(t.fr,t.to)∈(ts.take (i+1)).map bZ:=by
  rw[Ps,ht,O_];exact PB _ (O8)
 refine⟨.cons x y R (by rw[y1,x2]) (by rw[y2,x1]) b h.prs,by rw[Pm];show R.length+2<=6;lia,?_,λz hz=>?_,λz hz=>?_,λz hz=>?_,λ_ z=>by have:=congrArg Rg z;rw[Pm] at this;simp at this⟩
 .rw[O_,Tq];refine⟨h.nd,?_,λp hp q hq e=>?_⟩
  .show[bZ x,bZ y].Nodup;rw[ex,ey];refine Qf.mpr ⟨λz=>ne (congrArg UY (Po.mp z)),by simp⟩
  .have hq':q∈[bZ x,bZ y]:=hq;rw[ex,ey] at hq';subst e;rcases Py.mp hq' with z|z
   .rw[z] at hp;exact no2 hp
   .rw[Po.mp z] at hp;exact no hp
 .rcases Pz.mp hz with k|k
  .exact h.ok z k
  .rcases Py.mp k with k|k
   .rw[k];exact ox
   .rw[Po.mp k];exact oy
 .rw[O_];rcases Pz.mp hz with k|k
  .exact PK _ (h.rev z k)
  .refine PB _ ?_;show _∈[bZ x,bZ y];rw[ex,ey];rcases Py.mp k with k|k
   .rw[k,x1,x2];simp
   .rw[Po.mp k,y1,y2];simp
 .rcases Pz.mp hz with k|k
  .rcases (h.skip (λz=>by rw[z] at k;cases k)).src z k with q|q
   .exact .inl q
   .exact .inr q
  .rcases Py.mp k with k|k
   .rw[k,ex];exact .inl me
   .rw[Po.mp k,y1,y2];exact .inr me
nonrec abbrev wV (K:Fg):TS:=(aq (bM (dU K "list" aN (aa 5) (ae (be (ae (ar aX (tC (.int 1)) (ar aS (aa 3) (tC (.int 4)))) (ae (ar aX (tC (.int 1)) (ar aS (ar b9 (aa 3) (tC (.int 4))) (tC (.int 3)))) aj))) aj)))
 (av (ar b9 (aa 3) (tC (.int 12))) (al 3)))
nonrec abbrev wU(K:Fg):TS:=(a5 (cw (ae (ar (aD K) (aa 9) (aa 12)) aj)) (al 6)
 (av (aC (Pw.fU K) [] E0 (ae (aa 11) (ae (be (ae (ar (aD K) (ar (bY K) (aa 5) (aa 12)) (tC (.int 1))) (ae (ar (aD K) (ar (bY K) (aa 5) (aa 12)) (tC (.int 0))) aj))) aj))) (al 11)))
nonrec abbrev wT(K:Fg):TS:=(aq (a5 (cw (ae (aa 4) aj)) (al 12)
 (aq (a5 (cw (ae (ar (aD K) (aa 8) (aa 12)) aj)) (al 6)
 (av (aC (Pw.fU K) [] E0 (ae (aa 11) (ae (ar (bY K) (aa 5) (aa 12)) aj))) (al 11)))
 (wU K)))
 (aq (bM (dU K "list" aN (aa 7) (ae (be (ae (aa 8) (ae (aa 9) (ae (aa 10) aj)))) aj)))
 (bM (dU K "list" aN (aa 7) (ae (be (ae (aa 9) (ae (aa 8) (ae (aa 11) aj)))) aj)))))
nonrec abbrev wS(K:Fg):TS:=(aq (av (aC (gS K) [] E0 (ae (ar aX (tC (.int 1)) (ar aS (ar (aD K) (aa 10) (tC (.int 0))) (tC (.int 6)))) (ae (ar aX (tC (.int 1)) (ar aS (ar (aD K) (aa 10) (tC (.int 1))) (tC (.int 5)))) aj))) (al 10))
 (aq (av (aa 10) (al 11))
 (wT K)))
nonrec abbrev wR(K:Fg):TS:=(a8 (jR (aR (ar (oC K true) (be (ae (aa 9) (ae (aa 8) aj))) (fE (cx K (aa 7)) (be (ae (ar (aD K) (aa 0) (tC (.int 0))) (ae (ar (aD K) (aa 0) (tC (.int 1))) aj)))))) (aR (ar yn (b_ (cH K) (ae (aa 7) aj)) (tC (.int 5)))))
 (wS K)
 bw)
nonrec abbrev wQ(K:Fg):TS:=(aq (a5 (vm K (ar (aD K) (aa 2) (tC (.int 1)))) (cg K 3 (aT (al 8) (aT (al 9) (aT (al 10) ci))))
 (wR K))
 (aI (be (ae (ar (aD K) (aa 2) (tC (.int 0))) (ae (b_ (cz K) (ae (aa 7) aj)) aj)))))
nonrec abbrev wP(K:Fg):TS:=(aq (av (b_ (cH K) (ae (ar (aD K) (aa 2) (tC (.int 0))) aj)) (al 4))
 (aq (av (bU aj) (al 5))
 (aq (a5 (cw (ae (aa 4) aj)) (al 6)
 (wV K))
 (aq (av (bU aj) (al 7))
 (wQ K)))))
abbrev qD(K:Fg):TS:=(aq (av (aC (xE K) [] E0 (ae (aa 0) (ae (aa 1) aj))) (al 2))
 (aq (av (aC dC [] E0 (ae (aC (c7 K) [] E0 (ae (aa 0) (ae (aa 1) aj))) (ae (tC (.int 2)) aj))) (al 3))
 (wP K)))
def CO{K:Fg}:ρ 13 (qW K) (qD K):=by
 fail "R";obtain⟨a,ns,t,rfl,hS,t0,k⟩:=h;rw[L2.aP hN];walk_at "t";unfold qD;cbv;refine⟨a,ns,t,rfl,hS,t0,λp H1 ws ts S1 vo rv=>?_⟩;obtain⟨hs,po,hs8,tk⟩:=vo.turns;obtain⟨_,v1,v2,e0,hp,r1,r2⟩:=si rv;cases e0;obtain⟨c1,ws1,rfl,hc1,rw1⟩:=r1.cF;obtain⟨c2,ts1,rfl,hc2,rt2⟩:=r2.cF;have lw1:ws1.length=ws.length:=by rw[rw1.length,O0]
 have lt1:ts1.length=ts.length:=by rw[rt2.length,O0]
 have w1:=vo.w1;have w5:=vo.w5;have t8:=tk.le;cbv;refine⟨a,ns,t,rfl,S1.seq hS,t0,?_⟩;cbv;refine⟨_,2,rfl,by decide,by decide,λc hc=>?_⟩;cbv;refine aG (SqT.of hp) (v:=.ref c1) rfl ?_;cbv;refine o_ (SqT.of hc1) ?_;rw[lw1];cbv;refine⟨by show 0<=sizeLine;exact Ql _,λl nl=>?_⟩;have A1:AccZ K H1 l (upd H1 l (.lst [])) (([]:List (Nat×Nat)).map dW):=AccZ.start (Same.refl _) nl;generalize upd H1 l (.lst [])=H2 at A1 ⊢;cbv;rw[Qc];refine aW (n:=ws.length) (λj σ H3=>∃(c:Int) (u6:Option V) (W:List (Nat×Nat)),σ=[⇑a,↥t,⇑p,↥c,↥(ws.length:Int),⇑l,u6,none,none,none,none,none,none]/\0<=c/\MV W/\W.length=j/\AccZ K H1 l H3 (W.map dW)) ⟨c,none,[],rfl,hc.1,λ_ h=>(by cases h),rfl,A1⟩ ?_ ?_
 .rintro j σ H3 hj ⟨c,u6,W,rfl,c0,wo,lW,A3⟩;rw[SD];cbv;refine⟨A3.ty,?_⟩;cbv;refine⟨aM,λq nq=>?_⟩;have S4:=ak nq (.tup [.int (1+c % 4),.int (1+c / 4 % 3)])
  have z4:Rz K (upd H3 q (.tup [.int (1+c % 4),.int (1+c / 4 % 3)])) (.ref q) (dW ((1+c % 4).toNat,(1+c / 4 % 3).toNat)):=by
   show Rz K _ _ (dI [(((1+c % 4).toNat:Nat):Int),(((1+c / 4 % 3).toNat:Nat):Int)]);rw[show(((1+c % 4).toNat:Nat):Int)=1+c % 4 by lia,show(((1+c / 4 % 3).toNat:Nat):Int)=1+c / 4 % 3 by lia];exact .tup ag (RpL.ints [_,_])
  have A4:=A3.on S4;generalize upd H3 q (.tup [.int (1+c % 4),.int (1+c / 4 % 3)])=H4 at S4 z4 A4 ⊢;cbv;refine b6 A4 z4 (au (by rw[O0];lia)) λH5 A5 _ _ _=>?_
  cbv;refine⟨c / 12,_,W++[((1+c % 4).toNat,(1+c / 4 % 3).toNat)],rfl,by lia,λx hx=>?_,by rw[Pm,lW];rfl,by rw[O_];exact A5⟩;rcases Pz.mp hx with h|h
  .exact wo x h
  .rw[Po.mp h];exact⟨by show 0<(1+c % 4).toNat;lia,by show 0<(1+c / 4 % 3).toNat;lia,by show(1+c % 4).toNat<=4;lia,by show(1+c / 4 % 3).toNat<=4;lia⟩
 .rintro σ H3 ⟨c,u6,W,rfl,c0,wo,lW,A3⟩;obtain⟨xw,hl,rW⟩:=A3.at_;have S03:=S1.trans A3.same;cbv;refine⟨by show 0<=sizeLine;exact Ql _,λr nr=>?_⟩;have B1:AccZ K H3 r (upd H3 r (.lst [])) (([]:List Tn).map dT):=AccZ.start (Same.refl _) nr;generalize upd H3 r (.lst [])=H4 at B1 ⊢;cbv;refine aG (SqT.of (B1.same _ _ (A3.same _ _ hp))) (v:=.ref c2) rfl ?_;cbv;have hc24:=B1.same _ _ (A3.same _ _ hc2);have up:∀s,0<uO W s:=λs=>gL.mp (vq wo s).1.low.1
  refine⟨c2,rfl,⟨_,SqT.of hc24⟩,?_⟩
  refine Ae (xs:=ts1) (λi σ H5=>∃(R:List Tn) (u6 u8 u9 u10 u11 u12:Option V),σ=[⇑a,↥t,⇑p,↥c,↥(ws.length:Int),⇑l,u6,⇑r,u8,u9,u10,u11,u12]/\AccZ K H3 r H5 (R.map dT)/\RI ws.length (uO W) hs ts i R)
   ⟨[],u6,none,none,none,none,none,rfl,B1,RI.start _ _ _ _⟩ (by rintro i σ H5 _ ⟨R,_,_,_,_,_,_,_,B,_⟩;exact SqT.of (B.same _ _ (A3.same _ _ hc2))) ?_ ?_
  .rintro i x σ H5 hx ⟨R,u6,u8,u9,u10,u11,u12,rfl,B5,ri⟩;obtain⟨dd,g1,g2⟩:=rt2.get hx;rw[O4] at g1;obtain⟨tn,htn,rfl⟩:=Pb.mp g1;have otn:=tk.ok tn (O7 htn);have g5:=(g2.same A3.same).same B5.same;obtain⟨q,_,_,_,rfl,hq,q1,q2,q3⟩:=kc g5;obtain⟨b1,rfl,Z3⟩:=bN q1;obtain⟨b2,rfl,hb2⟩:=bN q2;obtain⟨b3,rfl,hb3⟩:=bN q3;refine bI (SqT.of hq) rfl ?_;cbv;refine⟨aM,λT nT=>?_⟩;have S6:=ak nT (.tup [.ref b2,.ref b1]);have zT:Rz K (upd H5 T (.tup [.ref b2,.ref b1])) (.ref T) (dE (tn.to,tn.fr)):=.tup ag (.cons (q2.same S6) (.cons (q1.same S6) .nil));have B6:=B5.on S6;generalize upd H5 T (.tup [.ref b2,.ref b1])=H6 at S6 zT B6 ⊢;obtain⟨xr,hr,rR⟩:=B6.at_;have lR:xr.length=R.length:=by rw[rR.length,O0]
   have R6:=ri.len;cbv;refine rP (SqL.of hr) ?_;refine df (xs:=xr) λD nD=>⟨λj H7=>AccZ K H6 D H7 ((R.take j).map λt=>dE (bZ t)),AccZ.start (Same.refl _) nD,λj H7 _ A=>SqL.of (A.same _ _ hr),?_,?_⟩
   .intro j y H7 hy A;have lj:=(O3.mp hy).1;obtain⟨d2,f1,f2⟩:=(rR.same A.same).get hy;rw[O4] at f1;obtain⟨t2,ht2,rfl⟩:=Pb.mp f1;obtain⟨q',w1',w2',w3',rfl,hq',r1',r2',r3'⟩:=kc f2;cbv;refine aG (SqT.of hq') (v:=w1') rfl ?_;cbv;refine aG (SqT.of hq') (v:=w2') rfl ?_;cbv;refine⟨aM,λT2 nT2=>?_⟩;have S8:=ak nT2 (.tup [w1',w2']);have z8:Rz K (upd H7 T2 (.tup [w1',w2'])) (.ref T2) (dE (bZ t2)):=.tup ag (.cons (r1'.same S8) (.cons (r2'.same S8) .nil));have A8:=A.on S8;generalize upd H7 T2 (.tup [w1',w2'])=H8 at z8 A8 ⊢;refine a6 lj ?_;refine A8.cI z8 (au (by rw[O0,Px];lia)) λH9 A9=>?_
    show AccZ K H6 D H9 ((R.take (j+1)).map λt=>dE (bZ t));rw[Ps,ht2,O_];exact A9
   intro H7 A7;rw[Pc (by lia)] at A7;have S57:=S6.trans A7.same;have B7:=B6.on A7.same
   have okE:∀x,kqdOk 8 (dE x)=true:=λx=>by
    show kqdOk 8 (.tuple [dI x.1,dI x.2])=true;show([dI x.1,dI x.2].all (kqdOk 7))=true;rw[Y2,Y2,G1.vc,G1.vc];rfl
   have rT7:=zT.same A7.same;cbv;refine mK rT7.rep A7.rep (λe he=>by obtain⟨b,_,rfl⟩:=Pl.mp he;exact okE _) (okE _) (λnm=>?_) (λmm=>?_)
   .cbv;refine cR (SqL.of (A7.same _ _ hr)) ?_;rw[lR];cbv;refine a9 (λl5=>?_) (λl5=>?_)
    .have hb37:=S57 _ _ hb3;obtain⟨q0,d0,_,q10,d10⟩:=otn.2.2.2;cbv;refine aG (SqT.of hb37) (v:=.int tn.q) rfl ?_;cbv;refine aG (SqT.of hb37) (v:=.int tn.d) rfl ?_;cbv;refine⟨_,_,rfl,by lia,Pk (by lia:(1+tn.q % 6).natAbs<=6) (PL (by decide:6<2 ^ 3) (Ph (by decide) (by decide))),Pk (by lia:(1+tn.d % 5).natAbs<=6) (PL (by decide:6<2 ^ 3) (Ph (by decide) (by decide))),λpp pq pd H8 S8 L _ _ r8=>?_⟩;obtain⟨e1,e2⟩:=cX (by lia:1+tn.d % 5≠0) L;rw[e1,e2] at r8;have fP:Fq 6 (PH (1+tn.q % 6) (1+tn.d % 5)):=⟨(1+tn.q % 6).toNat,(1+tn.d % 5).toNat,by lia,by lia,by rw[show(((1+tn.q % 6).toNat:Nat):Int)=1+tn.q % 6 by lia,show(((1+tn.d % 5).toNat:Nat):Int)=1+tn.d % 5 by lia],by lia,by lia⟩
     generalize PH (1+tn.q % 6) (1+tn.d % 5)=P at r8 fP;have S58:=S57.trans S8;have of:=po.2 _ otn.1;have og:=po.2 _ otn.2.1
     have in3:∀{h:List Int},eK ws.length h->∀s,0<=pt h s/\pt h s<=3:=λ{h} o s=>by
      unfold pt;rw[O2];cases e:h[s]? with
      |none=>exact⟨by decide,by decide⟩
      |some c=>exact o.2 c (O7 e)
     have b3t:∀s,(pt tn.fr s).toNat<=3:=λs=>by have:=in3 of s;lia
     have b3g:∀s,(pt tn.to s).toNat<=3:=λs=>by have:=in3 og s;lia
     have ix_:∀{h:List Int},eK ws.length h->∀j,j<ws.length->(h.map V.int)[j]?=↥(pt h j):=λ{h} o j hj=>by
      have:=o.1
      unfold pt;rw[O4,O1 (by lia),O2,O1 (by lia)];rfl
     have hl8:H8 l=some (.lst xw):=S58 _ _ (B5.same _ _ hl);have rW8:RzL K H8 xw (W.map dW):=((rW.same B5.same).same S58)
     have lxw:xw.length=ws.length:=by rw[rW.length,O0,lW]
     have wAt:∀j,j<ws.length->∃q,xw[j]?=⇑q/\H8 q=some (.tup [.int ((W.getD j (1,1)).1:Int),.int ((W.getD j (1,1)).2:Int)])/\0<(W.getD j (1,1)).1/\0<(W.getD j (1,1)).2/\(W.getD j (1,1)).1<=4/\(W.getD j (1,1)).2<=4:=λj hj=>by
      obtain⟨y,hy⟩:∃y,xw[j]?=some y:=⟨_,O1 (by lia)⟩
      obtain⟨d,f1,f2⟩:=rW8.get hy;rw[O4,O1 (by lia)] at f1;cases f1;obtain⟨q,rfl,hq⟩:=bN f2;have e:W.getD j (1,1)=W[j]:=by rw[O2,O1 (by lia)];rfl
      rw[e];exact⟨q,hy,hq,wo _ (Qx _)⟩
     have big:∀j,j<=5->∀k,k<=3->∀k',k'<=3->6*64 ^ j*4 ^ k*4 ^ k'<2 ^ 3900:=λj hj k hk k' ZQ =>
      Pk (PX (PX (PU 6 (Ph (by decide) hj)) (Ph (by decide) hk)) (Ph (by decide) ZQ)) (PL (by decide:6*64 ^ 5*4 ^ 3*4 ^ 3<2 ^ 60) (Ph (by decide) (by decide)))
     cbv;rw[Qc];refine aW (n:=ws.length) (λj σ H9=>∃(v11:V) (u6 u12:Option V),σ=[⇑a,↥t,⇑p,↥c,↥(ws.length:Int),⇑l,u6,⇑r,⇑b1,⇑b2,⇑pp,some v11,u12]/\Same H8 H9/\Rz K H9 v11 (dQ (AF (uO W) P tn.fr tn.to j))) ⟨_,_,_,rfl,Same.refl _,by show Rz K H8 (.ref pp) (dQ (P*1));rw[Q4];exact r8⟩ ?_ ?_
     .rintro j σ H9 hj ⟨v11,u6,u12,rfl,S9,q9⟩;rw[SD];obtain⟨qw,hxw,hqw,a0,b0,a4,b4⟩:=wAt j hj;have fB:=IT wo fP b3t b3g j;have F4:=vq wo j;cbv;refine aG (SqT.of (S9 _ _ (S58 _ _ Z3))) (v:=.int (pt tn.fr j)) (aO (j:=j) (ix_ of j hj)) ?_;have i1:=in3 of j;have i2:=in3 og j;refine⟨_,rfl,by lia,by lia,?_⟩;refine aW (n:=(pt tn.fr j).toNat) (λk σ H10=>∃(v11:V) (u6:Option V),σ=[⇑a,↥t,⇑p,↥c,↥(ws.length:Int),⇑l,u6,⇑r,⇑b1,⇑b2,⇑pp,some v11,↥(j:Int)]/\Same H8 H10/\Rz K H10 v11 (dQ (AF (uO W) P tn.fr tn.to j*uO W j ^ k))) ⟨v11,u6,rfl,S9,by rw[TN,Q4];exact q9⟩ ?_ ?_
      .rintro k σ H10 hk ⟨v11,u6,rfl,S10,q10⟩;cbv;refine cf (SqL.of (S10 _ _ hl8)) (v:=.ref qw) (aO (j:=j) hxw) ?_;cbv;refine⟨v11,qw,_,_,_,rfl,QV.of q10,SqT.of (S10 _ _ hqw),b0,a4,b4,((fB.mul (F4.1.pow k)).bits (Pk (QZ _ (by decide:0<4 ^ 0)) (big j (by lia) k (by lia) 0 (by decide)))),λp' Z9 S11 r11=>?_⟩;cbv;refine⟨_,_,rfl,S10.trans S11,?_⟩;rw[Td,<- Qg];exact r11
      .rintro σ H10 ⟨v11,u6,rfl,S10,q10⟩;cbv;refine aG (SqT.of (S10 _ _ (S58 _ _ hb2))) (v:=.int (pt tn.to j)) (aO (j:=j) (ix_ og j hj)) ?_;refine⟨_,rfl,by lia,by lia,?_⟩;refine aW (n:=(pt tn.to j).toNat) (λk σ Z9=>∃(v11:V) (u6:Option V),σ=[⇑a,↥t,⇑p,↥c,↥(ws.length:Int),⇑l,u6,⇑r,⇑b1,⇑b2,⇑pp,some v11,↥(j:Int)]/\Same H8 Z9/\Rz K Z9 v11 (dQ (AF (uO W) P tn.fr tn.to j*uO W j ^ (pt tn.fr j).toNat*(uO W j)⁻¹ ^ k))) ⟨v11,u6,rfl,S10,by rw[TN,Q4];exact q10⟩ ?_ ?_
       .rintro k σ Z9 hk ⟨v11,u6,rfl,S11,q11⟩;have hl11:=S11 _ _ hl8;have hq11:=S11 _ _ hqw;cbv;refine cf (SqL.of hl11) (v:=.ref qw) (aO (j:=j) hxw) ?_;cbv;refine aG (SqT.of hq11) (v:=.int ((W.getD j (1,1)).2:Int)) rfl ?_;cbv;refine cf (SqL.of hl11) (v:=.ref qw) (aO (j:=j) hxw) ?_;cbv;refine aG (SqT.of hq11) (v:=.int ((W.getD j (1,1)).1:Int)) rfl ?_;cbv;refine⟨aM,λT' nT'=>?_⟩;have S12:=ak nT' (.tup [.int ((W.getD j (1,1)).2:Int),.int ((W.getD j (1,1)).1:Int)]);have h12:upd Z9 T' (.tup [.int ((W.getD j (1,1)).2:Int),.int ((W.getD j (1,1)).1:Int)]) T'=some (.tup [.int ((W.getD j (1,1)).2:Int),.int ((W.getD j (1,1)).1:Int)]):=ag;generalize upd Z9 T' (.tup [.int ((W.getD j (1,1)).2:Int),.int ((W.getD j (1,1)).1:Int)])=H12 at S12 h12 ⊢;cbv;refine⟨v11,T',_,_,_,rfl,QV.of (q11.same S12),SqT.of h12,a0,b4,a4,(((fB.mul (F4.1.pow _)).mul (F4.2.1.pow k)).bits (big j (by lia) _ (b3t j) k (by have:=b3g j;lia))),λp' H13 S13 r13=>?_⟩;cbv;refine⟨_,_,rfl,S11.trans (S12.trans S13),?_⟩;rw[Td,<- Qg,show(uO W j)⁻¹=PH ((W.getD j (1,1)).2:Int) ((W.getD j (1,1)).1:Int) from VH _ _] at *;exact r13
       .rintro σ Z9 ⟨v11,u6,rfl,S11,q11⟩;refine⟨v11,u6,↥(j:Int),rfl,S11,?_⟩
        have e:AF (uO W) P tn.fr tn.to (j+1)=AF (uO W) P tn.fr tn.to j*uO W j ^ (pt tn.fr j).toNat*(uO W j)⁻¹ ^ (pt tn.to j).toNat:=by
         show P*(pr j _*(_*_))=P*pr j _*_*_;rw[Qg,Qg]
        rw[e];exact q11
     .rintro σ H9 ⟨v11,u6,u12,rfl,S9,q9⟩;have fB:=(IT wo fP b3t b3g ws.length).up (PU 6 (Ph (by decide) w5):_<=6*64 ^ 5);have S59:=S58.trans S9;have B9:=(B7.on S8).on S9
      have pOk:∀{x:Rat},Fq (6*64 ^ 5) x->ga x.num (x.den:Int):=λ{x} f=>by
       obtain⟨n0,nl,dl⟩:=f.low;have rl:=Hf x
       have:6*64 ^ 5=6442450944:=by decide
       exact⟨n0,rl.1,rl.2,by lia,by lia⟩
      have fP':=fP.up (by decide:6<=6*64 ^ 5)
      have ri':=ri.add tk.nd htn (x:=⟨tn.fr,tn.to,P.num,(P.den:Int)⟩) (y:=⟨tn.to,tn.fr,(AF (uO W) P tn.fr tn.to ws.length).num,((AF (uO W) P tn.fr tn.to ws.length).den:Int)⟩) (λz=>nm (by obtain⟨x,hx,e⟩:=Pl.mp z;exact Pl.mpr ⟨x,hx,by rw[e]⟩)) (by lia) rfl rfl ⟨otn.1,otn.2.1,otn.2.2.1,pOk fP'⟩ ⟨otn.2.1,otn.1,λz=>otn.2.2.1 z.symm,pOk fB⟩ (by
       show PH P.num (P.den:Int)*hv ws.length (uO W) tn.fr=PH _ _*hv ws.length (uO W) tn.to
       rw[gE,gE]
       exact Me wo P tn.fr tn.to ws.length)
      cbv;refine⟨B9.ty,?_⟩;cbv;refine⟨fG,λX nX=>?_⟩;have S10:=ak nX (.tup [.ref b1,.ref b2,.ref pp]);have zX:Rz K (upd H9 X (.tup [.ref b1,.ref b2,.ref pp])) (.ref X) (dT ⟨tn.fr,tn.to,P.num,(P.den:Int)⟩):=.tup ag (.cons ((q1.same S59).same S10) (.cons ((q2.same S59).same S10) (.cons ((r8.same S9).same S10) .nil)));have B10:=B9.on S10;have q10:=q9.same S10;generalize upd H9 X (.tup [.ref b1,.ref b2,.ref pp])=H10 at S10 zX B10 q10 ⊢;have S510:=S59.trans S10;cbv;refine b6 B10 zX (au (by rw[O0];lia)) λZ9 B11 rz11 _ _=>?_
      cbv;refine⟨B11.ty,?_⟩;cbv;refine⟨fG,λY nY=>?_⟩;have S12:=ak nY (.tup [.ref b2,.ref b1,v11]);have zY:Rz K (upd Z9 Y (.tup [.ref b2,.ref b1,v11])) (.ref Y) (dT ⟨tn.to,tn.fr,(AF (uO W) P tn.fr tn.to ws.length).num,((AF (uO W) P tn.fr tn.to ws.length).den:Int)⟩):=.tup ag (.cons ((rz11 (q2.same S510)).same S12) (.cons ((rz11 (q1.same S510)).same S12) (.cons ((rz11 q10).same S12) .nil)));have B12:=B11.on S12;generalize upd Z9 Y (.tup [.ref b2,.ref b1,v11])=H12 at S12 zY B12 ⊢;cbv;refine b6 B12 zY (au (by rw[Pm,O0];show _+1<=_;lia)) λH13 B13 _ _ _=>?_
      cbv;refine⟨R++[_,_],_,_,_,_,_,_,rfl,?_,ri'⟩;rw[O_];rw[QF] at B13;exact B13
    .cbv;exact⟨R,_,_,_,_,_,_,rfl,B7,ri.skip λz=>by rw[z] at l5;simp at l5⟩
   .cbv;exact⟨R,_,_,_,_,_,_,rfl,B7,ri.skip λz=>by rw[z] at mm;simp at mm⟩
  .rintro σ H5 ⟨R,u6,u8,u9,u10,u11,u12,rfl,B5,ri⟩;obtain⟨xr,hr,rR⟩:=B5.at_;have S05:=S03.trans B5.same;cbv;refine aG (SqT.of (B5.same _ _ (A3.same _ _ hp))) (v:=.ref c1) rfl ?_;cbv;refine eG (SqL.of hr) λd nd=>?_
   have S6:=ak nd (.tup xr);have z6:Rz K (upd H5 d (.tup xr)) (.ref d) (.tuple (R.map dT)):=.tup ag (rR.same S6);generalize upd H5 d (.tup xr)=H6 at S6 z6 ⊢;cbv;refine⟨aM,λe ne=>?_⟩;have S7:=ak ne (.tup [.ref c1,.ref d]);have rc1:Rz K H6 (.ref c1) (.tuple (ws.map Wv)):=((r1.same A3.same).same B5.same).same S6;have lt0:0<ts1.length:=by rw[lt1];exact TX.mpr tk.ne
   refine k e _ ws R (uO W) (S05.trans (S6.trans S7)) ⟨vo.words,vo.w1,vo.w5,hs,po,hs8,ri.ne lt0,by have:=ri.len;lia,ri.nd,ri.ok⟩ ri.prs up (.tup ag (.cons (rc1.same S7) (.cons (z6.same S7) .nil)))
end Pw
namespace Gn
open Pw
open Ev (vr fe kf nump)
def y6:∀{m:Nat} {n:Nat},0<m->0<n->(∀p,IsP p->bB p m=bB p n)->m=n:=by
 intro m
 induction m using Ss with
 |_ m ih =>
  intro n hm hn h;by_cases c:2<=m
  .obtain⟨p,hp,m',rfl⟩:=l9 c;have m0:0<m':=QY hm
   have pn:p∣n:=by
    refine Sn λz=>?_
    have:=h p hp
    rw[jo z,di hp.1 m0] at this;lia
   obtain⟨n',rfl⟩:=pn;have n0:0<n':=QY hn;have lt:m'<p*m':=by have:=Qe m' hp.1;lia
   rw[ih m' lt m0 n0 λq hq=>by
    have:=h q hq
    rw[iI hq _ _ (by have:=hp.1;lia) m0,iI hq _ _ (by have:=hp.1;lia) n0] at this
    lia]
  .by_cases d:2<=n
   .obtain⟨p,hp,z⟩:=l9 d
    have:=h p hp
    rw[show m=1 by lia,Ig hp.1] at this
    have:=Js hp hn z
    lia
   .lia
def Jr{f:Nat->Int}(hf:Add f){a b:Nat}(ha:0<a)(hb:0<b):vr f (PH a b)=f a-f b:=by
 have hx:0<PH a b:=by
  rw[RE];exact Rv (by exact_mod_cast ha) (RT.mpr (by exact_mod_cast hb))
 have e:(PH a b).num*(b:Int)=(a:Int)*(PH a b).den:=by
  have d1:((PH a b).den:Int)≠0:=by have:=(PH a b).den_nz;lia
  exact(Q2 d1 (by lia)).mp (Qk _)
 have e2:=congrArg YW e;rw[P2,P2,Pu,Pu,Pu] at e2;have e3:=congrArg f e2;rw[hf.mul _ _ (nump hx) hb,hf.mul _ _ ha (P5 (PH a b).den_nz)] at e3;unfold vr;lia
def J0{x y:Rat}(hx:0<x)(hy:0<y)(h:∀p,IsP p->vr (λn=>(bB p n:Int)) x=vr (λn=>(bB p n:Int)) y):x=y:=by
 have dx:=P5 x.den_nz;have dy:=P5 y.den_nz
 have e:=y6 (Qa (nump hx) dy) (Qa (nump hy) dx) λp hp=>by
  have:(bB p x.num.natAbs:Int)-bB p x.den=bB p y.num.natAbs-bB p y.den:=h p hp
  rw[iI hp _ _ (nump hx) dy,iI hp _ _ (nump hy) dx];lia
 have nx:=RS.mpr (RO hx);have ny:=RS.mpr (RO hy)
 have e2:x.num*(y.den:Int)=y.num*(x.den:Int):=by
  have:=congrArg (λn:Nat=>(n:Int)) e
  simp only[Qj] at this;rw[show((x.num.natAbs:Nat):Int)=x.num by lia,show((y.num.natAbs:Nat):Int)=y.num by lia] at this;exact this
 rw[<- Qk x,<- Qk y];exact(Q2 (by lia) (by lia)).mpr e2
def Jq{f:Nat->Int}(hf:Add f){x:Rat}(hx:0<x):vr f x⁻¹ = - vr f x:=by
 have:=fe hf hx (RT.mpr hx)
 rw[Sh x (λz=>by rw[z] at hx;exact absurd hx V2),kf hf] at this;lia
abbrev pl(g:Nat->Rat):List Nat->Rat
 |[]=>1
 |k :: R=>g k*pl g R
def EU(g:Nat->Rat):∀A B,pl g (A++B)=pl g A*pl g B
 |[],B=>by show pl g B=1*pl g B;rw[RH]
 |k :: A,B=>by show g k*pl g (A++B)=g k*pl g A*pl g B;rw[EU g A B,Qg]
def oF{g:Nat->Rat}:∀{R:List Nat},(∀k∈R,0<g k)->0<pl g R
 |[],_=>by show(0:Rat)<1;decide
 |k :: R,h=>Rv (h k O8) (oF λj hj=>h j (O9 _ hj))
abbrev fc:Nat->Nat
 |0=>1
 |n+1=>(n+1)*fc n
def Fs:∀n,0<fc n
 |0=>by decide
 |n+1=>Qa (Vi n) (Fs n)
abbrev fl(m:Nat):Nat->Nat
 |0=>1
 |k+1=>fl m k*(m-k)
def Ac{m:Nat}:∀{k:Nat},k<=m->fl m k*fc (m-k)=fc m
 |0,_=>by show 1*fc m=fc m;rw[Uj]
 |k+1,h=>by
  have e:m-k=(m-(k+1))+1:=by lia
  have i:=Ac (m:=m) (k:=k) (by lia);rw[e] at i;show fl m k*(m-k)*_=fc m;rw[<- i,P9,e];rfl
def Fp{m:Nat}:∀{k:Nat},k<=m->0<fl m k
 |0,_=>SE
 |k+1,h=>Qa (Fp (by lia)) (by lia)
def D_{m B:Nat}(h:m<=B):∀k,fl m k<=B ^ k
 |0=>Pa _
 |k+1=>by show fl m k*(m-k)<=B ^ k*B;exact PX (D_ h k) (by lia)
abbrev dn(m n:Nat):Nat:=fl m (m-n)
def L5(m n:Nat):0<dn m n:=Fp (YX _ _)
def Op(m n:Nat):dn m n*fc n=fc m*dn n m:=by
 unfold dn;by_cases c:n<=m
 .have:=Ac (YX m n)
  rw[show m-(m-n)=n by lia] at this;rw[this,show n-m=0 by lia];show _=fc m*1;rw[TC]
 .have:=Ac (YX n m)
  rw[show n-(n-m)=m by lia] at this;rw[show m-n=0 by lia];show 1*fc n=_;rw[Uj,Qv,this]
abbrev dp:List Nat->List Nat->Nat
 |m :: A,n :: B=>dn m n*dp A B
 |_,_=>1
abbrev fp:List Nat->Nat
 |[]=>1
 |m :: A=>fc m*fp A
def kD:∀A,0<fp A
 |[]=>by decide
 |m :: A=>Qa (Fs m) (kD A)
def pF:∀A B,0<dp A B
 |[],_=>SE
 |_ :: _,[]=>SE
 |m :: A,n :: B=>Qa (L5 m n) (pF A B)
def IQ:∀{A B:List Nat},A.length=B.length->dp A B*fp B=fp A*dp B A
 |[],[],_=>rfl
 |m :: A,n :: B,h=>by
  show dn m n*dp A B*(fc n*fp B)=fc m*fp A*(dn n m*dp B A);have e:=IQ (A:=A) (B:=B) (Qh h);have d:=Op m n
  calc dn m n*dp A B*(fc n*fp B)=(dn m n*fc n)*(dp A B*fp B):=by simp only[Qv,Q8,P9]
   _=(fc m*dn n m)*(fp A*dp B A):=by rw[d,e]
   _=_:=by simp only[Qv,Q8,P9]
abbrev gn(g:Nat->Rat)(R:List Nat)(A B:List Nat):Rat:=pl g R*PH (fp A) (fp B)
def Og{g:Nat->Rat}{R:List Nat}{A B:List Nat}{a b:Nat}(h:PH a b=pl g R)(l:A.length=B.length)(hb:0<b):PH ((a:Int)*dp A B) ((b:Int)*dp B A)=gn g R A B:=by
 unfold gn;rw[<- Q6,h];congr 1;have e:=IQ l;refine(Q2 (by have:=pF B A;lia) (by have:=kD B;lia)).mpr ?_
 have:=congrArg (λn:Nat=>(n:Int)) e
 simpa only[Qj] using this
end Gn
namespace Gn
open Pw
open Ev (vr fe kf nump)
abbrev AA:List Pr->Nat
 |[]=>1
 |x :: T=>x.1 ^ x.2.toNat*AA T
abbrev BB:List Pr->Nat
 |[]=>1
 |x :: T=>x.1 ^ (-x.2).toNat*BB T
def Be:∀S T,AA (S++T)=AA S*AA T
 |[],T=>by show AA T=1*AA T;rw[Uj]
 |x :: S,T=>by show _*AA (S++T)=_*AA S*AA T;rw[Be S T,P9]
def Bb:∀S T,BB (S++T)=BB S*BB T
 |[],T=>by show BB T=1*BB T;rw[Uj]
 |x :: S,T=>by show _*BB (S++T)=_*BB S*BB T;rw[Bb S T,P9]
def jP:∀{T:List Pr},(∀x∈T,0<x.1)->0<AA T/\0<BB T
 |[],_=>⟨SE,SE⟩
 |x :: T,h=>by
  obtain⟨a,b⟩:=jP (T:=T) λy hy=>h y (O9 _ hy)
  have p:=h x O8;exact⟨Qa (Qy p) a,Qa (Qy p) b⟩
def Jj{f:Nat->Int}(hf:Add f):∀{T:List Pr},(∀x∈T,0<x.1)->f (AA T)-f (BB T)=SF f T
 |[],_=>by show f 1-f 1=0;lia
 |x :: T,h=>by
  have h':∀y∈T,0<y.1:=λy hy=>h y (O9 _ hy)
  obtain⟨a,b⟩:=jP h';have p:=h x O8;have i:=Jj hf h';show f (_*AA T)-f (_*BB T)=x.2*f x.1+SF f T;rw[hf.mul _ _ (Qy p) a,hf.mul _ _ (Qy p) b,hf.pow p,hf.pow p]
  have e:((x.2.toNat:Nat):Int)*f x.1-(((-x.2).toNat:Nat):Int)*f x.1=x.2*f x.1:=by
   rw[<- W2,show((x.2.toNat:Nat):Int)-(((-x.2).toNat:Nat):Int)=x.2 by lia]
  lia
def sk{q:Nat}{g:Pr->Nat}:∀{T:List Pr},(∀x∈T,Ra q x.1)->Ra q (T.foldr (λx a=>x.1 ^ g x*a) 1)
 |[],_=>UA q
 |x :: T,h=>UB ((h x O8).pow_right _) (sk λy hy=>h y (O9 _ hy))
def Bd:∀T,AA T=T.foldr (λx a=>x.1 ^ x.2.toNat*a) 1
 |[]=>rfl
 |x :: T=>by show _*AA T=_*_;rw[Bd T]
def Ba:∀T,BB T=T.foldr (λx a=>x.1 ^ (-x.2).toNat*a) 1
 |[]=>rfl
 |x :: T=>by show _*BB T=_*_;rw[Ba T]
def FO:∀{T:List Pr},(T.map (·.1)).Pairwise (λa b=>Ra a b)->Ra (AA T) (BB T)
 |[],_=>UA 1
 |x :: T,h=>by
  obtain⟨h1,h2⟩:=Ud.mp h;have hx:∀y∈T,Ra x.1 y.1:=λy hy=>h1 _ (QK hy)
  have ca:Ra x.1 (AA T):=by rw[Bd];exact sk hx
  have cb:Ra x.1 (BB T):=by rw[Ba];exact sk hx
  have i:=FO h2;show Ra (x.1 ^ x.2.toNat*AA T) (x.1 ^ (-x.2).toNat*BB T);refine Ra.mul_left (UB ?_ (cb.pow_left _)) (UB (ca.symm.pow_right _) i);by_cases c:0<=x.2
  .rw[show(-x.2).toNat=0 by lia,TL];exact UA _
  .rw[show x.2.toNat=0 by lia,TL];exact Nat.coprime_one_left _
def Bc{T:List Pr}(h:∀x∈T,0<x.1)(i:Nat):AA (T.take i)<=AA T/\BB (T.take i)<=BB T:=by
 have e:=Tk i T;have d:=jP (T:=T.drop i) λx hx=>h x (Tz hx)
 constructor
 .rw[<- congrArg AA e,Be];exact QZ _ d.1
 .rw[<- congrArg BB e,Bb];exact QZ _ d.2
def OG{T:List Pr}(h:∀x∈T,0<x.1){i:Nat}{x:Pr}(hx:T[i]?=some x):AA (T.take (i+1))=AA (T.take i)*x.1 ^ x.2.toNat/\BB (T.take (i+1))=BB (T.take i)*x.1 ^ (-x.2).toNat/\x.1 ^ x.2.toNat<=AA T/\x.1 ^ (-x.2).toNat<=BB T:=by
 have e1:AA (T.take (i+1))=AA (T.take i)*x.1 ^ x.2.toNat:=by rw[Ps,hx,Be];show _*(_*1)=_;rw[TC]
 have e2:BB (T.take (i+1))=BB (T.take i)*x.1 ^ (-x.2).toNat:=by rw[Ps,hx,Bb];show _*(_*1)=_;rw[TC]
 have p:=jP (T:=T.take i) λy hy=>h y (QP hy)
 have t:=Bc h (i+1);rw[e1,e2] at t;exact⟨e1,e2,Pj (QN _ p.1) t.1,Pj (QN _ p.2) t.2⟩
abbrev PP:List (Nat×Nat)->List Int->Nat
 |w :: W,e :: R=>w.1 ^ e.toNat*w.2 ^ (-e).toNat*PP W R
 |_,_=>1
abbrev QQ:List (Nat×Nat)->List Int->Nat
 |w :: W,e :: R=>w.2 ^ e.toNat*w.1 ^ (-e).toNat*QQ W R
 |_,_=>1
abbrev na:List Int->Nat
 |[]=>0
 |e :: R=>e.natAbs+na R
def ET{c a k j:Nat}(h:a<=c)(hk:k<=j)(hc:0<c):a ^ k<=c ^ j:=Pj (SN h k) (Ph hc hk)
def KZ{c a b:Nat}(hc:0<c)(a0:0<a)(ac:a<=c)(b0:0<b)(bc:b<=c)(e:Int):0<a ^ e.toNat*b ^ (-e).toNat/\a ^ e.toNat*b ^ (-e).toNat<=c ^ e.natAbs/\∀f:Nat->Int,Pw.Add f->f (a ^ e.toNat*b ^ (-e).toNat)=(e.toNat:Int)*f a+((-e).toNat:Int)*f b:=by
 refine⟨Qa (Qy a0) (Qy b0),?_,λf hf=>by rw[hf.mul _ _ (Qy a0) (Qy b0),hf.pow a0,hf.pow b0]⟩;rcases Int.le_total 0 e with z|z
 .rw[show(-e).toNat=0 by lia,TL,TC];exact ET ac (by lia) hc
 .rw[show e.toNat=0 by lia,TL,Uj];exact ET bc (by lia) hc
def FH{c:Nat}(hc:0<c):∀{W:List (Nat×Nat)} {R:List Int},(∀w∈W,(0<w.1/\w.1<=c)/\0<w.2/\w.2<=c) ->
  (0<PP W R/\PP W R<=c ^ na R)/\(0<QQ W R/\QQ W R<=c ^ na R)/\∀f,Pw.Add f->f (PP W R)-f (QQ W R)=vs f W R
 |[],R,_=>by
  have:1<=c ^ na R:=Qy hc
  exact⟨⟨SE,this⟩,⟨SE,this⟩,λf _=>Int.sub_self _⟩
 |_ :: _,[],_=>⟨⟨SE,Pa _⟩,⟨SE,Pa _⟩,λf _=>Int.sub_self _⟩
 |w :: W,e :: R,h=>by
  obtain⟨⟨w1,b1⟩,w2,b2⟩:=h w O8;obtain⟨⟨p0,p1⟩,⟨q0,q1⟩,pq⟩:=FH hc (W:=W) (R:=R) λy hy=>h y (O9 _ hy)
  obtain⟨x0,x1,x2⟩:=KZ hc w1 b1 w2 b2 e;obtain⟨y0,y1,y2⟩:=KZ hc w2 b2 w1 b1 e;have ex:c ^ na (e :: R)=c ^ e.natAbs*c ^ na R:=QU ..;rw[ex];refine⟨⟨Qa x0 p0,PX x1 p1⟩,⟨Qa y0 q0,PX y1 q1⟩,λf hf=>?_⟩;show f (w.1 ^ e.toNat*w.2 ^ (-e).toNat*PP W R)-f (w.2 ^ e.toNat*w.1 ^ (-e).toNat*QQ W R)=e*(f w.1-f w.2)+vs f W R;rw[hf.mul _ _ x0 p0,hf.mul _ _ y0 q0,x2 f hf,y2 f hf,<- pq f hf,WX];have a1:e*f w.1=(e.toNat:Int)*f w.1-((-e).toNat:Int)*f w.1:=by rw[<- W2,show((e.toNat:Nat):Int)-(((-e).toNat:Nat):Int)=e by lia]
  have a2:e*f w.2=(e.toNat:Int)*f w.2-((-e).toNat:Int)*f w.2:=by rw[<- W2,show((e.toNat:Nat):Int)-(((-e).toNat:Nat):Int)=e by lia]
  lia
def OF{c:Nat}(hc:0<c){W:List (Nat×Nat)}(hW:∀w∈W,(0<w.1/\w.1<=c)/\0<w.2/\w.2<=c){T:List Pr}(ap:EA (T.map (·.1)))(sf:∀f,Pw.Add f->SF f T=SF f (gi W R)) :
  AA T<=c ^ na R/\BB T<=c ^ na R:=by
 obtain⟨⟨p0,p1⟩,⟨q0,q1⟩,pq⟩:=FH hc (R:=R) hW;have tp:∀x∈T,0<x.1:=λx hx=>by have:=ap.1 _ (QK hx);lia
 obtain⟨a0,b0⟩:=jP tp
 have e:AA T*QQ W R=BB T*PP W R:=y6 (Qa a0 q0) (Qa b0 p0) λp hp=>by
  have h1:=Jj hp.add tp;rw[sf _ hp.add,pV,<- pq _ hp.add] at h1;rw[iI hp _ _ a0 q0,iI hp _ _ b0 p0];have h1:(bB p (AA T):Int)-bB p (BB T)=bB p (PP W R)-bB p (QQ W R):=h1;lia
 have co:=FO ap.2;have d1:AA T∣PP W R:=co.dvd_of_dvd_mul_left ⟨_,e.symm⟩;have d2:BB T∣QQ W R:=co.symm.dvd_of_dvd_mul_left ⟨_,e⟩;exact⟨Pj (RM p0 d1) p1,Pj (RM q0 d2) q1⟩
def vU{f:Nat->Int}:∀{W:List (Nat×Nat)} {o:List Int} {a:Nat} {w:Nat×Nat} {x v:Int},W[a]?=some w->o[a]?=some x->vs f W (o.set a v)=vs f W o+(v-x)*(f w.1-f w.2)
 |[],_,_,_,_,_,h,_=>by simp at h
 |_ :: _,[],_,_,_,_,_,h=>by simp at h
 |u :: W,y :: o,0,w,x,v,h1,h2=>by
  simp at h1 h2;subst h1 h2;show v*_+vs f W o=y*_+vs f W o+(v-y)*_;rw[W2];lia
 |u :: W,y :: o,a+1,w,x,v,h1,h2=>by
  simp at h1 h2;show y*_+vs f W (o.set a v)=y*_+vs f W o+_;rw[vU h1 h2];lia
def y8:∀{o:List Int} {a:Nat} {x v:Int},o[a]?=some x->(v-x).natAbs<=1->na (o.set a v)<=na o+1
 |[],_,_,_,h,_=>by simp at h
 |y :: o,0,x,v,h,k=>by
  simp at h;subst h;show v.natAbs+na o<=y.natAbs+na o+1;lia
 |y :: o,a+1,x,v,h,k=>by
  simp at h
  have:=y8 h k
  show y.natAbs+na (o.set a v)<=y.natAbs+na o+1;lia
abbrev bump(o:List Int)(e:Nat×Nat):List Int:=(o.set e.1 (o.getD e.1 0-1)).set e.2 ((o.set e.1 (o.getD e.1 0-1)).getD e.2 0+1)
abbrev ku(es:List (Nat×Nat))(n:Nat)(R:List Nat):List Int:=R.foldl (λo k=>bump o (es.getD k (0,0))) (PV n 0)
def tR{R:List Nat}{k:Nat}:ku es n (R++[k])=bump (ku es n R) (es.getD k (0,0)):=by unfold ku;rw[Rh];rfl
def El:(bump o e).length=o.length:=by unfold bump;rw[T9,T9]
def mD:(ku es n R).length=n:=by
 unfold ku;generalize hq:PV n (0:Int)=q;have hl:q.length=n:=by rw[<- hq,Si]
 clear hq
 induction R generalizing q with
 |nil=>exact hl
 |cons k R ih=>exact ih _ (El.trans hl)
def getD_at{o:List Int}{a:Nat}(h:a<o.length):o[a]?=some (o.getD a 0):=by rw[O2,O1 h];rfl
def Em{W:List (Nat×Nat)}{o:List Int}{e:Nat×Nat}{w u:Nat×Nat}(l:e.1<o.length)(l':e.2<o.length)(hw:W[e.1]?=some w)(hu:W[e.2]?=some u) :
  vs f W (bump o e)=vs f W o+((f u.1-f u.2)-(f w.1-f w.2))/\na (bump o e)<=na o+2:=by
 unfold bump;have g1:=getD_at l;have g2:=getD_at (o:=o.set e.1 (o.getD e.1 0-1)) (a:=e.2) (by rw[T9];exact l');have a:=vU (f:=f) (v:=o.getD e.1 0-1) hw g1;have b:=vU (f:=f) (v:=(o.set e.1 (o.getD e.1 0-1)).getD e.2 0+1) hu g2;have c:=y8 (v:=o.getD e.1 0-1) g1 (by lia);have d:=y8 (v:=(o.set e.1 (o.getD e.1 0-1)).getD e.2 0+1) g2 (by lia);refine⟨?_,by lia⟩;rw[b,a,show o.getD e.1 0-1-o.getD e.1 0 = -1 by lia,show(o.set e.1 (o.getD e.1 0-1)).getD e.2 0+1-(o.set e.1 (o.getD e.1 0-1)).getD e.2 0=1 by lia,TB,Tx,TB];lia
abbrev sW(es:List (Nat×Nat))(W:Nat->Rat)(k:Nat):Rat:=W (Tr.tow es k)*(W (Tr.fro es k))⁻¹
def Jo{n h:Nat}(hh:h<n):(wl W n)[h]?=some ((W h).num.natAbs,(W h).den):=by
 unfold wl;rw[O4,Qs hh];rfl
def xP{α:Type}{P:List α->Prop}(h0:P [])(h1:∀l a,P l->P (l++[a]))(l:List α):P l:=by
 have:∀r:List α,P r.reverse:=λr=>by
  induction r with
  |nil=>exact h0
  |cons a r ih=>rw[XS];exact h1 _ _ ih
 rw[<- List.reverse_reverse l];exact this _
def yX{es:List (Nat×Nat)}{n:Nat}{W:Nat->Rat}(ok:∀k,k<es.length->Tr.fro es k<n/\Tr.tow es k<n)(wp:∀h,h<n->0<W h):∀{R:List Nat},(∀k∈R,k<es.length) ->
  (∀f,Pw.Add f->vs f (wl W n) (ku es n R)=vr f (pl (sW es W) R))/\na (ku es n R)<=2*R.length:=by
 intro R
 induction R using xP with
 |h0 =>
  intro _
  have z:∀(m:Nat) (f:Nat->Int) (U:List (Nat×Nat)),vs f U (PV m 0)=0/\na (PV m 0)=0:=by
   intro m f
   induction m with
   |zero=>intro U;cases U <;> exact⟨rfl,rfl⟩
   |succ m ih =>
    intro U;cases U with
    |nil=>exact⟨rfl,by show 0+na (PV m 0)=0;rw[(ih []).2]⟩
    |cons u U=>exact⟨by show 0*_+vs f U (PV m 0)=0;rw[(ih U).1,RL];rfl,by show 0+na (PV m 0)=0;rw[(ih []).2]⟩
  exact⟨λf hf=>by show vs f _ (PV n 0)=vr f 1;rw[(z n f _).1,kf hf],Ws (z n (λ_=>0) []).2⟩
 |h1 R k ih =>
  intro h;obtain⟨i1,i2⟩:=ih λj hj=>h j (PK _ hj)
  have hk:=h k (PB _ (Po.mpr rfl));obtain⟨l1,l2⟩:=ok k hk;have b:=λf=>Em (f:=f) (W:=wl W n) (o:=ku es n R) (e:=es.getD k (0,0)) (by rw[mD];exact l1) (by rw[mD];exact l2) (Jo l1) (Jo l2)
  rw[tR];refine⟨λf hf=>?_,by rw[Pm,Rj];have:=(b λ_=>0).2;lia⟩
  have gp:∀j∈R,0<sW es W j:=λj hj=>by
   obtain⟨a,c⟩:=ok j (h j (PK _ hj));exact Rv (wp _ c) (RT.mpr (wp _ a))
  rw[(b f).1,i1 f hf,EU];have kp:0<sW es W k:=Rv (wp _ l2) (RT.mpr (wp _ l1));show _=vr f (pl (sW es W) R*(sW es W k*1));rw[Q4,fe hf (oF gp) kp];show _=_+vr f (W (Tr.tow es k)*(W (Tr.fro es k))⁻¹);rw[fe hf (wp _ l2) (RT.mpr (wp _ l1)),Jq hf (wp _ l1)];show _+(vr f (W (Tr.tow es k))-vr f (W (Tr.fro es k)))=_;lia
def OE{es:List (Nat×Nat)}{n:Nat}{W:Nat->Rat}(ok:∀k,k<es.length->Tr.fro es k<n/\Tr.tow es k<n)(wp:∀h,h<n->0<W h){R:List Nat}(hR:∀k∈R,k<es.length){T:List Pr}(ap:EA (T.map (·.1)))
  (sf:∀f,Pw.Add f->SF f T=SF f (gi (wl W n) (ku es n R))):PH (AA T) (BB T)=pl (sW es W) R:=by
 have tp:∀x∈T,0<x.1:=λx hx=>by have:=ap.1 _ (QK hx);lia
 obtain⟨a0,b0⟩:=jP tp
 have gp:∀j∈R,0<sW es W j:=λj hj=>by
  obtain⟨a,c⟩:=ok j (hR j hj);exact Rv (wp _ c) (RT.mpr (wp _ a))
 refine J0 ?_ (oF gp) λp hp=>?_
 .rw[RE];exact Rv (by exact_mod_cast a0) (RT.mpr (by exact_mod_cast b0))
 .rw[Jr hp.add a0 b0,Jj hp.add tp,sf _ hp.add,pV,(yX ok wp hR).1 _ hp.add]
end Gn
namespace Gn
open PySem L2 Fr G1 Sm Vs G2 Rk Sz Sf Rw Ti Lo Lc Tr Pw
open PySem.W (Dat kqdOk)
def DC{n m:Nat}(h:n<=2 ^ m)(k:m<20000):n<2 ^ 20000:=Pk h (Qd (by decide) k)
def rV{m:Nat}:∀{k:Nat},m<k->fl m k=0
 |k+1,h=>by
  show fl m k*(m-k)=0;by_cases c:m<k
  .rw[rV c,TK]
  .rw[show m-k=0 by lia,Nat.mul_zero]
abbrev iS:Sp:=λvs H Q _=>∃(x b:Nat) (k:Int),vs=[.int (x:Int),.int k]/\-(2 ^ 62)<=k/\k<2 ^ 62/\x<2 ^ b/\b<1000/\b*k.toNat<19000/\Q (.int (fl x k.toNat:Int)) H
abbrev qC(K:Fg):TS:=(aq (av (tC (.int 1)) (al 2))
 (aq (a5 (cw (ae (aa 1) aj)) (al 3)
 (av (ar cV (aa 2) (ar hX (aa 0) (aa 3))) (al 2)))
 (aI (aa 2))))
def CN{K:Fg}:ρ 4 iS (qC K):=by
 fail "R";obtain⟨x,b,k,rfl,k1,k2,xb,b1,bk,q⟩:=h;rw[L2.aP hN];walk_at "t";unfold qC;cbv;refine aW (λi σ H2=>∃u3:Option V,σ=[↥(x:Int),↥k,↥(fl x i:Int),u3]/\H2=H) ⟨none,rfl,rfl⟩ ?_ ?_
 .rintro i σ H2 hi ⟨u3,rfl,rfl⟩;have p1:fl x i<=2 ^ (b*i):=by rw[VU];exact D_ (Rx xb) i
  have p2:b*i<=b*k.toNat:=PU b (by lia)
  have b2:((x:Int)-(0+(i:Int))).natAbs<2 ^ 20000:=by
   have x1:x<2 ^ 1000:=PL xb (Ph (by decide) (by lia));have x2:(2:Nat) ^ 62<2 ^ 1000:=Qd (by decide) (by decide);refine DC (m:=1000) ?_ (by decide);generalize (2:Nat) ^ 1000=M at x1 x2;lia
  cbv;refine cP ⟨DC (n:=((fl x i:Nat):Int).natAbs) (m:=b*i) (by rw[Pu];exact p1) (by lia),b2⟩ ?_;cbv;refine⟨some (.int (0+(i:Int))),?_,rfl⟩
  rw[show(fl x i:Int)*((x:Int)-(0+(i:Int)))=(fl x (i+1):Int) by
   show _=((fl x i*(x-i):Nat):Int)
   by_cases c:i<=x
   .rw[Qj,show((x-i:Nat):Int)=(x:Int)-(0+(i:Int)) by lia]
   .rw[rV (by lia),TK];exact RL _]
  rfl
 .rintro σ H2 ⟨u3,rfl,rfl⟩;cbv;exact q
abbrev sZ:Sp:=λvs H Q _=>∃(x:Nat) (k:Int),vs=[.int (x:Int),.int k]/\0<x/\-(2 ^ 62)<=k/\k<2 ^ 62/\x<2 ^ 20000/\x ^ k.toNat<2 ^ 20000/\Q (.int ((x ^ k.toNat:Nat):Int)) H
abbrev ww(K:Fg):TS:=(aq (av (tC (.int 1)) (al 2))
 (aq (a5 (cw (ae (aa 1) aj)) (al 3)
 (av (ar cV (aa 2) (aa 0)) (al 2)))
 (aI (aa 2))))
def GW{K:Fg}:ρ 4 sZ (ww K):=by
 fail "R";obtain⟨x,k,rfl,x0,k1,k2,xb,pb,q⟩:=h;rw[L2.aP hN];walk_at "t";unfold ww;cbv;refine aW (λi σ H2=>∃u3:Option V,σ=[↥(x:Int),↥k,some (.int ((x ^ i:Nat):Int)),u3]/\H2=H) ⟨none,rfl,rfl⟩ ?_ ?_
 .rintro i σ H2 hi ⟨u3,rfl,rfl⟩;cbv;refine cP ⟨by rw[Pu];exact Pk (Ph x0 (Rx hi)) pb,by rw[Pu];exact xb⟩ ?_;cbv;exact⟨some (.int (0+(i:Int))),by rw[<- Qj,<- QW];rfl,rfl⟩
 .rintro σ H2 ⟨u3,rfl,rfl⟩;cbv;exact q
abbrev xK(K:Fg):Sp:=λvs H Q _=>∃(a:Addr) (xs:List V) (P0:List Pr),vs=[.ref a]/\H a=some (.lst xs)/\RzL K H xs (P0.map jz)/\(∀x∈P0,0<x.1/\x.1<2 ^ 8000)/\gm P0<2 ^ 8000/\P0.length+(bH (P0.map (·.1))).log2<2 ^ 20 /\
 (∀T:List Pr,EA (T.map (·.1))->(∀f,Pw.Add f->SF f T=SF f P0)->AA T<2 ^ 15000/\BB T<2 ^ 15000) /\
 ∀(p:Addr) (H':Hp) (T:List Pr),Same H H'->EA (T.map (·.1))->(∀f,Pw.Add f->SF f T=SF f P0)->Rz K H' (.ref p) (dI [(AA T:Int),(BB T:Int)])->Q (.ref p) H'
nonrec abbrev BN(K:Fg):TS:=(aq (a5 (cx K (aC (Pw.lP K) [] E0 (ae (aa 0) aj))) (cg K 2 (aT (al 3) (aT (al 4) ci)))
 (aq (av (ar cV (aa 1) (aC Gn.sZ [] E0 (ae (aa 3) (ae (aa 4) aj)))) (al 1))
 (av (ar cV (aa 2) (aC Gn.sZ [] E0 (ae (aa 3) (ae (Jk (rU λi=>.int (-i)) (aa 4)) aj)))) (al 2))))
 (aI (be (ae (aa 1) (ae (aa 2) aj)))))
abbrev wD(K:Fg):TS:=(aq (av (tC (.int 1)) (al 1))
 (aq (av (tC (.int 1)) (al 2))
 (BN K)))
def GY{K:Fg}:ρ 5 (xK K) (wD K):=by
 fail "R";obtain⟨a,xs,P0,rfl,ha,rx,pos,ht,hc,bd,k⟩:=h;rw[L2.aP hN];walk_at "t";unfold wD;cbv;refine⟨a,xs,P0,rfl,ha,rx,pos,ht,hc,λp H1 T A1 ap ne sf lt=>?_⟩;obtain⟨b1,b2⟩:=bd T ap sf;obtain⟨ys,hp,ry⟩:=A1.at_;have S1:=A1.same;have tp:∀x∈T,2<=x.1:=λx hx=>ap.1 _ (QK hx)
 have tp0:∀x∈T,0<x.1:=λx hx=>by have:=tp x hx;lia
 have p15:(2:Nat) ^ 15000<2 ^ 20000:=Qd (by decide) (by decide);have ly:ys.length=T.length:=by rw[ry.length,O0]
 cbv;refine⟨p,rfl,⟨ys,SqL.of hp⟩,?_⟩;refine bn (xs:=ys) (λi σ H2=>∃u3 u4:Option V,σ=[⇑a,some (.int (AA (T.take i):Int)),some (.int (BB (T.take i):Int)),u3,u4]/\Same H1 H2) ⟨none,none,rfl,Same.refl _⟩ (by rintro i σ H2 _ ⟨_,_,_,S2⟩;exact SqL.of (S2 _ _ hp)) ?_ ?_
 .rintro i y σ H2 hy ⟨u3,u4,rfl,S2⟩;obtain⟨dd,g1,g2⟩:=ry.get hy;rw[O4] at g1;obtain⟨x,hx,rfl⟩:=Pb.mp g1;obtain⟨c,rfl,hcc⟩:=bN (g2.same S2);obtain⟨e1,e2,m1,m2⟩:=OG tp0 hx;obtain⟨t1,t2⟩:=Bc tp0 i;have x2:=tp x (O7 hx)
  have ex:∀{j n:Nat},x.1 ^ j<=n->n<2 ^ 15000->j<15000:=λ{j n} h1 h2=>by
   have:2 ^ j<2 ^ 15000:=Pk (Pj (SN x2 j) h1) h2
   exact(Nat.pow_lt_pow_iff_right (by decide)).mp this
  have j1:=ex m1 b1;have j2:=ex m2 b2
  have xb:x.1<2 ^ 20000:=by
   have ne0:=ne x (O7 hx);refine Qo ?_ p15;by_cases c:0<x.2
   .exact Pk (Pj (Va (by lia) _) m1) b1
   .exact Pk (Pj (Va (by lia) _) m2) b2
  generalize (2:Nat) ^ 15000=P15 at b1 b2 p15;have hcc:H2 c=some (.tup [.int (x.1:Int),.int x.2]):=hcc;refine bI (SqT.of hcc) rfl ?_;cbv;refine⟨x.1,x.2,rfl,by lia,by lia,by lia,xb,Qo (Pk m1 b1) p15,?_⟩;refine cP ⟨by rw[Pu];exact Qo (Pk t1 b1) p15,by rw[Pu];exact Qo (Pk m1 b1) p15⟩ ?_;cbv;refine⟨x.1,-x.2,rfl,by lia,by lia,by lia,xb,Qo (Pk m2 b2) p15,?_⟩;refine cP ⟨by rw[Pu];exact Qo (Pk t2 b2) p15,by rw[Pu];exact Qo (Pk m2 b2) p15⟩ ?_;cbv;rw[<- Qj,<- Qj,<- e1,<- e2];exact⟨_,_,rfl,S2⟩
 .rintro σ H2 ⟨u3,u4,rfl,S2⟩;rw[ly,Pc (Pa _)];cbv;refine⟨aM,λq nq=>?_⟩;exact k q _ T (S1.trans (S2.trans (ak nq _))) ap sf (.tup ag (RpL.ints [_,_]))
open PySem L2 Fr G1 Sm Vs G2 Rk Sz Sf Rw Ti Lo Lc Tr Pw Dn Wd
abbrev vJ(T:List Tp):List Nat->List Int->List Int
 |[],c=>c
 |k :: R,c=>vJ T R (beh (T.getD k ([],[])) c)
abbrev Bf(T:List Tp):List Nat->List Int->Prop
 |[],_=>True
 |k :: R,c=>k<T.length/\pJ (T.getD k ([],[])) c=true/\Bf T R (beh (T.getD k ([],[])) c)
def vT{T:List Tp}:∀{A B:List Nat} {c:List Int},vJ T (A++B) c=vJ T B (vJ T A c)
 |[],_,_=>rfl
 |k :: A,B,c=>vT (A:=A)
def sB{T:List Tp}:∀{A B:List Nat} {c:List Int},Bf T (A++B) c↔Bf T A c/\Bf T B (vJ T A c)
 |[],_,_=>⟨λh=>⟨trivial,h⟩,λh=>h.2⟩
 |k :: A,B,c=>by
  show _/\_/\Bf T (A++B) _↔(_/\_/\_)/\Bf T B (vJ T A _);rw[sB (A:=A)];exact⟨(by rintro ⟨a,b,c,d⟩;exact ⟨⟨a,b,c⟩,d⟩),(by rintro ⟨⟨a,b,c⟩,d⟩;exact ⟨a,b,c,d⟩)⟩
def vS{T:List Tp}:∀{R:List Nat} {c:List Int},(vJ T R c).length=c.length
 |[],_=>rfl
 |k :: R,c=>by show(vJ T R _).length=_;rw[vS (R:=R),AH]
def FF{T:List Tp}:∀{R:List Nat} {c:List Int},Bf T R c->∀k∈R,k<T.length
 |k :: R,c,h,j,hj=>by
  rcases Py.mp hj with e|e
  .rw[e];exact h.1
  .exact FF h.2.2 j e
abbrev xD(K:Fg):Sp:=λvs H Q _=>∃(v u:V) (a:Addr) (ws:List Str) (ts:List Tn) (row:List Nat) (cs:List Int),vs=[v,.ref a,u]/\Rz K H v (dV ws ts)/\H a=some (.lst ((ni row).map V.int))/\Rz K H u (dI cs)/\Nn cs.length ts/\cs.length<=100/\Bf (ts.map Dn.pr) row cs /\
 ∀(w:V) (H':Hp),Same H H'->Rz K H' w (dI (vJ (ts.map Dn.pr) row cs))->Q w H'
nonrec abbrev Bw(K:Fg):TS:=(aq (av (aC (iB K) [] E0 (ae (aa 0) (ae (aa 5) aj))) (al 6))
 (aq (a8 (iL (tB (aC (Wd.xO K) [] E0 (ae (aa 6) (ae (aa 3) aj)))))
 iM
 bw)
 (av (aC (Wd.xN K) [] E0 (ae (aa 6) (ae (aa 3) aj))) (al 3))))
abbrev wa(K:Fg):TS:=(aq (av (b_ (cz K) (ae (aa 2) aj)) (al 3))
 (aq (a5 (ii K (ae (aa 1) aj)) (cg K 2 (aT (al 4) (aT (al 5) ci)))
 (Bw K))
 (aI (aa 3))))
def GP{K:Fg}:ρ 7 (xD K) (wa K):=by
 fail "R";obtain⟨v,u,a,ws,ts,row,cs,rfl,rv,ha,ru,nn,l100,wb,k⟩:=h;obtain⟨b,rfl,hb⟩:=bN ru;rw[L2.aP hN];walk_at "t";unfold wa;cbv;refine Lm (SqT.of hb) ?_;cbv;refine⟨a,_,rfl,SqL.of ha,?_⟩;refine dB (xs:=(ni row).map V.int) (λi σ H2=>∃(w:V) (u4 u5 u6:Option V),σ=[some v,⇑a,⇑b,some w,u4,u5,u6]/\Same H H2/\Rz K H2 w (dI (vJ (ts.map Dn.pr) (row.take i) cs))) ⟨_,none,none,none,rfl,Same.refl _,ru⟩ (by rintro i σ H2 _ ⟨_,_,_,_,_,S,_⟩;exact SqL.of (S _ _ ha)) ?_ ?_
 .rintro i y σ H2 T e1 ⟨w,u4,u5,u6,rfl,S2,rc⟩ nT;unfold ni at e1;rw[O4,O4] at e1;obtain⟨n',f0,rfl⟩:=Pb.mp e1;obtain⟨n,f1,rfl⟩:=Pb.mp f0;have li:i<row.length:=(O3.mp f1).1;have et:row.take (i+1)=row.take i++[n]:=by rw[Ps,f1];rfl
  have w1:Bf (ts.map Dn.pr) (row.take i++[n]) cs:=by
   rw[<- et]
   have:=Tk (i+1) row
   rw[<- this] at wb;exact(sB.mp wb).1
  obtain⟨n1,n2,_⟩:=(sB.mp w1).2;rw[O0] at n1;obtain⟨t,ht⟩:∃t,ts[n]?=some t:=⟨_,O1 n1⟩
  rw[mQ ht] at n2;obtain⟨lt1,lt2⟩:=nn t (O7 ht);have lc:(vJ (ts.map Dn.pr) (row.take i) cs).length=cs.length:=vS;have S3:=S2.trans (ak nT (.tup [.int (i:Int),.int (n:Int)]));have rc3:=rc.same (ak nT (.tup [.int (i:Int),.int (n:Int)]));refine bI (SqT.of ag) rfl ?_;generalize upd H2 T (.tup [.int (i:Int),.int (n:Int)])=H3 at S3 rc3 ⊢;cbv;refine⟨v,n,ws,ts,t,rfl,rv.same S3,ht,λz rz=>?_⟩;cbv;refine⟨z,w,t,_,rfl,rz,rc3,by lia,λH4 S4=>?_⟩;rw[n2];cbv;refine⟨z,w,t,_,rfl,rz.same S4,rc3.same S4,by lia,by lia,by lia,λp H5 S5 rp=>?_⟩;cbv;refine⟨.ref p,_,_,_,rfl,S3.trans (S4.trans S5),?_⟩;rw[et,vT];show Rz K H5 _ (dI (beh ((ts.map Dn.pr).getD n ([],[])) _));rw[mQ ht];exact rp
 .rintro σ H2 ⟨w,u4,u5,u6,rfl,S2,rc⟩;rw[show((ni row).map V.int).length=row.length by unfold ni;rw[O0,O0],Pc (Pa _)] at rc;cbv;exact k w H2 S2 rc
abbrev Gs(K:Fg):Sp:=λvs H Q _=>∃(v:V) (ws:List Str) (ts:List Tn) (w:Nat),vs=[v]/\Rz K H v (dV ws ts)/\jF w ts/\iw ts/\(∀m∈mks ts,One (wW ts) m) /\
 ∀(f:Addr) (xs:List V) (H':Hp),Same H H'->H f=none->H' f=some (.lst xs)->xs.length=(aF ts).length->(∀i x,xs[i]?=some x->QV K H' x (Wt ts i))->Q (.ref f) H'
abbrev Gc(K:Fg):TS:=(aq (av (aC (Pw.tm K) [] E0 (ae (aa 0) aj)) (al 1))
 (aq (a8 (iL (tB (ar (aD K) (aa 1) (tC (.int 0)))))
 iM
 bw)
 (aI (ar (aD K) (aa 1) (tC (.int 1))))))
def JT{K:Fg}:ρ 2 (Gs K) (Gc K):=by
 fail "R";obtain⟨v,ws,ts,w,rfl,rv,o,af,on,k⟩:=h;rw[L2.aP hN];walk_at "t";unfold Gc;cbv;refine⟨v,ws,ts,w,rfl,rv,o,λi x y p H' he _ nr=>absurd (af i x y he) nr,λj m p r H' _ hm _ no=>absurd (on m (O7 hm)) no,λp f xs H' _ _ S np nf hp hf lf qf=>?_⟩;cbv;refine aG (SqT.of hp) (v:=.bl true) rfl ?_;cbv;refine aG (SqT.of hp) (v:=.ref f) rfl ?_;exact k f xs H' S nf hf lf qf
abbrev Gr(K:Fg):Sp:=λvs H Q _=>∃(v:V) (a:Addr) (ws:List Str) (ts:List Tn) (R:List Nat),vs=[v,.ref a,.int ((aF ts).length:Int)]/\Rz K H v (dV ws ts)/\ts.length<=100/\(aF ts).length<=100/\H a=some (.lst ((ni R).map V.int))/\(∀k∈R,k<ts.length) /\
 ∀(p:Addr) (H':Hp),Same H H'->H p=none->H' p=some (.lst ((ku (am ts) (aF ts).length R).map V.int))->Q (.ref p) H'
nonrec abbrev Ga(K:Fg):TS:=(aq (av (ar (aD K) (ar (bY K) (aa 3) (aa 5)) (tC (.int 1))) (al 7))
 (aq (av (ar hX (ar (bY K) (aa 4) (aa 6)) (tC (.int 1))) (D6 (aa 4) (aa 6) Hg))
 (av (ar aX (ar (bY K) (aa 4) (aa 7)) (tC (.int 1))) (D6 (aa 4) (aa 7) Hg))))
abbrev Gb(K:Fg):TS:=(aq (av (aC (iT K) [] E0 (ae (aa 0) aj)) (al 3))
 (aq (av (ar Hi (bU (ae (tC (.int 0)) aj)) (aa 2)) (al 4))
 (aq (a5 (cx K (aa 1)) (al 5)
 (aq (av (ar (aD K) (ar (bY K) (aa 3) (aa 5)) (tC (.int 0))) (al 6))
 (Ga K)))
 (aI (aa 4)))))
def JS{K:Fg}:ρ 8 (Gr K) (Gb K):=by
 fail "R";obtain⟨v,a,ws,ts,R,rfl,rv,t8,h8,ha,hR,k⟩:=h;rw[L2.aP hN];walk_at "t";unfold Gb;generalize hn:(aF ts).length=n at *;cbv;refine⟨v,ws,ts,rfl,rv,t8,λe H1 A1=>?_⟩;obtain⟨ys,he,ry⟩:=A1.at_;cbv;refine⟨gA,λl0 n0=>?_⟩;have S2:=A1.same.trans (ak n0 (.lst [.int 0]));have T2:=ak n0 (.lst [.int 0]);have h0:upd H1 l0 (.lst [.int 0]) l0=some (.lst [.int 0]):=ag;generalize upd H1 l0 (.lst [.int 0])=H2 at S2 T2 h0 ⊢;cbv;refine Br.NM h0 (by lia) λl nl=>?_
 have nl0:H l=none:=S2.free nl;have nl1:H1 l=none:=T2.free nl;have S3:=S2.trans (ak nl (.lst (PV n (.int 0))));have T3:=T2.trans (ak nl (.lst (PV n (.int 0))));have hl:upd H2 l (.lst (PV n (.int 0))) l=some (.lst (PV n (.int 0))):=ag;rw[show PV n (V.int 0)=(ku (am ts) n []).map V.int by unfold ku;exact(List.map_replicate ..).symm] at hl S3 T3 ⊢;generalize upd H2 l (.lst ((ku (am ts) n []).map V.int))=H3 at S3 T3 hl ⊢;cbv;refine⟨a,rfl,⟨_,SqL.of (S3 _ _ ha)⟩,?_⟩;refine bn (xs:=(ni R).map V.int) (λi σ H4=>∃u5 u6 u7:Option V,σ=[some v,⇑a,↥(n:Int),⇑e,⇑l,u5,u6,u7]/\Same H H4/\Same H1 H4/\H4 l=some (.lst ((ku (am ts) n (R.take i)).map V.int))) ⟨none,none,none,rfl,S3,T3,hl⟩ (by rintro i σ H4 _ ⟨_,_,_,_,S4,_⟩;exact SqL.of (S4 _ _ ha)) ?_ ?_
 .rintro i y σ H4 e1 ⟨u5,u6,u7,rfl,S4,T4,h4⟩;unfold ni at e1;rw[O4,O4] at e1;obtain⟨n',f0,rfl⟩:=Pb.mp e1;obtain⟨m,f1,rfl⟩:=Pb.mp f0;have hm:=hR m (O7 f1);have le:(am ts).length=ts.length:=by unfold am;rw[O0]
  have hx:(am ts)[m]?=some ((am ts).getD m (0,0)):=by rw[O2,O1 (by lia)];rfl
  have ok:=bO ts _ (O7 hx);rw[hn] at ok;have et:R.take (i+1)=R.take i++[m]:=by rw[Ps,f1];rfl
  obtain⟨u,eu,ru⟩:=ry.get' (i:=m) (d:=dP ((am ts).getD m (0,0))) (by rw[O4,hx];rfl);generalize hq:(am ts).getD m (0,0)=q at hx ok eu ru;obtain⟨c,rfl,hc⟩:=bN (ru.same T4);have hc:H4 c=some (.tup [.int (q.1:Int),.int (q.2:Int)]):=hc;have ol:∀R,(ku (am ts) n R).length=n:=λR=>mD
  cbv;refine cf (SqL.of (T4 _ _ he)) (v:=.ref c) (aO eu) ?_;refine aG (SqT.of hc) (v:=.int (q.1:Int)) rfl ?_;cbv;refine cf (SqL.of (T4 _ _ he)) (v:=.ref c) (aO eu) ?_;refine aG (SqT.of hc) (v:=.int (q.2:Int)) rfl ?_;cbv;generalize hO:ku (am ts) n (R.take i)=o at h4;have lo:o.length=n:=by rw[<- hO];exact ol _
  refine cf (SqL.of h4) (v:=.int (o.getD q.1 0)) (aO (by rw[O4,getD_at (by lia)];rfl)) ?_;cbv;refine Fe (vf (i:=4) rfl (vf (i:=6) rfl ?_));have st:∀{o:List Int} {j:Nat} {x:Int},j<o.length->DR ((o.map V.int).length) (j:Int)=some j/\(o.map V.int).set j (.int x)=(o.set j x).map V.int:=λ{o j x} hj=>⟨by unfold DR;rw[if_pos (by lia),if_pos (by rw[O0];lia)];simp,by rw[List.map_set]⟩
  refine⟨l,_,_,q.1,rfl,rfl,h4,(st (x:=0) (by lia)).1,?_⟩;rw[(st (by lia)).2];have h5:upd H4 l (.lst ((o.set q.1 (o.getD q.1 0-1)).map V.int)) l=some (.lst ((o.set q.1 (o.getD q.1 0-1)).map V.int)):=ag;have up:∀{H0 H5:Hp} {ob:HO},Same H0 H5->H0 l=none->Same H0 (upd H5 l ob):=λ{H0 H5 ob} s n x o e=>by rw[aE (aw e n)];exact s x o e
  have S5:=up (ob:=.lst ((o.set q.1 (o.getD q.1 0-1)).map V.int)) S4 nl0;have T5:=up (ob:=.lst ((o.set q.1 (o.getD q.1 0-1)).map V.int)) T4 nl1;generalize upd H4 l (.lst ((o.set q.1 (o.getD q.1 0-1)).map V.int))=H5 at h5 S5 T5 ⊢;have l1:(o.set q.1 (o.getD q.1 0-1)).length=n:=by rw[T9];exact lo
  generalize hO1:o.set q.1 (o.getD q.1 0-1)=o1 at h5 l1;cbv;refine cf (SqL.of h5) (v:=.int (o1.getD q.2 0)) (aO (by rw[O4,getD_at (by lia)];rfl)) ?_;cbv;refine Fe (vf (i:=4) rfl (vf (i:=7) rfl ?_));refine⟨l,_,_,q.2,rfl,rfl,h5,(st (x:=0) (by lia)).1,?_⟩;rw[(st (by lia)).2];cbv;refine⟨_,_,_,rfl,up S5 nl0,up T5 nl1,?_⟩;rw[et,tR,hO,hq];unfold bump;rw[hO1];exact ag
 .rintro σ H4 ⟨u5,u6,u7,rfl,S4,T4,h4⟩;rw[show((ni R).map V.int).length=R.length by unfold ni;rw[O0,O0],Pc (Pa _)] at h4;cbv;exact k l H4 S4 nl0 h4
abbrev lN(K:Fg):Sp:=λvs H Q _=>∃t b:Int,vs=[.int t,.int b]/\b≠0/\t.natAbs<2 ^ 13500/\b.natAbs<2 ^ 13500/\∀(p:Addr) (H':Hp),Same H H'->Rz K H' (.ref p) (dQ (PH t b))->Q (.ref p) H'
def L3{K:Fg}{vs:List V}(h:gz K vs H Q E):lN K vs H Q E:=by
 obtain⟨t,b,e,b0,ht,hb,k⟩:=h;have p:=@pw_lt 8000 13500 (by decide);exact⟨t,b,e,b0,Qo ht p,Qo hb p,k⟩
nonrec abbrev wO(K:Fg):TS:=(aq (av (aC nQ [] E0 (ae (aa 0) (ae (aa 1) aj))) (al 2))
 (aq (a8 (aR (ar yn (aa 1) (tC (.int 0))))
 (av (Jk (rU λi=>.int (-i)) (aa 2)) (al 2))
 bw)
 (aI (be (ae (ar uW (aa 0) (aa 2)) (ae (ar uW (aa 1) (aa 2)) aj))))))
abbrev qA(K:Fg):TS:=(aq (a8 (Jl (iL (tB (aC iO [] E0 (ae (aa 0) aj)))) (iL (tB (aC iO [] E0 (ae (aa 1) aj)))))
 iM
 bw)
 (aq (a8 (aR (ar hJ (aa 1) (tC (.int 0))))
 iM
 bw)
 (wO K)))
def CL{K:Fg}:ρ 3 (lN K) (qA K):=by
 fail "R";obtain⟨t,b,rfl,b0,ht,hb,k⟩:=h;rw[L2.aP hN];walk_at "t";unfold qA;have gp:=Gd.ub (a:=t) b0
 have fin:∀d:Int,(d=Gd.gd t b/\0<b\/d = - Gd.gd t b/\b<0)->aI (be (ae (ar uW (aa 0) (aa 2)) (ae (ar uW (aa 1) (aa 2)) aj))) (ends Q) [↥t,↥b,↥d] H:=by
  intro d hd;obtain⟨e1,e2⟩:=cX b0 (Gd.oZ b0 hd);have dn:d≠0:=by clear ht hb;rcases hd with⟨z,_⟩|⟨z,_⟩ <;> lia
  cbv;refine⟨_,_,rfl,rfl,⟨dn,ht⟩,?_⟩;cbv;refine⟨_,_,rfl,rfl,⟨dn,hb⟩,?_⟩;cbv;refine⟨aM,λp np=>?_⟩;show Q (.ref p) (upd H p (.tup [.int (t.fdiv d),.int (b.fdiv d)]));rw[e1,e2];exact k p _ (ak np _) (.tup ag (RpL.ints [_,_]))
 clear ht hb;cbv;refine⟨t,rfl,?_⟩;cbv;refine⟨b,rfl,?_⟩;cbv;refine a9 (λz=>absurd z b0) (λ_=>?_);cbv;refine⟨t,b,rfl,?_⟩;cbv;refine a9 (λc=>?_) (λc=>?_)
 .obtain h2:=fin _ (.inr ⟨rfl,c⟩);refine LJ ?_;fail "1";refine vf (i:=2) rfl ?_;refine Lr ?_;refine zA ?_;exact h2
 .exact fin _ (.inl ⟨rfl,by lia⟩)
def E7:∀{o:List Int} {c:Int},c∈o->c.natAbs<=na o
 |e :: o,c,h=>by
  show _<=e.natAbs+na o;rcases Py.mp h with z|z
  .rw[z];lia
  .have:=E7 z;lia
def mT:∀{A B:List Nat} {m n:Nat},A.length=B.length->dp (A++[m]) (B++[n])=dp A B*dn m n
 |[],[],m,n,_=>by show dn m n*1=1*dn m n;lia
 |a :: A,b :: B,m,n,h=>by
  show dn a b*dp (A++[m]) (B++[n])=dn a b*dp A B*dn m n;rw[mT (Qh h),P9]
def L6{m n b e:Nat}(h:m<2 ^ b)(k:m-n<=e):dn m n<=2 ^ (b*e):=by
 unfold dn;refine Pj (D_ (Rx h) _) ?_;rw[<- VU];exact Ph (by decide) (PU b k)
structure Nr (b e:Nat) (cs ds:List Nat):Prop where
 len:cs.length=ds.length
 five:cs.length<=5
 bits:b<1000
 few:e<=1000
 lo:∀c∈cs,c<2 ^ b
 hi:∀c∈ds,c<2 ^ b
 near:∀(i:Nat) c d,cs[i]?=some c->ds[i]?=some d->c-d<=e/\d-c<=e
def Nr.symm(h:Nr b e cs ds):Nr b e ds cs:=⟨h.len.symm,by rw[<- h.len];exact h.five,h.bits,h.few,h.hi,h.lo,λi c d h1 h2=>(h.near i d c h2 h1).symm⟩
def Nr.dp{b e:Nat}{cs ds:List Nat}(h:Nr b e cs ds):∀i,i<=cs.length->dp (cs.take i) (ds.take i)<=2 ^ (i*(b*e))
 |0,_=>by show 1<=_;exact Qy (by decide)
 |i+1,hi=>by
  have e1:cs[i]?=some cs[i]:=O1 hi;have l2:i<ds.length:=by rw[<- h.len];exact hi
  have e2:ds[i]?=some ds[i]:=O1 l2;rw[Ps,Ps,e1,e2];show Gn.dp (cs.take i++[cs[i]]) (ds.take i++[ds[i]])<=_;rw[mT (by rw[Px,Px,h.len]),Sx,QU];exact PX (h.dp i (by lia)) (L6 (h.lo _ (Qx hi)) (h.near i _ _ e1 e2).1)
abbrev Wb(ts:List Tn):Prop:=∀h,h<(aF ts).length->(Wt ts h).num.natAbs<=2 ^ 512/\(Wt ts h).den<=2 ^ 512
abbrev spGb(K:Fg):Sp:=λvs H Q _=>∃(v u1 u2:V) (f a:Addr) (ws:List Str) (ts:List Tn) (w:Nat) (xs:List V) (R cs ds:List Nat) (b e:Nat),vs=[v,.ref f,.ref a,u1,u2]/\Rz K H v (dV ws ts)/\jF w ts/\iw ts/\Wb ts/\H f=some (.lst xs)/\xs.length=(aF ts).length/\(∀i x,xs[i]?=some x->QV K H x (Wt ts i))/\H a=some (.lst ((ni R).map V.int))/\(∀k∈R,k<ts.length) /\
 Rz K H u1 (dI (ni cs))/\Rz K H u2 (dI (ni ds))/\Nr b e cs ds/\1024*R.length+5*(b*e)<=13000/\∀(p:Addr) (H':Hp),Same H H'->Rz K H' (.ref p) (dQ (gn (sW (am ts) (Wt ts)) R cs ds))->Q (.ref p) H'
nonrec abbrev Jz(K:Fg):TS:=(aq (av (ar cV (aa 6) (aC Gn.iS [] E0 (ae (aa 8) (ae (ar hX (aa 8) (aa 9)) aj)))) (al 6))
 (av (ar cV (aa 7) (aC Gn.iS [] E0 (ae (aa 9) (ae (ar hX (aa 9) (aa 8)) aj)))) (al 7)))
nonrec abbrev Jy(K:Fg):TS:=(aq (av (ar (aD K) (aa 5) (tC (.int 1))) (al 7))
 (aq (a5 (pA K .T .T (ae (aa 3) (ae (aa 4) aj))) (cg K 2 (aT (al 8) (aT (al 9) ci)))
 (Jz K))
 (aI (aC (Gn.lN K) [] E0 (ae (aa 6) (ae (aa 7) aj))))))
abbrev t_gb(K:Fg):TS:=(aq (av (aC (Gn.xK K) [] E0 (ae (aC (Pw.BZ K) [] E0 (ae (aa 1) (ae (aC (Gn.Gr K) [] E0 (ae (aa 0) (ae (aa 2) (ae (b_ (cH K) (ae (aa 1) aj)) aj)))) aj))) aj)) (al 5))
 (aq (av (ar (aD K) (aa 5) (tC (.int 0))) (al 6))
 (Jy K)))
def Na{K:Fg}:ρ 10 (spGb K) (t_gb K):=by
 fail "R";obtain⟨v,u1,u2,f,a,ws,ts,w,xs,R,cs,ds,b,e,rfl,rv,o,af,wb,hf,lf,qf,ha,hR,r1,r2,nr,bd,k⟩:=h;obtain⟨a1,rfl,h1⟩:=bN r1;obtain⟨a2,rfl,h2⟩:=bN r2;rw[L2.aP hN];walk_at "t";have t8:=o.co.le;have h8:=o.h8;have bk:∀e∈am ts,Rch (am ts) e.2 e.1:=λe he=>by obtain⟨j,hj⟩:=P_ he;exact af j e.1 e.2 hj
 have le:(am ts).length=ts.length:=by unfold am;rw[O0]
 have Wp:∀k,k<(aF ts).length->0<Wt ts k:=λk hk=>gL.mp (jC o.pa bk hk)
 have ok:∀k,k<(am ts).length->fro (am ts) k<(aF ts).length/\tow (am ts) k<(aF ts).length:=λk hk=>bO ts _ (rZ hk)
 have hR':∀k∈R,k<(am ts).length:=λk hk=>by have:=hR k hk;lia
 obtain⟨_,nb⟩:=yX ok Wp hR';unfold t_gb;cbv;refine cR (SqL.of hf) ?_;rw[lf];cbv;refine⟨v,a,ws,ts,R,rfl,rv,by lia,by lia,ha,hR,λq H1 S1 nq hq=>?_⟩;have ol:(ku (am ts) (aF ts).length R).length=(aF ts).length:=mD;cbv;refine⟨f,q,xs,_,Wt ts,rfl,S1 _ _ hf,hq,by lia,by lia,λi x hx=>⟨(qf i x hx).same S1,jC o.pa bk (by have:=(O3.mp hx).1;lia)⟩,λq2 H2 A2=>?_⟩;obtain⟨zs,hz,rz⟩:=A2.at_;rw[ol] at rz;have on:∀c∈ku (am ts) (aF ts).length R,c.natAbs<=2 ^ 800:=λc hc=>Pj (by have:=E7 hc;lia:c.natAbs<=2 ^ 40) (Ph (by decide) (by decide))
 obtain⟨c1,c2,c3⟩:=JN o af ol on
 have ab:∀T:List Pr,EA (T.map (·.1))->(∀f,Pw.Add f->SF f T=SF f (gi (wW ts) (ku (am ts) (aF ts).length R)))->AA T<=2 ^ (1024*R.length)/\BB T<=2 ^ (1024*R.length):=λT ap sf=>by
  obtain⟨g1,g2⟩:=OF (c:=2 ^ 512) (Qy (by decide)) (W:=wW ts) (λu hu=>by
   unfold wW wl at hu
   obtain⟨i,hi,rfl⟩:=Pl.mp hu
   have li:=PJ.mp hi
   obtain⟨b1,b2⟩:=wb i li
   have wp:=jC o.pa bk li
   exact⟨⟨by show 0<(Wt ts i).num.natAbs;lia,b1⟩,P5 (Wt ts i).den_nz,b2⟩) ap sf
  have m:(2 ^ 512) ^ na (ku (am ts) (aF ts).length R)<=2 ^ (1024*R.length):=by
   rw[<- VU];exact Ph (by decide) (by lia)
  exact⟨Pj g1 m,Pj g2 m⟩
 have S2:=S1.trans A2.same;cbv;refine⟨q2,zs,_,rfl,hz,rz,c1,c2,c3,λT ap sf=>?_,λp H3 T S3 ap sf rp=>?_⟩
 .have:=ab T ap sf
  have p:=Qd (a:=2) (by decide) (by lia:1024*R.length<15000);exact⟨Pk this.1 p,Pk this.2 p⟩
 have S3':=S2.trans S3;obtain⟨aA,aB⟩:=ab T ap sf;have pl_:=OE ok Wp hR' ap sf;have tp:∀x∈T,0<x.1:=λx hx=>by have:=ap.1 _ (QK hx);lia
 obtain⟨A0,B0⟩:=jP tp;generalize AA T=A at aA rp pl_ A0;generalize BB T=B at aB rp pl_ B0;clear ab c1 c2 c3 on;obtain⟨pp,e0,hp⟩:=bN rp;cases e0;have hp:H3 p=some (.tup [.int (A:Int),.int (B:Int)]):=hp;cbv;refine aG (SqT.of hp) (v:=.int (A:Int)) rfl ?_;cbv;refine aG (SqT.of hp) (v:=.int (B:Int)) rfl ?_;cbv;have l1:((ni cs).map V.int).length=cs.length:=by unfold ni;rw[O0,O0]
 have l2:((ni ds).map V.int).length=cs.length:=by unfold ni;rw[O0,O0,nr.len]
 refine⟨a1,a2,_,_,rfl,SqT.of (S3' _ _ h1),SqT.of (S3' _ _ h2),?_⟩;have five:=nr.five
 have big:∀i,i<=cs.length->1024*R.length+i*(b*e)<=13000:=λi hi=>by
  have:=Qe (b*e) (by lia:i<=5)
  lia
 have tb:∀{x y:Nat} (i:Nat),i<=cs.length->x<=2 ^ (1024*R.length)->y<=2 ^ (i*(b*e))->x*y<2 ^ 13500:=λ{x y} i hi hx hy=>by
  refine Pk (PX hx hy) ?_;rw[<- QU];exact Qd (by decide) (by have:=big i hi;lia)
 have p135:(2:Nat) ^ 13500<2 ^ 20000:=Qd (by decide) (by decide);refine rX (n:=cs.length) l1 l2 (λi σ H4=>∃u8 u9:Option V,σ=[some v,⇑f,⇑a,⇑a1,⇑a2,⇑p,some (.int ((A*Gn.dp (cs.take i) (ds.take i):Nat):Int)),some (.int ((B*Gn.dp (ds.take i) (cs.take i):Nat):Int)),u8,u9]/\Same H H4) ⟨none,none,by show _=[_,_,_,_,_,_,some (V.int ((A*1:Nat):Int)),some (V.int ((B*1:Nat):Int)),_,_];rw[TC,TC];rfl,S3'⟩ (by rintro i σ H4 _ ⟨_,_,_,S4⟩;exact ⟨SqT.of (S4 _ _ h1),SqT.of (S4 _ _ h2)⟩) ?_ ?_
 .rintro i x y σ H4 T hx hy ⟨u8,u9,rfl,S4⟩ nT;unfold ni at hx hy;rw[O4,O4] at hx hy;obtain⟨_,f0,rfl⟩:=Pb.mp hx;obtain⟨c,f1,rfl⟩:=Pb.mp f0;obtain⟨_,f2,rfl⟩:=Pb.mp hy;obtain⟨d,f3,rfl⟩:=Pb.mp f2;obtain⟨n1,n2⟩:=nr.near i c d f1 f3;have li:i<cs.length:=(O3.mp f1).1;have c1:=nr.lo c (O7 f1);have d1:=nr.hi d (O7 f3);have bits:=nr.bits;have m1:=PU b n1;have m2:=PU b n2;have g:=big 1 (by lia);have et:cs.take (i+1)=cs.take i++[c]:=by rw[Ps,f1];rfl
  have ed:ds.take (i+1)=ds.take i++[d]:=by rw[Ps,f3];rfl
  have ll:(cs.take i).length=(ds.take i).length:=by rw[Px,Px,nr.len]
  have b1:=tb i (by lia) aA (nr.dp i (by lia));have b2:=tb i (by lia) aB (nr.symm.dp i (by rw[<- nr.len];lia));have sm:∀{x y:Nat},x<2 ^ b->x-y<=e->(Gn.dn x y)<2 ^ 20000:=λ{x y} hx hy=>Pk (L6 hx hy) (Qd (by decide) (by lia))
  have s1:=sm c1 n1;have s2:=sm d1 n2;have few:=nr.few;have S5:=S4.trans (ak nT (.tup [.int (c:Int),.int (d:Int)]));refine bI (SqT.of ag) rfl ?_;generalize upd H4 T (.tup [.int (c:Int),.int (d:Int)])=H5 at S5 ⊢;cbv;refine⟨c,b,(c:Int)-d,rfl,by clear b1 b2 s1 s2;lia,by clear b1 b2 s1 s2;lia,c1,bits,?_,?_⟩
  .rw[show((c:Int)-d).toNat=c-d by lia];lia
  rw[show((c:Int)-d).toNat=c-d by lia];refine cP ⟨by rw[Pu];exact Qo b1 p135,by rw[Pu];exact s1⟩ ?_;cbv;refine⟨d,b,(d:Int)-c,rfl,by clear b1 b2 s1 s2;lia,by clear b1 b2 s1 s2;lia,d1,bits,?_,?_⟩
  .rw[show((d:Int)-c).toNat=d-c by lia];lia
  rw[show((d:Int)-c).toNat=d-c by lia];refine cP ⟨by rw[Pu];exact Qo b2 p135,by rw[Pu];exact s2⟩ ?_;cbv;rw[et,ed,mT ll,mT ll.symm,<- Qj,<- Qj,P9,P9];exact⟨_,_,rfl,S5⟩
 .rintro σ H4 ⟨u8,u9,rfl,S4⟩;rw[Pc (Pa _),Pc (by rw[nr.len];exact Pa _)];have d1:=nr.dp cs.length (Pa _);have d2:=nr.symm.dp cs.length (by rw[<- nr.len];exact Pa _);rw[Pc (Pa _),Pc (by rw[nr.len];exact Pa _)] at d1;rw[Pc (by rw[nr.len];exact Pa _),Pc (Pa _)] at d2;cbv;refine⟨_,_,rfl,by have:=Qa B0 (pF ds cs);lia,by rw[Pu];exact tb _ (Pa _) aA d1,by rw[Pu];exact tb _ (Pa _) aB d2,λp H5 S5 r=>?_⟩;rw[Qj,Qj,Og pl_ nr.len B0] at r;exact k p H5 (S4.trans S5) r
abbrev xL(K:Fg):Sp:=λvs H Q _=>∃(v u:V) (a:Addr) (ws:List Str) (ts:List Tn) (w:Nat) (R cs ds:List Nat) (b e:Nat),vs=[v,.ref a,u]/\Rz K H v (dV ws ts)/\jF w ts/\iw ts/\(∀m∈mks ts,One (wW ts) m)/\Wb ts/\H a=some (.lst ((ni R).map V.int))/\Rz K H u (dI (ni cs)) /\
 Nn cs.length ts/\Bf (ts.map Dn.pr) R (ni cs)/\vJ (ts.map Dn.pr) R (ni cs)=ni ds/\Nr b e cs ds/\1024*R.length+5*(b*e)<=13000/\∀(p:Addr) (H':Hp),Same H H'->Rz K H' (.ref p) (dQ (gn (sW (am ts) (Wt ts)) R cs ds))->Q (.ref p) H'
abbrev wM(K:Fg):TS:=(aq (av (aC (Gn.Gs K) [] E0 (ae (aa 0) aj)) (al 3))
 (aI (aC (Gn.spGb K) [] E0 (ae (aa 0) (ae (aa 3) (ae (aa 1) (ae (aa 2) (ae (aC (Gn.xD K) [] E0 (ae (aa 0) (ae (aa 1) (ae (aa 2) aj)))) aj))))))))
def G6{K:Fg}:ρ 4 (xL K) (wM K):=by
 fail "R";obtain⟨v,u,a,ws,ts,w,R,cs,ds,b,e,rfl,rv,o,af,on,wb,ha,ru,nn,wk,ee,nr,bd,k⟩:=h;rw[L2.aP hN];walk_at "t";have lc:(ni cs).length=cs.length:=by unfold ni;rw[O0]
 have five:=nr.five;unfold wM;cbv;refine⟨v,ws,ts,w,rfl,rv,o,af,on,λf xs H1 S1 nf hf lf qf=>?_⟩;cbv;refine⟨v,u,a,ws,ts,R,ni cs,rfl,rv.same S1,S1 _ _ ha,ru.same S1,by rw[lc];exact nn,by lia,wk,λy H2 S2 ry=>?_⟩;rw[ee] at ry;cbv;have S12:=S1.trans S2;refine⟨v,u,y,f,a,ws,ts,w,xs,R,cs,ds,b,e,rfl,rv.same S12,o,af,wb,S2 _ _ hf,lf,λi x hx=>(qf i x hx).same S2,S12 _ _ ha,λk hk=>by have:=FF wk k hk;rwa [O0] at this,ru.same S12,ry,nr,bd,λp H3 S3 r=>?_⟩;exact k p H3 (S12.trans S3) r
open PySem L2 Fr G1 Sm Vs G2 Rk Sz Sf Rw Ti Lo Lc Tr
abbrev gp(g:Nat->Nat):List Nat->Nat
 |[]=>1
 |k :: r=>g k*gp g r
abbrev gr(g:Nat->Nat):Nat->Nat
 |0=>1
 |n+1=>gr g n*g n
def t_{g:Nat->Nat}{n:Nat}:∀{ks:List Nat},n∈ks->gp g ks=g n*gp g (ks.erase n)
 |k :: r,h=>by
  by_cases c:k=n
  .subst c;rw[List.erase_cons_head];rfl
  .rw[List.erase_cons_tail (by simpa using c)]
   have:n∈r:=by rcases Py.mp h with e|e;exact absurd e.symm c;exact e
   show g k*gp g r=g n*(g k*_);rw[t_ this,Q8]
def zM{g:Nat->Nat}:∀{n:Nat} {ks:List Nat},ks.Nodup->(∀k∈ks,k<n)->gp g ks∣gr g n
 |0,[],_,_=>X3 _
 |0,k :: _,_,h=>absurd (h k O8) (Rq _)
 |n+1,ks,nd,h=>by
  show _∣gr g n*g n;by_cases c:n∈ks
  .rw[t_ c,Qv];refine Nat.mul_dvd_mul (zM (nd.erase n) λk hk=>?_) (X3 _);have h1:=h k (List.mem_of_mem_erase hk);have h2:k≠n:=(nd.mem_erase_iff.mp hk).1;lia
  .exact Xn (zM nd λk hk=>by have h1:=h k hk;have:k≠n:=λz=>c (z ▸ hk);lia) (VT _ _)
abbrev dk(ts:List Tn)(k:Nat):Nat:=match ts[k]? with
 |some t=>t.d.natAbs
 |none=>1
def t9{g:Nat->Nat}:∀{n:Nat},gr g (n+1)=g 0*gr (λk=>g (k+1)) n
 |0=>by show 1*g 0=g 0*1;lia
 |n+1=>by show gr g (n+1)*g (n+1)=g 0*(_*g (n+1));rw[t9,P9]
def L0:∀ts:List Tn,gr (dk ts) ts.length=Pd ts
 |[]=>rfl
 |t :: ts=>by
  show gr (dk (t :: ts)) (ts.length+1)=t.d.natAbs*Pd ts;rw[t9,<- L0 ts];rfl
def KH(pa:cr ts){k:Nat}(hk:k<ts.length):Tr.Sml (dk ts k) (10 ^ 10) (bW ts k)/\0<dk ts k:=by
 obtain⟨t,ht⟩:∃t,ts[k]?=some t:=⟨_,O1 hk⟩
 obtain⟨q0,d0,_,ql,_⟩:=pa t (O7 ht);have e:bW ts k=PH t.q t.d:=by unfold bW;rw[ht]
 have e':dk ts k=t.d.natAbs:=by unfold dk;rw[ht]
 have dn:((t.d:Int):Rat)≠0:=by
  intro z
  have:=WF.mp (show((t.d:Int):Rat)=((0:Int):Rat) from z)
  lia
 rw[e,e'];refine⟨⟨t.q,?_,by lia⟩,by lia⟩;rw[show((t.d.natAbs:Nat):Int)=t.d by lia,RE,VG dn]
def Kk{pc:Nat->Rat}:∀{ks:List Nat} {x:Rat},ks.foldl (λx k=>x*pc k) x=x*pq pc ks:=by
 intro ks;unfold pq
 induction ks with
 |nil=>intro x;show x=x*1;rw[Q4]
 |cons k r ih =>
  intro x;show r.foldl _ (x*pc k)=x*r.foldl _ (1*pc k);rw[ih (x:=x*pc k),ih (x:=1*pc k),RH,Qg]
def EQ{ts:List Tn}(pa:cr ts):∀{ks:List Nat},(∀k∈ks,k<ts.length)->Tr.Sml (gp (dk ts) ks) ((10 ^ 10) ^ ks.length) (pq (bW ts) ks)
 |[],_=>Tr.Sml.one (Pa _)
 |k :: r,h=>by
  have i:=EQ pa (ks:=r) λj hj=>h j (O9 _ hj)
  have e:pq (bW ts) (k :: r)=bW ts k*pq (bW ts) r:=by
   show r.foldl _ (1*bW ts k)=_;rw[Kk,RH]
  rw[e,P7,QW,Qv ((10 ^ 10) ^ r.length)];exact(KH pa (h k O8)).1.mul i
abbrev ME(ts:List Tn):Nat:=(10 ^ 10) ^ 7*Pd ts
def C4(pa:cr ts){ks:List Nat}(hk:∀k∈ks,k<ts.length)(nd:ks.Nodup)(l7:ks.length<=7):Tr.Sml (Pd ts) (ME ts) (pq (bW ts) ks):=by
 obtain⟨c,hc⟩:=zM (g:=dk ts) nd hk;rw[L0] at hc;have p:=jE pa;rw[hc] at p;have c0:0<gp (dk ts) ks:=P5 λz=>by rw[z,TK] at p;lia
 have:=(EQ pa hk).up (E:=c) (N:=ME ts) (by
  unfold ME
  rw[hc]
  exact PX (Ph (by decide) l7) (QN _ c0))
 rw[hc];exact this
def sL{es:List (Nat×Nat)}{ts:List Tn}{r:Nat}(pa:cr ts):∀{l:List (List Nat)},(∀q∈l,(∀k∈q,k<ts.length)/\q.Nodup/\q.length<=7)->Tr.Sml (Pd ts) (l.length*ME ts) (ls l (wq es ts r))
 |[],_=>Tr.Sml.zero _ _
 |q :: l,h=>by
  obtain⟨a,b,c⟩:=h q O8
  have h1:Tr.Sml (Pd ts) (ME ts) (wq es ts r q):=by
   unfold wq;split
   .exact C4 pa a b c
   .exact Tr.Sml.zero _ _
  rw[aV,P7,Sx,Vg];exact h1.add (sL pa λx hx=>h x (O9 _ hx))
def E6{f:Nat->Nat}:∀{l:List Nat},(l.map f).Nodup->l.Nodup
 |[],_=>RB
 |a :: l,h=>by
  obtain⟨h1,h2⟩:=Qf.mp h;exact Qf.mpr ⟨λz=>h1 (QK z),E6 h2⟩
def Es(pa:cr ts)(t8:ts.length<=8)(h8:(aF ts).length<=8){h:Nat}(hh:h<(aF ts).length):(Wt ts h).num.natAbs<=2 ^ 512/\(Wt ts h).den<=2 ^ 512:=by
 have ok:=bO ts;have F:=bR ok;have le:(am ts).length=ts.length:=by unfold am;rw[O0]
 have s:Tr.Sml (Pd ts) (900*ME ts) (Wt ts h):=by
  unfold Wt;generalize aY (aF ts).length (am ts)=f at F;have nd:=cm f (Lo.at_ f h);have hr:h∈aJ f (Lo.at_ f h):=a_.mpr ⟨by rw[F.len];exact hh,rfl⟩;have ndo:(bX (aJ f (Lo.at_ f h)) h).Nodup:=nd.filter _;have few:=tJ (es:=am ts) (by lia) ndo (bX (aJ f (Lo.at_ f h)) h).length;rw[QC] at few;have lo:=mf nd hr;have l8:(aJ f (Lo.at_ f h)).length<=8:=Pj fK (by rw[F.len];exact h8);rw[<- I0 nd hr (d7 F ok _)]
  have s:=sL (es:=am ts) (r:=h) pa (l:=pk (am ts) (bX (aJ f (Lo.at_ f h)) h)) λq hq=>by
   obtain⟨a,ha,ks,e1,e2,e3⟩:=tI hq;rw[Po.mp ha,So] at e1
   have:=congrArg Rg e2
   rw[O0] at this;rw[e1];exact⟨λk hk=>by have:=e3 k hk;lia,E6 (f:=fro (am ts)) (by rw[e2];exact ndo),by lia⟩
  obtain⟨m,e,l⟩:=s;exact⟨m,e,Pj l (Qe _ few)⟩
 have p1:=jE pa;have pl:=Pj (Jb pa) (Ph (by decide) t8);obtain⟨b1,b2⟩:=s.bits p1;have z1:(10 ^ 10) ^ 8<=2 ^ 512:=by decide
 have z2:900*((10 ^ 10) ^ 7*(10 ^ 10) ^ 8)<=2 ^ 512:=by decide
 exact⟨Pj b1 (Pj (PU _ (PU _ pl)) z2),Pj b2 (Pj pl z1)⟩
open Bo (sm bS fF tu)
abbrev cW(w:Nat)(c:Int)(k:Nat):List Int:=(Pi w).map λj=>if j+1=k then c else 0
abbrev hls(w:Nat)(c:Int)(n:Nat):List (List Int):=(Pi n).map (cW w c)
abbrev rng(n:Nat)(x:Bool):List (Nat×Nat):=(Pi n).map (λk=>(k,(k+1) % n))++if x then [(1,0)] else []
structure ZL (w:Nat) (c:Int) (n:Nat) (x:Bool) (ts:List Tn):Prop where
 c1:1<=c
 c3:c<=3
 n2:2<=n
 nw:n<=w+1
 w5:w<=5
 xn:x=true->2<n
 eq:ts.map bZ=(rng n x).map (kh (hls w c n))
 pc:∀t∈ts,ga t.q t.d
def tL{w:Nat}{s:Nat}(hs:s<w):pt (cW w c k) s=if s+1=k then c else 0:=by
 unfold pt cW;rw[O2,O4,Qs hs];rfl
def gX{n k:Nat}(h:k<n):(hls w c n).getD k []=cW w c k:=by
 unfold hls;rw[O2,O4,Qs h];rfl
def rT:(hls w c n).length=n:=by unfold hls;rw[O0,PN]
def HE{w:Nat}{c:Int}(c1:1<=c){j k:Nat}(hj:j<=w)(hk:k<=w)(e:cW w c j=cW w c k):j=k:=by
 rcases X0 j k with l|l|l
 .have:=congrArg (λr=>pt r (k-1)) e
  simp only[tL (show k-1<w by lia)] at this;rw[if_neg (by lia),if_pos (by lia)] at this;lia
 .exact l
 .have:=congrArg (λr=>pt r (j-1)) e
  simp only[tL (show j-1<w by lia)] at this;rw[if_pos (by lia),if_neg (by lia)] at this;lia
def LW{w:Nat}{c:Int}(c1:1<=c){n:Nat}(nw:n<=w+1):(hls w c n).Nodup :=
 nodup_map_on TM λa ha b hb e=>HE c1 (by have:=PJ.mp ha;lia) (by have:=PJ.mp hb;lia) e
def x9{n:Nat}{x:Bool}(n2:2<=n)(n6:n<=6)(xn:x=true->2<n):(rng n x).Nodup/\(rng n x).length<=8/\rng n x≠[]/\∀p∈rng n x,kK n p:=by
 have h:n=2\/n=3\/n=4\/n=5\/n=6:=by lia
 unfold kK;cases x with
 |false=>rcases h with rfl|rfl|rfl|rfl|rfl <;> decide
 |true =>
  have:=xn rfl
  rcases h with rfl|rfl|rfl|rfl|rfl
  .lia
  all_goals decide
def ZL.turns(h:ZL w c n x ts):uy w (hls w c n)/\(hls w c n).length<=8/\sC (hls w c n) ts:=by
 have nw:=h.nw;have w5:=h.w5;obtain⟨a,b,d,e⟩:=x9 h.n2 (by lia) h.xn;have nd:=LW h.c1 nw;refine⟨⟨nd,λr hr=>?_⟩,by rw[rT];lia,Good.turns ⟨a,b,h.eq,by rw[rT];exact e,h.pc⟩ nd d⟩;unfold hls at hr;obtain⟨k,_,rfl⟩:=Pl.mp hr;refine⟨by unfold cW;rw[O0,PN],λy hy=>?_⟩;unfold cW at hy;obtain⟨j,_,rfl⟩:=Pl.mp hy
 have:=h.c1
 have:=h.c3
 split <;> lia
def ZL.at_(h:ZL w c n x ts){i j:Nat}(e:(i,j)∈rng n x):∃t∈ts,t.fr=cW w c i/\t.to=cW w c j:=by
 have o:=(x9 h.n2 (by have:=h.nw;have:=h.w5;lia) h.xn).2.2.2 _ e;have m:kh (hls w c n) (i,j)∈ts.map bZ:=by rw[h.eq];exact QK e
 obtain⟨t,ht,q⟩:=Pl.mp m;unfold kh bZ at q;rw[gX o.1,gX o.2.1] at q;exact⟨t,ht,congrArg UY q,congrArg Uu q⟩
def ZL.E4(h:ZL w c n x ts){t:Tn}(ht:t∈ts):∃i j,i<n/\j<n/\t.fr=cW w c i/\t.to=cW w c j:=by
 have m:bZ t∈(rng n x).map (kh (hls w c n)):=by rw[<- h.eq];exact QK ht
 obtain⟨⟨i,j⟩,hp,q⟩:=Pl.mp m;have o:=(x9 h.n2 (by have:=h.nw;have:=h.w5;lia) h.xn).2.2.2 _ hp;unfold kh bZ at q;rw[gX o.1,gX o.2.1] at q;exact⟨i,j,o.1,o.2.1,(congrArg UY q).symm,(congrArg Uu q).symm⟩
def i7(h:Rch es a b)(k:Rch es b d):Rch es a d:=by
 induction k with
 |refl=>exact h
 |step _ e ih=>exact .step ih e
def ZL.all(h:ZL w c n x ts):iw ts:=by
 have edge:∀{i j:Nat},(i,j)∈rng n x->Rch (am ts) (ix (aF ts) (cW w c i)) (ix (aF ts) (cW w c j)):=λ{i j} e=>by
  obtain⟨t,ht,e1,e2⟩:=h.at_ e;refine .step .refl ?_;unfold am;exact Pl.mpr ⟨t,ht,by rw[e1,e2]⟩
 have up:∀d i,i+d<n->Rch (am ts) (ix (aF ts) (cW w c i)) (ix (aF ts) (cW w c (i+d))):=by
  intro d
  induction d with
  |zero=>intro i _;exact .refl
  |succ d ih =>
   intro i hi;refine i7 (ih i (by lia)) (edge ?_);unfold rng;refine PK _ (Pl.mpr ⟨i+d,PJ.mpr (by lia),?_⟩);rw[Nat.mod_eq_of_lt (by lia)];rfl
 have wrap:Rch (am ts) (ix (aF ts) (cW w c (n-1))) (ix (aF ts) (cW w c 0)):=edge (by
  unfold rng
  have:=h.n2
  refine PK _ (Pl.mpr ⟨n-1,PJ.mpr (by lia),?_⟩)
  rw[show n-1+1=n by lia,Nat.mod_self])
 intro j a b e;unfold am at e;rw[O4] at e;obtain⟨t,ht,e⟩:=Pb.mp e;cases e;obtain⟨i,k,hi,hk,e1,e2⟩:=h.E4 (O7 ht);rw[e1,e2];have a1:=up (n-1-k) k (by lia);rw[show k+(n-1-k)=n-1 by lia] at a1;have a2:=up i 0 (by lia);rw[SX] at a2;exact i7 a1 (i7 wrap a2)
def ZL.one(h:ZL w c n x ts)(o:jF w ts):∀m∈mks ts,One (wW ts) m:=by
 intro m hm p hp;obtain⟨cs,cl⟩:=y_ o hm;obtain⟨lm,_,_⟩:=fX o hm;have c1:=h.c1;have nw:=h.nw
 have cls:∀i,i<(aF ts).length->∃k,k<n/\(aF ts).getD i []=cW w c k:=λi hi=>by
  have sub:∀y∈aF ts,y∈hls w c n:=t6 ts [] (λt ht=>by
   obtain⟨a,b,ha,hb,e1,e2⟩:=h.E4 ht
   unfold hls
   exact⟨Pl.mpr ⟨a,PJ.mpr ha,e1.symm⟩,Pl.mpr ⟨b,PJ.mpr hb,e2.symm⟩⟩) λx h=>by cases h
  have:=sub _ (Qx hi)
  unfold hls at this;obtain⟨k,hk,e⟩:=Pl.mp this;exact⟨k,PJ.mp hk,by rw[O2,O1 hi];exact e.symm⟩
 have inj:∀i j,i<(aF ts).length->j<(aF ts).length->(aF ts).getD i []=(aF ts).getD j []->i=j:=λi j hi hj e=>by
  rw[O2,O1 hi,O2,O1 hj] at e;exact(SO (pB ts)).mp e
 have big:∀i,i<(aF ts).length->∀k,0<k->k<n->(aF ts).getD i []=cW w c k->pt m i=0:=λi hi k k0 hk e=>by
  have s:=cs (k-1) (by lia);rw[tu hi λj hj ne=>?_,e,tL (by lia),if_pos (by lia)] at s
  .rcases QL.mp s with z|z
   .lia
   .exact z
  .obtain⟨k',ZQ,e'⟩:=cls j hj;rw[e',tL (by lia),if_neg λz=>ne (inj j i hj hi (by rw[e,e'];congr 1;lia)),RL]
 have all:∀i,i<(aF ts).length->pt m i=0:=λi hi=>by
  obtain⟨k,hk,e⟩:=cls i hi;by_cases z:k=0
  .have s:=cl i hi;rw[tu hi λj hj ne=>?_,if_pos rfl] at s
   .exact s
   .obtain⟨k',ZQ,e'⟩:=cls j hj
    have:k'≠0:=λy=>ne (inj j i hj hi (by rw[e,e',z,y]))
    rw[big j hj k' (by lia) ZQ e'];split <;> rfl
  .exact big i hi k (by lia) hk e
 have:=FV (f:=λn=>(bB p n:Int)) (w:=Wt ts) (m:=m) (aF ts).length (by lia)
 rw[Pc (by lia)] at this;show vs _ (wl (Wt ts) (aF ts).length) m=0;rw[this];exact fF λk hk=>by rw[all k hk,RL]
end Gn
namespace Gn
open PySem L2 Fr G1 Sm Vs G2 Rk Sz Sf Rw Ti Lo Lc Tr Pw
open PySem.W (Dat kqdOk)
structure OO (ws:List Str) (ts:List Tn):Prop where
 vo:nh ws ts
 af:iw ts
 on:∀m∈mks ts,One (wW ts) m
abbrev M8(K:Fg):Sp:=λvs H Q _=>∃(a:Addr) (ns:List Int) (t:Int),vs=[.ref a,.int t]/\SqL K H a (ns.map V.int)/\0<=t/\∀(p:Addr) (H':Hp) (ws:List Str) (ts:List Tn),Same H H'->OO ws ts->Rz K H' (.ref p) (dV ws ts)->Q (.ref p) H'
abbrev xC(K:Fg):Sp:=λvs H Q _=>∃(a:Addr) (ns:List Int) (t:Int),vs=[.ref a,.int t]/\SqL K H a (ns.map V.int)/\0<=t/\∀(p:Addr) (H':Hp) (ws:List Str) (ts:List Tn) (c:Int) (n:Nat) (x:Bool),Same H H'->nh ws ts->ZL ws.length c n x ts->Rz K H' (.ref p) (dV ws ts)->Q (.ref p) H'
abbrev Gy(K:Fg):Sp:=M8 K
def Ed(vo:nh ws ts):jF ws.length ts/\0<(aF ts).length:=by
 have ho:=Oe vo;obtain⟨hs,po,h8,tk⟩:=vo.turns;have sub:∀x∈aF ts,x∈hs:=t6 ts [] (λt ht=>⟨(tk.ok t ht).1,(tk.ok t ht).2.1⟩) λx h=>by cases h
 refine⟨⟨Os vo,ho.h8,ho.l8,ho.wide,ho.bnd,λr hr c hc=>((po.2 r (sub r hr)).2 c hc).1,λt ht=>(tk.ok t ht).2.2.2⟩,?_⟩;cases ts with
 |nil=>exact absurd rfl tk.ne
 |cons t ts=>exact Wx (du (hs:=[]) (O8 (a:=t) (l:=ts))).1
def C1(h:Bh w u ts):∀t∈ts,∃s∈ts,s.fr=t.to/\s.to=t.fr:=by
 induction h with
 |nil=>intro t h;cases h
 |cons x y R e1 e2 _ _ ih =>
  intro t ht;rcases Pz.mp ht with z|z
  .obtain⟨s,hs,q⟩:=ih t z;exact⟨s,PK _ hs,q⟩
  .rcases Py.mp z with z|z
   .rw[z];exact⟨y,by simp,e1,e2⟩
   .rw[Po.mp z];exact⟨x,by simp,e2.symm,e1.symm⟩
def Hy(h:Bh w u ts):iw ts:=by
 intro j x y e;unfold am at e;rw[O4] at e;obtain⟨t,ht,e⟩:=Pb.mp e;cases e;obtain⟨s,hs,e1,e2⟩:=C1 h t (O7 ht);refine .step .refl ?_;unfold am;refine Pl.mpr ⟨s,hs,?_⟩;rw[e1,e2]
nonrec abbrev Bv(K:Fg):TS:=(aq (av (b_ (cz K) (ae (fE (cw (ae (aa 3) aj)) (ar (rI CMul λi j=>.int (i*j)) (b_ Hm (ae (ar hJ (aa 0) (ar hX (aa 7) (tC (.int 1)))) aj)) (ar aX (tC (.int 1)) (ar aS (ar b9 (aa 3) (tC (.int 25))) (tC (.int 3)))))) aj)) (al 7))
 (bM (dU K "list" aN (aa 5) (ae (aa 7) aj))))
nonrec abbrev Bu (K:Fg):TS:=(bM (dU K "list" aN (aa 8) (ae (be (ae (ar (bY K) (aa 5) (aa 6)) (ae (ar (bY K) (aa 5) (ar aS (ar aX (aa 6) (tC (.int 1))) (aa 4))) (ae (aC (iP K) [] E0 (ae (ar b9 (aa 9) (tC (.int 7))) (ae (ar aX (tC (.int 1)) (ar aS (aa 9) (tC (.int 2)))) aj))) aj)))) aj)))
nonrec abbrev Bt (K:Fg):TS:=(bM (dU K "list" aN (aa 8) (ae (be (ae (ar (bY K) (aa 5) (tC (.int 1))) (ae (ar (bY K) (aa 5) (tC (.int 0))) (ae (aC (iP K) [] E0 (ae (aC (c7 K) [] E0 (ae (aa 0) (ae (ar aX (aa 1) (tC (.int 7))) aj))) (ae (tC (.int 1)) aj))) aj)))) aj)))
nonrec abbrev Bs(K:Fg):TS:=(aq (a8 (jR (aR (ar CV (aa 4) (tC (.int 2)))) (aR (ar hJ (ar aS (ar b9 (aa 2) (tC (.int 75))) (tC (.int 2))) (tC (.int 1)))))
 (Bt K)
 bw)
 (aI (be (ae (aC (fT K) [] E0 (ae (ar b9 (aa 2) (tC (.int 150))) (ae (aa 3) aj))) (ae (b_ (cz K) (ae (aa 8) aj)) aj)))))
nonrec abbrev Bp(K:Fg):TS:=(aq (av (bU aj) (al 8))
 (aq (a5 (cw (ae (aa 4) aj)) (al 6)
 (aq (av (aC (c7 K) [] E0 (ae (aa 0) (ae (ar aX (ar aX (aa 1) (tC (.int 1))) (aa 6)) aj))) (al 9))
 (Bu K)))
 (Bs K)))
nonrec abbrev Bn(K:Fg):TS:=(aq (av (ar aX (tC (.int 1)) (ar aS (aa 2) (tC (.int 5)))) (al 3))
 (aq (av (ar aX (tC (.int 2)) (ar aS (ar b9 (aa 2) (tC (.int 5))) (aa 3))) (al 4))
 (aq (av (bU aj) (al 5))
 (aq (a5 (cw (ae (aa 4) aj)) (al 6)
 (Bv K))
 (Bp K)))))
abbrev v_(K:Fg):TS:=(aq (av (aC dC [] E0 (ae (aC (c7 K) [] E0 (ae (aa 0) (ae (aa 1) aj))) (ae (tC (.int 3)) aj))) (al 2))
 (Bn K))
def HD:(cW w c k).length=w:=by unfold cW;rw[O0,PN]
def GO{K:Fg}:ρ 10 (xC K) (v_ K):=by
 fail "R";obtain⟨a,ns,t,rfl,hS,t0,k⟩:=h;rw[L2.aP hN];walk_at "t";unfold v_;cbv;refine⟨a,ns,t,rfl,hS,t0,?_⟩;cbv;refine⟨_,_,rfl,by decide,by decide,λm mx=>?_⟩;have m0:0<=m:=mx.1;cbv;refine⟨by decide,λD nD=>?_⟩;have A1:AccZ K H D (upd H D (.lst [])) []:=AccZ.start (Same.refl _) nD;generalize upd H D (.lst [])=H1 at A1 ⊢;obtain⟨w,hw⟩:∃w:Nat,1+m % 5=(w:Int):=⟨(1+m % 5).toNat,by lia⟩
 obtain⟨n,hn⟩:∃n:Nat,2+m / 5 % (1+m % 5)=(n:Int):=⟨(2+m / 5 % (1+m % 5)).toNat,by have:=Q0 (m / 5) (by lia:1+m % 5≠0);lia⟩
 have w1:1<=w:=by lia
 have w5:w<=5:=by lia
 have n2:2<=n:=by have:=Q0 (m / 5) (by lia:1+m % 5≠0);lia
 have nw:n<=w+1:=by have:=QR (m / 5) (by lia:0<1+m % 5);lia
 obtain⟨c,hc⟩:∃c:Int,1+m / 25 % 3=c:=⟨_,rfl⟩
 have c1:1<=c:=by lia
 have c3:c<=3:=by lia
 rw[hn,hw];cbv;rw[Qc];refine aW (λi σ H2=>∃u6 u7:Option V,σ=[⇑a,↥t,↥m,↥(w:Int),↥(n:Int),⇑D,u6,u7,none,none]/\AccZ K H D H2 ((hls w c i).map dI)) ⟨none,none,rfl,A1⟩ ?_ ?_
 .rintro i σ H2 hi ⟨u6,u7,rfl,A2⟩;cbv;rw[Qc];refine c_ λDl nD=>⟨λj H4=>AccZ K H2 Dl H4 ((cW j c i).map Qm),AccZ.start (Same.refl _) nD,?_,?_⟩
  .intro j H4 hj B
   have put:∀x:Int,x=(if j+1=i then c else 0)->nB Dl w j (λj H4=>AccZ K H2 Dl H4 ((cW j c i).map Qm)) (.int x) H4:=by
    intro x ex;refine a6 hj (B.cI (.int x) (au ?_) λH5 B5=>?_)
    .rw[O0,HD];lia
    .show AccZ K H2 Dl H5 ((cW (j+1) c i).map Qm);unfold cW;rw[Rr,O_,O_,Ue,Ue,<- ex];exact B5
   cbv;refine put _ ?_;by_cases z:j+1=i
   .rw[if_pos (by rw[decide_eq_true (by lia)]),if_pos z,TB,hc]
   .rw[if_neg (by rw[decide_eq_false (by lia)];decide),if_neg z,RL]
  .intro H4 B;have eB:=AccZ.ints B;have hl:(hls w c (i+1)).map dI=(hls w c i).map dI++[dI (cW w c i)]:=by unfold hls;rw[Rr,O_,O_];rfl
   cbv;refine eG (SqL.of eB) λq nq=>?_
   have S5:=B.same.trans (ak nq (.tup ((cW w c i).map V.int)));have r5:Rz K (upd H4 q (.tup ((cW w c i).map V.int))) (.ref q) (dI (cW w c i)):=.tup ag (RpL.ints _);generalize upd H4 q (.tup ((cW w c i).map V.int))=H5 at S5 r5 ⊢;have A5:=A2.on S5;cbv;refine⟨A5.ty,?_⟩;cbv;refine b6 A5 r5 (au (by rw[O0,rT];lia)) λH6 A6 _ _ _=>?_
   cbv;exact⟨_,_,rfl,by rw[hl];exact A6⟩
 .rintro σ H2 ⟨u6,u7,rfl,A2⟩;obtain⟨zs,hz,rz⟩:=A2.at_;have S2:=A2.same;cbv;refine⟨by decide,λl nl=>?_⟩;have A3:AccZ K H2 l (upd H2 l (.lst [])) []:=AccZ.start (Same.refl _) nl;generalize upd H2 l (.lst [])=H3 at A3 ⊢
  have at_:∀{H5:Hp} {j:Nat},Same H2 H5->j<n->∃y,zs[j]?=some y/\Rz K H5 y (dI (cW w c j)):=λ{H5 j} S hj=>by
   obtain⟨y,e,r⟩:=rz.get' (i:=j) (d:=dI (cW w c j)) (by unfold hls;rw[O4,O4,Qs hj];rfl);exact⟨y,e,r.same S⟩
  cbv;rw[Qc];refine aW (λi σ H4=>∃(ts:List Tn) (u6 u9:Option V),σ=[⇑a,↥t,↥m,↥(w:Int),↥(n:Int),⇑D,u6,u7,⇑l,u9]/\AccZ K H2 l H4 (ts.map dT)/\ts.map bZ=((Pi i).map λk=>(k,(k+1) % n)).map (kh (hls w c n))/\∀t∈ts,ga t.q t.d) ⟨[],_,none,rfl,A3,rfl,λt h=>by cases h⟩ ?_ ?_
  .rintro i σ H4 hi ⟨ts,u6,u9,rfl,A4,em,pc⟩;have lt:ts.length=i:=by have:=congrArg Rg em;rw[O0,O0,O0,PN] at this;exact this
   have S4:=A4.same;obtain⟨y1,e1,_⟩:=at_ S4 hi;have lm:(i+1) % n<n:=YS _ (by lia);obtain⟨y2,e2,_⟩:=at_ S4 lm;have em2:(0+(i:Int)+1) % (n:Int)=(((i+1) % n:Nat):Int):=by rw[Int.natCast_emod];congr 1;lia
   cbv;refine⟨a,ns,_,rfl,(S2.trans S4).seq hS,by lia,?_⟩;generalize cellOf ns (t+1+(0+(i:Int)))=c2;cbv;refine⟨A4.ty,?_⟩;cbv;refine cf (SqL.of (S4 _ _ hz)) (v:=y1) (by rw[SD];exact aO e1) ?_;cbv;rw[em2];refine cf (SqL.of (S4 _ _ hz)) (v:=y2) (aO e2) ?_;cbv;refine⟨_,_,rfl,λpa pq pd H5 S5 ok5 r5=>?_⟩;cbv;refine⟨fG,λz nz=>?_⟩;have S6:=ak nz (.tup [y1,y2,.ref pa]);have S26:=S4.trans (S5.trans S6);obtain⟨_,e1',g1⟩:=at_ S26 hi;obtain⟨_,e2',g2⟩:=at_ S26 lm;cases e1.symm.trans e1';cases e2.symm.trans e2';have r6:Rz K (upd H5 z (.tup [y1,y2,.ref pa])) (.ref z) (dT ⟨cW w c i,cW w c ((i+1) % n),pq,pd⟩):=.tup ag (.cons g1 (.cons g2 (.cons (r5.same S6) .nil)));cbv;refine b6 (A4.on (S5.trans S6)) r6 (au (by rw[O0];lia)) λH7 A7 _ _ _=>?_
   cbv;refine⟨ts++[_],_,_,rfl,by rw[O_];exact A7,?_,ck pc ok5⟩;rw[O_,em,Rr,O_,O_];show _++[(cW w c i,cW w c ((i+1) % n))]=_++[kh (hls w c n) (i,(i+1) % n)]
   unfold kh;rw[gX hi,gX lm]
  .rintro σ H4 ⟨ts,u6,u9,rfl,A4,em,pc⟩;have lt:ts.length=n:=by have:=congrArg Rg em;rw[O0,O0,O0,PN] at this;exact this
   have S4:=A4.same
   have fin:∀{u6 u9:Option V} {H5:Hp} {ts:List Tn} {x:Bool},ZL w c n x ts->AccZ K H2 l H5 (ts.map dT)->aI (be (ae (aC (fT K) [] E0 (ae (ar b9 (aa 2) (tC (.int 150))) (ae (aa 3) aj))) (ae (b_ (cz K) (ae (aa 8) aj)) aj))) (ends Q) [⇑a,↥t,↥m,↥(w:Int),↥(n:Int),⇑D,u6,u7,⇑l,u9] H5:=by
    intro u6 u9 H5 ts x Z A5;obtain⟨ys,hl,ry⟩:=A5.at_;have S5:=A5.same;cbv;refine⟨_,_,rfl,by lia,by lia,by lia,λpw H6 ws S6 ow lw r6=>?_⟩;cbv;refine eG (SqL.of (S6 _ _ hl)) λp np=>?_
    have S7:=ak np (.tup ys);cbv;refine⟨aM,λr nr=>?_⟩;have S8:=ak nr (.tup [.ref pw,.ref p]);have r7:Rz K (upd H6 p (.tup ys)) (.ref p) (.tuple (ts.map dT)):=.tup ag ((ry.same S6).same S7);have lw':ws.length=w:=by lia
    obtain⟨t1,t2,t3⟩:=Z.turns;have vo:nh ws ts:=⟨ow,by lia,by lia,_,by rw[lw'];exact t1,t2,t3⟩
    exact k r _ ws ts c n x (S2.trans (S5.trans (S6.trans (S7.trans S8)))) vo (by rw[lw'];exact Z) (.tup ag (.cons ((r6.same S7).same S8) (.cons (r7.same S8) .nil)))
   have Z0:ZL w c n false ts:=⟨c1,c3,n2,nw,w5,(λz=>by cases z),(by rw[em];unfold rng;rw[if_neg (by decide),RW]),pc⟩
   cbv;refine a9 (λc2=>?_) (λc2=>?_)
   .cbv;refine a9 (λc4=>?_) (λc4=>?_)
    .have n3:2<n:=by lia
     obtain⟨y1,e1,_⟩:=at_ S4 (show 1<n by lia);obtain⟨y2,e2,_⟩:=at_ S4 (show 0<n by lia);cbv;refine⟨A4.ty,?_⟩;cbv;refine cf (SqL.of (S4 _ _ hz)) (v:=y1) (aO (j:=1) e1) ?_;cbv;refine cf (SqL.of (S4 _ _ hz)) (v:=y2) (aO (j:=0) e2) ?_;cbv;refine⟨a,ns,_,rfl,(S2.trans S4).seq hS,by lia,?_⟩;cbv;refine⟨_,_,rfl,λpa pq pd H5 S5 ok5 r5=>?_⟩;cbv;refine⟨fG,λz nz=>?_⟩;have S6:=ak nz (.tup [y1,y2,.ref pa]);have S26:=S4.trans (S5.trans S6);obtain⟨_,e1',g1⟩:=at_ S26 (show 1<n by lia);obtain⟨_,e2',g2⟩:=at_ S26 (show 0<n by lia);cases e1.symm.trans e1';cases e2.symm.trans e2';have r6:Rz K (upd H5 z (.tup [y1,y2,.ref pa])) (.ref z) (dT ⟨cW w c 1,cW w c 0,pq,pd⟩):=.tup ag (.cons g1 (.cons g2 (.cons (r5.same S6) .nil)));cbv;refine b6 (A4.on (S5.trans S6)) r6 (au (by rw[O0];lia)) λH7 A7 _ _ _=>?_
     refine fin (ts:=ts++[⟨cW w c 1,cW w c 0,pq,pd⟩]) (x:=true) ⟨c1,c3,n2,nw,w5,λ_=>n3,?_,ck pc ok5⟩ (by rw[O_];exact A7);rw[O_,em];unfold rng;rw[if_pos rfl,O_ (f:=kh (hls w c n))];show _++[(cW w c 1,cW w c 0)]=_++[kh (hls w c n) (1,0)]
     unfold kh;rw[gX (by lia),gX (by lia)]
    .exact fin Z0 A4
   .exact fin Z0 A4
abbrev Gg(K:Fg):TS:=(aq (a8 (aR (ar hJ (ar aS (aC (c7 K) [] E0 (ae (aa 0) (ae (aa 1) aj))) (tC (.int 2))) (tC (.int 1))))
 (aI (aC (Pw.qW K) [] E0 (ae (aa 0) (ae (aa 1) aj))))
 bw)
 (aI (aC (Gn.xC K) [] E0 (ae (aa 0) (ae (aa 1) aj)))))
def JX{K:Fg}:ρ 2 (Gy K) (Gg K):=by
 fail "R";obtain⟨a,ns,t,rfl,hS,t0,k⟩:=h;rw[L2.aP hN];walk_at "t";unfold Gg;cbv;refine⟨a,ns,t,rfl,hS,t0,?_⟩;cbv;refine a9 (λ_=>?_) (λ_=>?_)
 .cbv;refine⟨a,ns,t,rfl,hS,t0,λp H' ws ts u S vo pr up r=>?_⟩;have af:=Hy pr;exact k p H' ws ts S ⟨vo,af,Ec (Ed vo).1 af up pr⟩ r
 .cbv;exact⟨a,ns,t,rfl,hS,t0,λp H' ws ts c n x S vo Z r=>k p H' ws ts S ⟨vo,Z.all,Z.one (Ed vo).1⟩ r⟩
open PySem L2 Fr G1 Sm Vs G2 Rk Sz Sf Rw Ti Lo Lc Tr Pw Dn Wd
abbrev nP(K:Fg):Sp:=λvs H Q _=>∃t b:Int,vs=[.int t,.int b]/\0<b/\t.natAbs<2 ^ 13500/\b.natAbs<2 ^ 13500/\∀(p:Addr) (q d:Int) (H':Hp),Same H H'->Gd.Low t b q d->q.natAbs<=t.natAbs->d.natAbs<=b.natAbs->Rz K H' (.ref p) (dI [q,d])->Q (.ref p) H'
def Ny{K:Fg}{vs:List V}(h:gS K vs H Q E):nP K vs H Q E:=by
 obtain⟨t,b,e,b0,ht,hb,k⟩:=h;have p:=@pw_lt 8000 13500 (by decide);exact⟨t,b,e,b0,Qo ht p,Qo hb p,k⟩
abbrev wF(K:Fg):TS:=(aq (av (aC nQ [] E0 (ae (aa 0) (ae (aa 1) aj))) (al 2))
 (aI (be (ae (ar uW (aa 0) (aa 2)) (ae (ar uW (aa 1) (aa 2)) aj)))))
def G0{K:Fg}:ρ 3 (nP K) (wF K):=by
 fail "R";obtain⟨t,b,rfl,b0,ht,hb,k⟩:=h;rw[L2.aP hN];walk_at "t";unfold wF;have nb:b≠0:=by clear ht hb;lia
 have gp:=Gd.ub (a:=t) nb;have gn:Gd.gd t b≠0:=by clear ht hb;lia
 have L:=Gd.oZ (t:=t) (b:=b) (d:=Gd.gd t b) nb (.inl ⟨rfl,b0⟩);have M:=Gd.mH (t:=t) (b:=b) (d:=Gd.gd t b) nb (.inl ⟨rfl,b0⟩);cbv;refine⟨t,b,rfl,?_⟩;cbv;refine cP ⟨gn,ht⟩ ?_;cbv;refine cP ⟨gn,hb⟩ ?_;clear ht hb;cbv;refine⟨aM,λp np=>?_⟩;exact k p _ _ _ (ak np _) L M.1 M.2 (.tup ag (RpL.ints [_,_]))
abbrev iE(K:Fg):Sp:=λvs H Q _=>∃(a1 a2:Addr) (a b c d:Int),vs=[.ref a1,.ref a2]/\SqT K H a1 [.int a,.int b]/\SqT K H a2 [.int c,.int d]/\0<b*d/\iu a c/\iu b d/\(a*c).natAbs<2 ^ 13500/\(b*d).natAbs<2 ^ 13500/\∀(p:Addr) (H':Hp),Same H H'->Rz K H' (.ref p) (dQ (PH (a*c) (b*d)))->Q (.ref p) H'
abbrev kZ(K:Fg):TS:=(aI (aC (Gn.nP K) [] E0 (ae (ar cV (ar (aD K) (aa 0) (tC (.int 0))) (ar (aD K) (aa 1) (tC (.int 0)))) (ae (ar cV (ar (aD K) (aa 0) (tC (.int 1))) (ar (aD K) (aa 1) (tC (.int 1)))) aj))))
def yc{K:Fg}:ρ 2 (iE K) (kZ K):=by
 fail "R";obtain⟨a1,a2,a,b,c,d,rfl,h1,h2,bd,m1,m2,n1,n2,k⟩:=h;rw[L2.aP hN];walk_at "t";unfold kZ;cbv;refine aG h1 (v:=.int a) rfl ?_;cbv;refine aG h2 (v:=.int c) rfl ?_;refine cP m1 ?_;cbv;refine aG h1 (v:=.int b) rfl ?_;cbv;refine aG h2 (v:=.int d) rfl ?_;refine cP m2 ?_;clear m1 m2;cbv;refine⟨_,_,rfl,bd,n1,n2,λp q d H' S L _ _ r=>?_⟩;obtain⟨e1,e2⟩:=cX (by clear n1 n2;lia) L;rw[e1,e2] at r;exact k p H' S r
def F2{K:Fg}{vs:List V}(h:fU K vs H Q E):iE K vs H Q E:=by
 obtain⟨v,c,x,a,b,rfl,rv,hc,b0,a4,b4,bx,k⟩:=h;obtain⟨d,rfl,hd⟩:=rv;have sm4:∀n:Nat,n<=4->((n:Int)).natAbs<2 ^ 3900:=λn h=>Pk (by lia:((n:Int)).natAbs<=4) (PL (by decide:4<2 ^ 3) (Ph (by decide) (by decide)))
 have p:=@pw_lt 7800 13500 (by decide);refine⟨d,c,_,_,_,_,rfl,hd,hc,VW (by have:=x.den_nz;lia) (by lia),⟨Bq.w bx.1,Bq.w (sm4 a a4)⟩,⟨Bq.w bx.d,Bq.w (sm4 b b4)⟩,Qo (Bq.mul bx.1 (sm4 a a4)) p,Qo (Bq.mul bx.d (sm4 b b4)) p,λq H' S r=>k q H' S ?_⟩
 rwa [<- Q6,Qk] at r
abbrev iC(K:Fg):Sp:=λvs H Q _=>∃(v u:V) (x y:Rat),vs=[v,u]/\QV K H v x/\QV K H u y/\iu x.num y.num/\iu x.den y.den/\(x.num*y.num).natAbs<2 ^ 13500/\((x.den:Int)*y.den).natAbs<2 ^ 13500/\∀(p:Addr) (H':Hp),Same H H'->Rz K H' (.ref p) (dQ (x*y))->Q (.ref p) H'
def F1{K:Fg}{vs:List V}(h:iC K vs H Q E):iE K vs H Q E:=by
 obtain⟨v,u,x,y,rfl,⟨a,rfl,ha⟩,⟨b,rfl,hb⟩,m1,m2,n1,n2,k⟩:=h;refine⟨a,b,_,_,_,_,rfl,ha,hb,VW (by have:=x.den_nz;lia) (by have:=y.den_nz;lia),m1,m2,n1,n2,λq H' S r=>k q H' S ?_⟩
 rwa [<- Q6,Qk,Qk] at r
def bQ:(ni l).length=l.length:=by unfold ni;rw[O0]
abbrev xG(K:Fg):Sp:=λvs H Q _=>∃(a:Addr) (ns:List Int) (t:Int) (w:Nat),vs=[.ref a,.int t,.int (w:Int)]/\SqL K H a (ns.map V.int)/\0<=t/\w<=5/\∀(p:Addr) (H':Hp) (cs:List Nat),Same H H'->cs.length=w->(∀c∈cs,c<10 ^ 40)->Rz K H' (.ref p) (dI (ni cs))->Q (.ref p) H'
def Dy:∀{cs:List Int},(∀c∈cs,0<=c)->∃ns:List Nat,ni ns=cs
 |[],_=>⟨[],rfl⟩
 |c :: cs,h=>by
  obtain⟨ns,e⟩:=Dy (cs:=cs) λx hx=>h x (O9 _ hx)
  have:=h c O8
  refine⟨c.toNat :: ns,?_⟩;show((c.toNat:Nat):Int) :: ni ns=_;rw[e,show((c.toNat:Nat):Int)=c by lia]
nonrec abbrev BH(K:Fg):TS:=(av (b_ (cz K) (ae (fE (vm K (aa 4)) (ar aX (ar (rI CMul λi j=>.int (i*j)) (ar aS (aa 0) (ar rA (tC (.int 10)) (tC (.int 10)))) (ar rA (tC (.int 10)) (tC (.int 29)))) (ar aS (aC (c7 K) [] E0 (ae (aa 1) (ae (ar aX (aa 2) (tC (.int 1))) aj))) (ar rA (tC (.int 10)) (tC (.int 20)))))) aj)) (al 4))
nonrec abbrev BG(K:Fg):TS:=(aq (av (aC (qX K) [] E0 (ae (aC (c7 K) [] E0 (ae (aa 0) (ae (ar aX (aa 1) (tC (.int 1))) aj))) (ae (aa 2) (ae (aa 3) aj)))) (al 4))
 (aq (a8 (aR (ar CV (aa 3) (tC (.int 100))))
 (BH K)
 bw)
 (aI (aa 4))))
abbrev wt(K:Fg):TS:=(aq (av (ar (bY K) (bU (ae (tC (.int 4)) (ae (tC (.int 12)) (ae (tC (.int 100)) (ae (ar rA (tC (.int 10)) (tC (.int 39))) aj))))) (ar aS (aC (c7 K) [] E0 (ae (aa 0) (ae (aa 1) aj))) (tC (.int 4)))) (al 3))
 (BG K))
def GT{K:Fg}:ρ 5 (xG K) (wt K):=by
 fail "R";obtain⟨a,ns,t,w,rfl,hS,t0,w5,k⟩:=h;rw[L2.aP hN];walk_at "t";unfold wt;cbv;refine⟨GD,λl nl=>?_⟩;have S1:=ak nl (.lst [.int 4,.int 12,.int 100,.int (10 ^ QM 39)]);have hl:upd H l (.lst [.int 4,.int 12,.int 100,.int (10 ^ QM 39)]) l=some (.lst [.int 4,.int 12,.int 100,.int (10 ^ QM 39)]):=ag;generalize upd H l (.lst [.int 4,.int 12,.int 100,.int (10 ^ QM 39)])=H1 at S1 hl ⊢;cbv;refine⟨a,ns,t,rfl,S1.seq hS,t0,?_⟩;generalize cellOf ns t=c0
 have big:∃z:Int,ur [V.int 4,.int 12,.int 100,.int (10 ^ QM 39)] (c0 % 4)=↥z/\0<z/\z<=10 ^ 39:=by
  rcases (by lia:c0 % 4=0\/c0 % 4=1\/c0 % 4=2\/c0 % 4=3) with e|e|e|e <;> rw[e]
  .exact⟨4,rfl,by decide,by decide⟩
  .exact⟨12,rfl,by decide,by decide⟩
  .exact⟨100,rfl,by decide,by decide⟩
  .exact⟨10 ^ 39,rfl,by decide,by decide⟩
 obtain⟨z,ez,z0,z1⟩:=big;cbv;refine cf (SqL.of hl) ez ?_;cbv;refine⟨a,ns,t+1,rfl,S1.seq hS,by lia,?_⟩;generalize hc1:cellOf ns (t+1)=c1;cbv;refine⟨c1,z,w,rfl,w5,z0,Pk (by lia:z.natAbs<=10 ^ 39) (PL (by decide:10 ^ 39<2 ^ 130) (Ph (by decide) (by decide))),λp H2 cs S2 lc bc rp=>?_⟩;have S12:=S1.trans S2;cbv;refine a9 (λc=>?_) (λc=>?_)
 .obtain⟨q,e0,hq⟩:=bN rp;cases e0
  have g:∀x:Int,0<=x % 10 ^ QM 10*10 ^ QM 29+c1 % 10 ^ QM 20/\x % 10 ^ QM 10*10 ^ QM 29+c1 % 10 ^ QM 20<10 ^ 40:=λx=>by
   have e1:(10:Int) ^ QM 10=10000000000:=by decide
   have e2:(10:Int) ^ QM 29=100000000000000000000000000000:=by decide
   have e3:(10:Int) ^ QM 20=100000000000000000000:=by decide
   have e4:(10:Int) ^ 40=10000000000000000000000000000000000000000:=by decide
   rw[e1,e2,e3,e4];lia
  cbv;refine⟨p,rfl,⟨_,SqT.of hq⟩,?_⟩;refine uo (xs:=cs.map V.int) λD nD=>⟨λj H3=>AccZ K H2 D H3 (((cs.take j).map λx=>x % 10 ^ QM 10*10 ^ QM 29+c1 % 10 ^ QM 20).map Qm),by simpa using AccZ.start (Same.refl _) nD,λj H3 _ A=>SqT.of (A.same _ _ hq),?_,?_⟩
  .intro j x H3 hx A;have lj:=(O3.mp hx).1;rw[O4] at hx;obtain⟨y,hy,rfl⟩:=Pb.mp hx;cbv;refine cP (by decide) ?_;cbv;refine cP (.inl (by rw[show(10:Int) ^ QM 10=10000000000 by decide];lia)) ?_;cbv;refine⟨a,ns,t+1,rfl,(S12.trans A.same).seq hS,by lia,?_⟩;rw[hc1];cbv;refine cP (by decide) ?_;cbv;refine a6 lj ?_;refine A.cI (.int _) (au (by rw[O0,O0,Px];lia)) λH4 A4=>?_
   show AccZ K H2 D H4 (((cs.take (j+1)).map λx=>x % 10 ^ QM 10*10 ^ QM 29+c1 % 10 ^ QM 20).map Qm);rw[Ps,hy,O_,O_];exact A4
  .intro H3 A;rw[O0,Pc (Pa _)] at A
   obtain⟨ms,e⟩:=Dy (cs:=cs.map λx=>x % 10 ^ QM 10*10 ^ QM 29+c1 % 10 ^ QM 20) λx hx=>by
    obtain⟨y,_,rfl⟩:=Pl.mp hx;exact(g y).1
   have lm:ms.length=w:=by have:=congrArg Rg e;rw[bQ,O0] at this;lia
   have bm:∀m∈ms,m<10 ^ 40:=λm hm=>by
    have:(m:Int)∈ni ms:=by unfold ni;exact Pl.mpr ⟨m,hm,rfl⟩
    rw[e] at this;obtain⟨y,_,ey⟩:=Pl.mp this
    have:=(g y).2
    rw[ey] at this
    exact_mod_cast this
   rw[<- e] at A;cbv;refine eG (SqL.of (AccZ.ints A)) λq nq=>?_
   cbv;exact k q _ ms (S12.trans (A.same.trans (ak nq _))) lm bm (.tup ag (RpL.ints _))
 .cbv;obtain⟨ms,e⟩:=Dy λx hx=>(bc x hx).1
  rw[<- e] at rp lc bc;refine k p H2 ms S12 (by rw[bQ] at lc;exact lc) (λy hy=>?_) rp
  have:=(bc (y:Int) (by unfold ni;exact Pl.mpr ⟨y,hy,rfl⟩)).2
  have e4:(10:Int) ^ 39=1000000000000000000000000000000000000000:=by decide
  have e5:(10:Nat) ^ 40=10000000000000000000000000000000000000000:=by decide
  lia
abbrev Bl(n:Nat)(x:Rat):Prop:=x.num.natAbs<=2 ^ n/\x.den<=2 ^ n
def Bl.of{n a b:Nat}(ha:a<=2 ^ n)(hb:b<=2 ^ n)(b0:0<b):Bl n (PH a b):=by
 have L:=Gd.oZ (t:=(a:Int)) (b:=(b:Int)) (d:=Gd.gd a b) (by lia) (.inl ⟨rfl,by lia⟩);have M:=Gd.mH (t:=(a:Int)) (b:=(b:Int)) (d:=Gd.gd a b) (by lia) (.inl ⟨rfl,by lia⟩);obtain⟨e1,e2⟩:=cX (by lia) L;rw[e1,e2,Pu] at M;rw[Pu,Pu] at M;exact⟨Pj M.1 ha,Pj M.2 hb⟩
def Bl.mul(hx:Bl m x)(hy:Bl n y)(x0:0<x)(y0:0<y):Bl (m+n) (x*y):=by
 have e:x*y=PH ((x.num.natAbs*y.num.natAbs:Nat):Int) ((x.den*y.den:Nat):Int):=by
  have a:=RS.mpr (RO x0);have b:=RS.mpr (RO y0);rw[Qj,Qj,<- Q6,show((x.num.natAbs:Nat):Int)=x.num by lia,show((y.num.natAbs:Nat):Int)=y.num by lia,Qk,Qk]
 rw[e];refine Bl.of ?_ ?_ (Qa (P5 x.den_nz) (P5 y.den_nz))
 .rw[QU];exact PX hx.1 hy.1
 .rw[QU];exact PX hx.2 hy.2
def Bl.inv(hx:Bl m x)(x0:0<x):Bl m x⁻¹:=by
 have a:=Ev.nump x0;have n:=RS.mpr (RO x0);have e:x⁻¹=PH (x.den:Int) ((x.num.natAbs:Nat):Int):=by rw[show((x.num.natAbs:Nat):Int)=x.num by lia,<- VH,Qk]
 rw[e];exact Bl.of hx.2 hx.1 a
def Bl.up{n:Nat}(h:Bl m x)(l:m<=n):Bl n x:=⟨Pj h.1 (Ph (by decide) l),Pj h.2 (Ph (by decide) l)⟩
def Kl{g:Nat->Rat}{c:Nat}:∀{R:List Nat},(∀k∈R,0<g k/\Bl c (g k))->Bl (c*R.length) (pl g R)
 |[],_=>⟨by show(1:Int).natAbs<=_;exact Qy (by decide),by show 1<=_;exact Qy (by decide)⟩
 |k :: R,h=>by
  obtain⟨a,b⟩:=h k O8;have i:=Kl (R:=R) λj hj=>h j (O9 _ hj)
  exact(b.mul i a (oF λj hj=>(h j (O9 _ hj)).1)).up (by rw[P7,Nat.mul_succ];lia)
def Oh{g:Nat->Rat}{R:List Nat}(h:∀k∈R,0<g k/\Bl c (g k))(nr:Nr b e cs ds):0<gn g R cs ds/\Bl (c*R.length+5*(b*e)) (gn g R cs ds):=by
 have p:=oF λk hk=>(h k hk).1
 have f1:=kD cs;have f2:=kD ds
 have q:0<PH (fp cs) (fp ds):=by
  rw[RE];exact Rv (by exact_mod_cast f1) (RT.mpr (by exact_mod_cast f2))
 have d:PH (fp cs) (fp ds)=PH (Gn.dp cs ds) (Gn.dp ds cs):=by
  refine(Q2 (by lia) (by have:=pF ds cs;lia)).mpr ?_
  have:=congrArg (λn:Nat=>(n:Int)) (IQ nr.len)
  simp only[Qj] at this;exact this.symm
 refine⟨Rv p q,(Kl h).mul ?_ p q⟩;rw[d];have d1:=nr.dp cs.length (Pa _);have d2:=nr.symm.dp cs.length (by rw[<- nr.len];exact Pa _);rw[Pc (Pa _),Pc (by rw[nr.len];exact Pa _)] at d1;rw[Pc (by rw[nr.len];exact Pa _),Pc (Pa _)] at d2;have le:=Ph (n:=2) (by decide) (Qe (b*e) nr.five);exact Bl.of (Pj d1 le) (Pj d2 le) (pF _ _)
open Tr Ti Vs G1
def zc{m:Nat}{R:List Nat}{key:Nat->Nat}(h:∀k∈R,key k<m):ls (Pi m) (λj=>ls (R.filter λk=>key k == j) f)=ls R f:=by
 rw[aQ λj _=>cJ (λk=>key k == j) f R,mF];refine aQ λk hk=>?_
 rw[zd TM (PJ.mpr (h k hk)) λj _ ne=>if_neg (by simpa using Vd ne)];exact if_pos (by simp)
def JL{W:Nat->Rat}:(sW es W k)⁻¹=W (fro es k)*(W (tow es k))⁻¹:=by
 unfold sW;rw[WG,Rat.inv_inv]
def vn(Wp:∀j,j<(aF ts).length->0<Wt ts j)(φ:Nat->Rat) :
  ls (Pi (am ts).length) (λk=>bW ts k * φ (fro (am ts) k))=ls (Pi (am ts).length) λk=>bW ts k*(sW (am ts) (Wt ts) k)⁻¹ * φ (tow (am ts) k):=by
 have ok:∀k∈Pi (am ts).length,fro (am ts) k<(aF ts).length/\tow (am ts) k<(aF ts).length:=λk hk=>bO ts _ (rZ (PJ.mp hk))
 rw[<- zc (m:=(aF ts).length) (key:=fro (am ts)) λk hk=>(ok k hk).1,<- zc (m:=(aF ts).length) (key:=tow (am ts)) (f:=λk=>bW ts k*(sW (am ts) (Wt ts) k)⁻¹ * φ (tow (am ts) k)) λk hk=>(ok k hk).2];refine aQ λj hj=>?_
 have lj:=PJ.mp hj;have b:=congrArg (λx=>(Wt ts j)⁻¹ * φ j*x) (Mq lj);simp only[<- oY] at b;have w1:Wt ts j*(Wt ts j)⁻¹=1:=Sh _ (Rat.ne_of_gt (Wp j lj));rw[aQ (g:=λk=>(Wt ts j)⁻¹ * φ j*(bW ts k*Wt ts (fro (am ts) k))) λk hk=>?_,aQ (f:=λk=>bW ts k*(sW (am ts) (Wt ts) k)⁻¹ * φ (tow (am ts) k)) (g:=λk=>(Wt ts j)⁻¹ * φ j*(bW ts k*Wt ts (fro (am ts) k))) λk hk=>?_]
 .exact b.symm
 .rw[JL,show tow (am ts) k=j by simpa using(PQ.mp hk).2];generalize Wt ts (fro (am ts) k)=a
  grind
 .rw[show fro (am ts) k=j by simpa using(PQ.mp hk).2];generalize Wt ts j=a at w1
  grind
abbrev dA:List Nat->List Nat->Nat
 |c :: C,f :: F=>fl c f*dA C F
 |_,_=>1
abbrev iq:List Nat->List Nat->List Nat->List Nat
 |f :: F,t :: T,c :: C=>(c-t+f) :: iq F T C
 |_,_,_=>[]
def IL{c t f:Nat}(h:t<=c):fl (c-t+f) f*fc c=fl c t*fc (c-t+f):=by
 have a:=Ac (m:=c-t+f) (k:=f) (by lia);have b:=Ac h;rw[show c-t+f-f=c-t by lia] at a;rw[<- a,<- b];simp only[Qv,Q8,P9]
def ud:∀{F T C:List Nat},F.length=C.length->T.length=C.length->(∀(i t c:Nat),T[i]?=some t->C[i]?=some c->t<=c)->dA (iq F T C) F*fp C=dA C T*fp (iq F T C)
 |[],[],[],_,_,_=>rfl
 |[],_ :: _,_,h1,h2,_=>by rw[<- h1] at h2;cases h2
 |_ :: _,[],_,h1,h2,_=>by rw[<- h2] at h1;cases h1
 |f :: F,t :: T,c :: C,h1,h2,h=>by
  have e:=ud (F:=F) (T:=T) (C:=C) (Qh h1) (Qh h2) λi t c a b=>h (i+1) t c a b
  have d:=IL (f:=f) (h 0 t c rfl rfl);show fl (c-t+f) f*dA (iq F T C) F*(fc c*fp C)=fl c t*dA C T*(fc (c-t+f)*fp (iq F T C))
  calc _=(fl (c-t+f) f*fc c)*(dA (iq F T C) F*fp C):=by simp only[Qv,Q8,P9]
   _=(fl c t*fc (c-t+f))*(dA C T*fp (iq F T C)):=by rw[d,e]
   _=_:=by simp only[Qv,Q8,P9]
def uc:∀{C T:List Nat} {i t c:Nat},T[i]?=some t->C[i]?=some c->c<t->dA C T=0
 |[],_,_,_,_,_,h,_=>by simp at h
 |_ :: _,[],_,_,_,h,_,_=>by simp at h
 |c :: C,t :: T,0,_,_,h1,h2,h=>by
  cases h1;cases h2;show fl c t*dA C T=0;rw[rV h,TK]
 |c :: C,t :: T,i+1,_,_,h1,h2,h=>by
  show fl c t*dA C T=0;rw[uc (C:=C) (T:=T) (i:=i) h1 h2 h,Nat.mul_zero]
def Er{p s:Rat}{F T C:List Nat}(s0:s≠0)(h1:F.length=C.length)(h2:T.length=C.length)(h:∀(i t c:Nat),T[i]?=some t->C[i]?=some c->t<=c){g:Nat->Rat}(hg:g k=s) :
  p*((dA (iq F T C) F:Nat):Rat)*(gn g [k] (iq F T C) C)⁻¹=p*s⁻¹ * ((dA C T:Nat):Rat):=by
 unfold gn;show _*(g k*1*_)⁻¹=_;rw[hg,Q4,RE];have e:((dA (iq F T C) F:Nat):Rat)*((fp C:Nat):Rat)=((dA C T:Nat):Rat)*((fp (iq F T C):Nat):Rat):=by exact_mod_cast ud h1 h2 h
 have f1:((fp C:Nat):Rat)≠0:=by have:=kD C;exact_mod_cast (by lia:fp C≠0)
 have f2:((fp (iq F T C):Nat):Rat)≠0:=by have:=kD (iq F T C);exact_mod_cast (by lia:fp (iq F T C)≠0)
 simp only[Rat.intCast_natCast];generalize ((fp C:Nat):Rat)=x at *;generalize ((fp (iq F T C):Nat):Rat)=y at *;generalize ((dA C T:Nat):Rat)=u at *;generalize ((dA (iq F T C) F:Nat):Rat)=v at *;have sx:s*s⁻¹=1:=Sh _ s0;have xx:x*x⁻¹=1:=Sh _ f1;have yy:y*y⁻¹=1:=Sh _ f2;rw[Rat.div_def,WG,WG,Rat.inv_inv];have e2:v*x*y⁻¹=u:=by rw[e,Qg,yy,Q4]
 grind
def ue:∀{A B:List Nat} {m n:Nat},A.length=B.length->dA (A++[m]) (B++[n])=dA A B*fl m n
 |[],[],m,n,_=>by show fl m n*1=1*fl m n;lia
 |a :: A,b :: B,m,n,h=>by
  show fl a b*dA (A++[m]) (B++[n])=fl a b*dA A B*fl m n;rw[ue (Qh h),P9]
def OK{b c f:Nat}(hc:c<2 ^ b)(hf:f<=3):fl c f<=2 ^ (3*b):=by
 refine Pj (D_ (Rx hc) f) ?_;rw[<- VU,Qv 3 b];exact Ph (by decide) (PU b hf)
def Fo{b:Nat}:∀{C F:List Nat},(∀c∈C,c<2 ^ b)->(∀f∈F,f<=3)->dA C F<=2 ^ (3*b*C.length)
 |[],_,_,_=>Pa _
 |_ :: _,[],_,_=>Qy (by decide)
 |c :: C,f :: F,h1,h2=>by
  show fl c f*dA C F<=_;rw[P7,Nat.mul_succ,Vg,QU];exact PX (OK (h1 c O8) (h2 f O8)) (Fo (λx h=>h1 x (O9 _ h)) λx h=>h2 x (O9 _ h))
def Ab{C F:List Nat}(h:C.length<=5)(h1:∀c∈C,c<2 ^ 134)(h2:∀f∈F,f<=3):dA C F<=2 ^ 2010:=Pj (Fo h1 h2) (Ph (by decide) (by have:=PU (3*134) h;lia))
abbrev sY(K:Fg):Sp:=λvs H Q _=>∃(v u:V) (k:Nat) (ws:List Str) (ts:List Tn) (t:Tn) (F cs:List Nat),vs=[v,.int (k:Int),u]/\Rz K H v (dV ws ts)/\Rz K H u (dI (ni cs))/\ts[k]?=some t/\t.fr=ni F/\F.length=cs.length/\cs.length<=5/\(∀f∈F,f<=3)/\(∀c∈cs,c<2 ^ 134)/\cr ts/\ts.length<=8 /\
 ∀(p:Addr) (H':Hp),Same H H'->Rz K H' (.ref p) (dQ (bW ts k*((dA cs F:Nat):Rat)))->Q (.ref p) H'
nonrec abbrev Bx(K:Fg):TS:=(aq (a5 (pA K .T .T (ae (aa 2) (ae (ar (aD K) (aa 3) (tC (.int 0))) aj))) (cg K 2 (aT (al 5) (aT (al 6) ci)))
 (av (ar cV (aa 4) (aC Gn.iS [] E0 (ae (aa 5) (ae (aa 6) aj)))) (al 4)))
 (aI (aC (iF K) [] E0 (ae (ar (aD K) (aa 3) (tC (.int 2))) (ae (be (ae (aa 4) (ae (tC (.int 1)) aj))) aj)))))
abbrev wc(K:Fg):TS:=(aq (av (aC (iB K) [] E0 (ae (aa 0) (ae (aa 1) aj))) (al 3))
 (aq (av (tC (.int 1)) (al 4))
 (Bx K)))
def GQ{K:Fg}:ρ 7 (sY K) (wc K):=by
 fail "R";obtain⟨v,u,k,ws,ts,t,F,cs,rfl,rv,ru,ht,eF,lF,l5,f3,Z4,pa,t8,q⟩:=h;obtain⟨c,rfl,hc⟩:=bN ru;rw[L2.aP hN];walk_at "t";unfold wc;cbv;refine⟨v,k,ws,ts,t,rfl,rv,ht,λz rz=>?_⟩;obtain⟨at_,w1,w2,w3,rfl,hat,q1,q2,q3⟩:=kc rz;rw[eF] at q1;obtain⟨b1,rfl,Z3⟩:=bN q1;rw[E1 pa ht] at q3;have lk:=(O3.mp ht).1;have p20:(2:Nat) ^ 2010<2 ^ 20000:=Qd (by decide) (by decide);cbv;refine aG (SqT.of hat) (v:=.ref b1) rfl ?_;cbv;refine⟨c,b1,_,_,rfl,SqT.of hc,SqT.of Z3,?_⟩;refine rX (k1:=.T) (k2:=.T) (xs:=(ni cs).map V.int) (ys:=(ni F).map V.int) (n:=cs.length) (by rw[O0,Gn.bQ]) (by rw[O0,Gn.bQ,lF]) (λi σ H2=>∃u5 u6:Option V,σ=[some v,↥(k:Int),⇑c,⇑at_,some (.int ((dA (cs.take i) (F.take i):Nat):Int)),u5,u6]/\Same H H2) ⟨none,none,rfl,Same.refl _⟩ (λi σ H2 _ h=>by obtain⟨_,_,_,S⟩:=h;exact⟨SqT.of (S _ _ hc),SqT.of (S _ _ Z3)⟩) ?_ ?_
 .rintro i y1 y2 σ H2 T e1 e2 ⟨u5,u6,rfl,S2⟩ nT;unfold ni at e1 e2;rw[O4,O4] at e1 e2;obtain⟨_,f1,rfl⟩:=Pb.mp e1;obtain⟨m1,g1,rfl⟩:=Pb.mp f1;obtain⟨_,f2,rfl⟩:=Pb.mp e2;obtain⟨m2,g2,rfl⟩:=Pb.mp f2;have b1:=Z4 m1 (O7 g1);have b2:=f3 m2 (O7 g2);have bp:dA (cs.take i) (F.take i)<=2 ^ 2010:=Ab (by rw[Px];lia) (λx h=>Z4 x (QP h)) λx h=>f3 x (QP h)
  have b3:=OK b1 b2;have p4:(2:Nat) ^ (3*134)<2 ^ 20000:=Qd (by decide) (by decide);refine bI (SqT.of ag) rfl ?_;cbv;refine⟨m1,134,(m2:Int),rfl,by lia,by lia,b1,by decide,by rw[Qc];lia,?_⟩;rw[Qc];refine cP ⟨by rw[Pu];exact Pk bp p20,by rw[Pu];exact Pk b3 p4⟩ ?_;cbv;refine⟨↥(m1:Int),↥(m2:Int),?_,S2.trans (ak nT _)⟩;rw[Ps,Ps,g1,g2];show _=[_,_,_,_,some (V.int ((dA (cs.take i++[m1]) (F.take i++[m2]):Nat):Int)),_,_]
  rw[ue (by rw[Px,Px,lF]),Qj];rfl
 .rintro σ H2 ⟨u5,u6,rfl,S2⟩;rw[Pc (Pa _),Pc (by lia)];have bp:=Ab l5 Z4 f3;cbv;refine aG (SqT.of (S2 _ _ hat)) (v:=w3) rfl ?_;cbv;refine⟨aM,λp np=>?_⟩;have S3:=S2.trans (ak np (.tup [.int ((dA cs F:Nat):Int),.int 1]));have hp:upd H2 p (.tup [.int ((dA cs F:Nat):Int),.int 1]) p=some (.tup [.int ((dA cs F:Nat):Int),.int 1]):=ag;generalize upd H2 p (.tup [.int ((dA cs F:Nat):Int),.int 1])=H3 at S3 hp ⊢;refine⟨w3,.ref p,bW ts k,((dA cs F:Nat):Rat),rfl,QV.of (q3.same S3),⟨p,rfl,SqT.of hp⟩,yN pa t8 lk,⟨?_,Nat.one_lt_two_pow (by decide)⟩,λo H4 S4 r4=>q o H4 (S3.trans S4) r4⟩;show(((dA cs F:Nat):Int)).natAbs<_;rw[Pu];exact Pk bp (pw_lt (by decide))
abbrev lH(K:Fg):Sp:=λvs H Q _=>∃(v u:V) (x y:Rat),vs=[v,u]/\QV K H v x/\QV K H u y/\x.num.natAbs*y.den<2 ^ 13499/\y.num.natAbs*x.den<2 ^ 13499/\x.den*y.den<2 ^ 13500/\∀(p:Addr) (H':Hp),Same H H'->Rz K H' (.ref p) (dQ (x+y))->Q (.ref p) H'
abbrev qm(K:Fg):TS:=(aI (aC (Gn.nP K) [] E0 (ae (ar aX (ar cV (ar (aD K) (aa 0) (tC (.int 0))) (ar (aD K) (aa 1) (tC (.int 1)))) (ar cV (ar (aD K) (aa 1) (tC (.int 0))) (ar (aD K) (aa 0) (tC (.int 1))))) (ae (ar cV (ar (aD K) (aa 0) (tC (.int 1))) (ar (aD K) (aa 1) (tC (.int 1)))) aj))))
def CB{K:Fg}:ρ 2 (lH K) (qm K):=by
 fail "R";obtain⟨v,u,x,y,rfl,⟨a,rfl,ha⟩,⟨b,rfl,hb⟩,m1,m2,m3,k⟩:=h;rw[L2.aP hN];walk_at "t";have dx:=P5 x.den_nz;have dy:=P5 y.den_nz;have w1:(2:Nat) ^ 13499<2 ^ 20000:=Qd (by decide) (by decide);have w2:(2:Nat) ^ 13500<2 ^ 20000:=Qd (by decide) (by decide);have c1:iu x.num (y.den:Int):=⟨Pk (QZ _ dy) (Qo m1 w1),by rw[Pu];exact Pk (QN _ dx) (Qo m3 w2)⟩
 have c2:iu y.num (x.den:Int):=⟨Pk (QZ _ dx) (Qo m2 w1),by rw[Pu];exact Pk (QZ _ dy) (Qo m3 w2)⟩
 have n1:(x.num*(y.den:Int)+y.num*(x.den:Int)).natAbs<2 ^ 13500:=by
  refine Pk (Ts _ _) ?_;rw[P2,P2,Pu,Pu,show(2:Nat) ^ 13500=2 ^ 13499+2 ^ 13499 by rw[<- Nat.mul_two,<- QW]];exact YU m1 m2
 have n2:((x.den:Int)*(y.den:Int)).natAbs<2 ^ 13500:=by rw[P2,Pu,Pu];exact m3
 have b0:(0:Int)<(x.den:Int)*(y.den:Int):=VW (by lia) (by lia);have c3:iu (x.den:Int) (y.den:Int):=⟨c2.2,c1.2⟩
 clear m1 m2 m3 w1 w2;unfold qm;cbv;refine aG ha (v:=.int x.num) rfl ?_;cbv;refine aG hb (v:=.int (y.den:Int)) rfl ?_;refine cP c1 ?_;cbv;refine aG hb (v:=.int y.num) rfl ?_;cbv;refine aG ha (v:=.int (x.den:Int)) rfl ?_;refine cP c2 ?_;cbv;refine aG ha (v:=.int (x.den:Int)) rfl ?_;cbv;refine aG hb (v:=.int (y.den:Int)) rfl ?_;refine cP c3 ?_;clear c1 c2 c3;cbv;refine⟨_,_,rfl,b0,n1,n2,λp q d H' S L _ _ r=>?_⟩;obtain⟨e1,e2⟩:=cX (by clear n1 n2;lia) L;rw[e1,e2,Fr.rq] at r;exact k p H' S r
abbrev Tb(A B:Nat)(x:Rat):Prop:=x.num.natAbs<=2 ^ A/\x.den<=2 ^ B
def Tb.of{a:Int}{b A B:Nat}(ha:a.natAbs<=2 ^ A)(hb:b<=2 ^ B)(b0:0<b):Tb A B (PH a (b:Int)):=by
 have L:=Gd.oZ (t:=a) (b:=(b:Int)) (d:=Gd.gd a b) (by lia) (.inl ⟨rfl,by lia⟩);have M:=Gd.mH (t:=a) (b:=(b:Int)) (d:=Gd.gd a b) (by lia) (.inl ⟨rfl,by lia⟩);obtain⟨e1,e2⟩:=cX (by lia) L;rw[e1,e2,Pu,Pu] at M;exact⟨Pj M.1 ha,Pj M.2 hb⟩
def Tb.add{E:Nat}(hx:Tb A B x)(hy:Tb C D y)(h1:A+D<=E)(h2:C+B<=E):Tb (E+1) (B+D) (x+y):=by
 rw[<- Fr.rq,<- Qj];refine Tb.of ?_ ?_ (Qa (P5 x.den_nz) (P5 y.den_nz))
 .refine Pj (Ts _ _) ?_;rw[P2,P2,Pu,Pu,QW,Nat.mul_two];refine YV (Pj (PX hx.1 hy.2) ?_) (Pj (PX hy.1 hx.2) ?_)
  .rw[<- QU];exact Ph (by decide) h1
  .rw[<- QU];exact Ph (by decide) h2
 .rw[QU];exact PX hx.2 hy.2
def Tb.nat{C:Nat}{n:Nat}(hx:Tb A B x)(hn:n<=2 ^ C):Tb (A+C) B (x*(n:Rat)):=by
 have e:x*(n:Rat)=PH (x.num*(n:Int)) ((x.den:Nat):Int):=by
  conv=>lhs;rw[<- Qk x]
  rw[show((n:Nat):Rat)=PH (n:Int) 1 from(Qk ((n:Nat):Rat)).symm,Q6,Yp]
 rw[e];refine Tb.of ?_ hx.2 (P5 x.den_nz);rw[P2,Pu,QU];exact PX hx.1 hn
def Tb.up{C D:Nat}(h:Tb A B x)(h1:A<=C)(h2:B<=D):Tb C D x:=⟨Pj h.1 (Ph (by decide) h1),Pj h.2 (Ph (by decide) h2)⟩
def KG(pa:cr ts){k:Nat}{t:Tn}(ht:ts[k]?=some t):Bl 34 (bW ts k)/\0<bW ts k:=by
 obtain⟨q0,d0,_,ql,dl⟩:=pa t (O7 ht);have e:bW ts k=PH t.q t.d:=by unfold bW;rw[ht]
 rw[e,show t.q=((t.q.natAbs:Nat):Int) by lia,show t.d=((t.d.natAbs:Nat):Int) by lia];refine⟨Bl.of (by lia) (by lia) (by lia),?_⟩;rw[RE];exact Rv (by exact_mod_cast (by lia:0<t.q.natAbs)) (RT.mpr (by exact_mod_cast (by lia:0<t.d.natAbs)))
def Ob{x:Rat}(h:0<x):x⁻¹.num=(x.den:Int)/\((x⁻¹.den:Nat):Int)=x.num:=by
 have p:=Ev.nump h;have n:=RS.mpr (RO h);have e:x⁻¹=PH (x.den:Int) x.num:=by rw[<- VH,Qk]
 obtain⟨e1,e2⟩:=cX (t:=(x.den:Int)) (b:=x.num) (q:=(x.den:Int)) (d:=x.num) (by lia) ⟨by lia,by
  unfold Gd.gd
  rw[Int.gcd_comm,show W7 x.num (x.den:Int)=P4 x.num.natAbs x.den from rfl,x.reduced]
  rfl,rfl⟩
 rw[e];exact⟨e1.symm,e2.symm⟩
def yZ(F:List Nat):(ni F).map QM=F:=by
 unfold ni;rw[Qz];exact(Q3 λn _=>Qc n).trans (List.map_id _)
def IG(vo:nh ws ts){t:Tn}(ht:t∈ts):∃F T,t.fr=ni F/\t.to=ni T/\F.length=ws.length/\T.length=ws.length/\(∀f∈F,f<=3)/\∀f∈T,f<=3:=by
 obtain⟨hs,po,_,tk⟩:=vo.turns
 have g:∀{r:List Int},r.length=ws.length/\(∀x∈r,0<=x/\x<=3)->∃F,r=ni F/\F.length=ws.length/\∀f∈F,f<=3:=λ{r} h=>by
  obtain⟨F,e⟩:=Dy λx hx=>(h.2 x hx).1
  refine⟨F,e.symm,by rw[<- h.1,<- e,Gn.bQ],λf hf=>?_⟩
  have:=(h.2 (f:Int) (by rw[<- e];unfold ni;exact Pl.mpr ⟨f,hf,rfl⟩)).2
  lia
 obtain⟨F,e1,l1,b1⟩:=g (po.2 _ (tk.ok t ht).1);obtain⟨T,e2,l2,b2⟩:=g (po.2 _ (tk.ok t ht).2.1);exact⟨F,T,e1,e2,l1,l2,b1,b2⟩
abbrev Hn(ts:List Tn)(h:Nat):List Nat:=((aF ts).getD h []).map QM
def ML{ts:List Tn}{k:Nat}{t:Tn}(ht:ts[k]?=some t){T:List Nat}(e1:t.fr=ni F)(e2:t.to=ni T):Hn ts (fro (am ts) k)=F/\Hn ts (tow (am ts) k)=T:=by
 obtain⟨g1,g2,_⟩:=Pw.mS ht;have m:=du (hs:=[]) (O7 ht);unfold Hn;rw[g1,g2,Lc.ju m.1,Lc.ju m.2,e1,e2,yZ,yZ];exact⟨rfl,rfl⟩
abbrev gT(ts:List Tn)(cs:List Nat)(k:Nat):Rat:=bW ts k*((dA cs (Hn ts (fro (am ts) k)):Nat):Rat)
abbrev cT (ts:List Tn) (cs:List Nat) (k:Nat):Rat:=bW ts k*(sW (am ts) (Wt ts) k)⁻¹ * ((dA cs (Hn ts (tow (am ts) k)):Nat):Rat)
def mG(f:Nat->Rat)(i:Nat):ls (Pi (i+1)) f=ls (Pi i) f+f i:=by
 rw[Rr,ky,aV,oX,RN]
def qI{f:Nat->Rat}{n:Nat}(h:∀k,k<n->Tb 3200 1100 (f k)):∀i,i<=n->Tb (3200+1101*i) (1100*i) (ls (Pi i) f)
 |0,_=>⟨Ql _,Pa _⟩
 |i+1,hi=>by
  rw[mG];exact((qI h i (by lia)).add (h i (by lia)) (E:=3200+1101*i+1100) (by lia) (by lia)).up (by lia) (by lia)
def yD(hx:Tb A B x)(hy:Tb C D y)(h1:A+D<13499)(h2:C+B<13499)(h3:B+D<13500):x.num.natAbs*y.den<2 ^ 13499/\y.num.natAbs*x.den<2 ^ 13499/\x.den*y.den<2 ^ 13500:=by
 refine⟨Pk (PX hx.1 hy.2) ?_,Pk (PX hy.1 hx.2) ?_,Pk (PX hx.2 hy.2) ?_⟩ <;> rw[<- QU]
 .exact Qd (by decide) h1
 .exact Qd (by decide) h2
 .exact Qd (by decide) h3
def m9{t:Tn}{c:List Int}{i:Nat}{m1 m2 m3:Int}(f1:t.fr[i]?=some m1)(f2:t.to[i]?=some m2)(f3:c[i]?=some m3):(beh (t.to,t.fr) c)[i]?=some (m3-m2+m1):=AI (t:=⟨t.to,t.fr,t.q,t.d⟩) f2 f1 f3
def pU:∀{F T C:List Nat} {i f t c:Nat},F[i]?=some f->T[i]?=some t->C[i]?=some c->(iq F T C)[i]?=some (c-t+f)
 |_ :: _,_ :: _,_ :: _,0,_,_,_,h1,h2,h3=>by cases h1;cases h2;cases h3;rfl
 |_ :: F,_ :: T,_ :: C,i+1,_,_,_,h1,h2,h3=>pU (F:=F) (T:=T) (C:=C) (i:=i) h1 h2 h3
 |[],_,_,_,_,_,_,h,_,_=>by simp at h
 |_ :: _,[],_,_,_,_,_,_,h,_=>by simp at h
 |_ :: _,_ :: _,[],_,_,_,_,_,_,h=>by simp at h
def m_:∀{F T C:List Nat},F.length=C.length->T.length=C.length->(iq F T C).length=C.length
 |[],_,[],_,_=>by unfold iq;rfl
 |_ :: _,[],_,h1,h2=>by rw[<- h2] at h1;cases h1
 |f :: F,t :: T,c :: C,h1,h2=>congrArg (· + 1) (m_ (F:=F) (T:=T) (C:=C) (Qh h1) (Qh h2))
def gM{C:List Nat}{i c:Nat}(h:C[i]?=some c):(ni C)[i]?=some (c:Int):=by unfold ni;rw[O4,h];rfl
def ut{t:Tn}{T C:List Nat}(e1:t.fr=ni F)(e2:t.to=ni T)(l1:F.length=C.length)(l2:T.length=C.length)(h:∀(i t c:Nat),T[i]?=some t->C[i]?=some c->t<=c):beh (t.to,t.fr) (ni C)=ni (iq F T C):=by
 refine Sy λi=>?_
 by_cases li:i<C.length
 .have hc:C[i]?=some C[i]:=O1 li;have hf:F[i]?=some F[i]:=O1 (by lia);have ht:T[i]?=some T[i]:=O1 (by lia)
  have:=h i _ _ ht hc
  rw[m9 (by rw[e1];exact gM hf) (by rw[e2];exact gM ht) (gM hc),gM (pU hf ht hc)];congr 1;lia
 .rw[PY (by rw[AH,Gn.bQ];lia),PY (by rw[Gn.bQ,m_ l1 l2];lia)]
def AG{t:Tn}{T C:List Nat}(e1:t.fr=ni F)(e2:t.to=ni T)(l1:F.length=C.length)(l2:T.length=C.length)(h:∀(i t c:Nat),T[i]?=some t->C[i]?=some c->t<=c):beh (pr t) (ni (iq F T C))=ni C:=by
 refine Sy λi=>?_
 by_cases li:i<C.length
 .have hc:C[i]?=some C[i]:=O1 li;have hf:F[i]?=some F[i]:=O1 (by lia);have ht:T[i]?=some T[i]:=O1 (by lia)
  have:=h i _ _ ht hc
  rw[AI (t:=t) (by rw[e1];exact gM hf) (by rw[e2];exact gM ht) (gM (pU hf ht hc)),gM hc];congr 1;lia
 .rw[PY (by rw[AH,Gn.bQ,m_ l1 l2];lia),PY (by rw[Gn.bQ];lia)]
def Ay{t:Tn}{T C:List Nat}(e1:t.fr=ni F)(e2:t.to=ni T)(l1:F.length=C.length)(l2:T.length=C.length)(h:pJ (pr t) (beh (t.to,t.fr) (ni C))=true)(i p c:Nat)(hT:T[i]?=some p)(hC:C[i]?=some c):p<=c:=by
 have li:=(O3.mp hC).1;have hF:F[i]?=some F[i]:=O1 (by lia);have b:=m9 (t:=t) (by rw[e1];exact gM hF) (by rw[e2];exact gM hT) (gM hC);unfold pJ at h
 have:=UI.mp h ((F[i]:Int),(c:Int)-(p:Int)+(F[i]:Int)) (List.mem_iff_getElem?.mpr ⟨i,by rw[RJ];exact⟨by show t.fr[i]? = _;rw[e1];exact gM hF,b⟩⟩)
 have:=of_decide_eq_true this
 lia
def FB{t:Tn}{T C:List Nat}(e1:t.fr=ni F)(l1:F.length=C.length)(l2:T.length=C.length):pJ (pr t) (ni (iq F T C))=true:=by
 unfold pJ;refine UI.mpr λz hz=>?_
 obtain⟨i,hi⟩:=P_ hz;obtain⟨a,b⟩:=RJ.mp hi;have a:t.fr[i]?=some z.1:=a;rw[e1] at a;unfold ni at a;rw[O4] at a;obtain⟨f,hf,ef⟩:=Pb.mp a;have li:=(O3.mp hf).1;rw[gM (pU hf (O1 (by lia)) (O1 (by lia)))] at b
 have:=PD b
 exact decide_eq_true (by lia)
abbrev Gz(K:Fg):Sp:=λvs H Q _=>∃(v u:V) (ws:List Str) (ts:List Tn) (cs:List Nat),vs=[v,u]/\Rz K H v (dV ws ts)/\OO ws ts/\Rz K H u (dI (ni cs))/\cs.length=ws.length/\(∀c∈cs,c<10 ^ 40)/\∀H',Same H H'->Q (.bl true) H'
nonrec abbrev Gk(K:Fg):TS:=(av (aC (Gn.lH K) [] E0 (ae (aa 3) (ae (aC (Gn.iC K) [] E0 (ae (aC (Gn.sY K) [] E0 (ae (aa 0) (ae (aa 4) (ae (aa 8) aj)))) (ae (be (ae (aa 10) (ae (aa 9) aj))) aj))) aj))) (al 3))
nonrec abbrev Gj(K:Fg):TS:=(a8 (jR (aR (ar OS (b_ (J5 K) (ae (aa 8) aj)) (tC (.int 0)))) (tB (aC (Gx K) [] E0 (ae (ar (aD K) (ar (aD K) (aa 0) (tC (.int 1))) (aa 4)) (ae (aa 8) aj)))))
 (aq (av (aC (Gn.xL K) [] E0 (ae (aa 0) (ae (bU (ae (aa 4) aj)) (ae (aa 8) aj)))) (cg K 2 (aT (al 9) (aT (al 10) ci))))
 (Gk K))
 bw)
nonrec abbrev Gi(K:Fg):TS:=(aq (av (b_ (cz K) (ae (fS (DW K (ae (aa 5) (ae (aa 6) (ae (aa 1) aj)))) 3 (cg K 3 (aT (al 0) (aT (al 1) (aT (al 2) ci)))) (ar aX (ar hX (aa 2) (aa 1)) (aa 0))) aj)) (al 8))
 (Gj K))
nonrec abbrev Gh(K:Fg):TS:=(aq (av (ar (aD K) (ar (aD K) (aa 0) (tC (.int 1))) (aa 4)) (cg K 3 (aT (al 5) (aT (al 6) (aT (al 7) ci)))))
 (aq (av (aC (Gn.lH K) [] E0 (ae (aa 2) (ae (aC (Gn.sY K) [] E0 (ae (aa 0) (ae (aa 4) (ae (aa 1) aj)))) aj))) (al 2))
 (Gi K)))
abbrev Gm(K:Fg):TS:=(aq (av (be (ae (tC (.int 0)) (ae (tC (.int 1)) aj))) (al 2))
 (aq (av (be (ae (tC (.int 0)) (ae (tC (.int 1)) aj))) (al 3))
 (aq (a5 (cw (ae (b_ (cH K) (ae (ar (aD K) (aa 0) (tC (.int 1))) aj)) aj)) (al 4)
 (Gh K))
 (aI (ar (Ho K) (aa 2) (aa 3))))))
def JY{K:Fg}:ρ 11 (Gz K) (Gm K):=by
 fail "R";obtain⟨v,u,ws,ts,cs,rfl,rv,ev,ru,lc,cb,k⟩:=h;obtain⟨pv,w1,w2,rfl,hv,r1,r2⟩:=si rv;obtain⟨c,rfl,hc⟩:=bN ru;rw[L2.aP hN];walk_at "t";obtain⟨vb,ys,rfl,hvb,ry⟩:=r2.cF;have ly:ys.length=ts.length:=by rw[ry.length,O0]
 have vo:=ev.vo;obtain⟨o,n0⟩:=Ed vo;have af:=ev.af;have t8:=o.co.le;have w5:=vo.w5;have pa:=o.pa;have bk:∀e∈am ts,Rch (am ts) e.2 e.1:=λe he=>by obtain⟨j,hj⟩:=P_ he;exact af j e.1 e.2 hj
 have le:(am ts).length=ts.length:=by unfold am;rw[O0]
 have Wp:∀k,k<(aF ts).length->0<Wt ts k:=λk hk=>gL.mp (jC o.pa bk hk)
 have wb:Wb ts:=λh hh=>Es o.pa t8 o.h8 hh
 have gB:∀k,k<ts.length->0<sW (am ts) (Wt ts) k/\Bl 1024 (sW (am ts) (Wt ts) k):=λk hk=>by
  obtain⟨o1,o2⟩:=bO ts _ (rZ (es:=am ts) (k:=k) (by lia));exact⟨Rv (Wp _ o2) (RT.mpr (Wp _ o1)),(show Bl 512 _ from wb _ o2).mul ((show Bl 512 _ from wb _ o1).inv (Wp _ o1)) (Wp _ o2) (RT.mpr (Wp _ o1))⟩
 have t40:(10:Nat) ^ 40=10000000000000000000000000000000000000000:=by decide
 have t134:(2:Nat) ^ 134=21778071482940061661655974875633165533184:=by decide
 have Z4:∀c∈cs,c<2 ^ 134:=λc hc=>by have:=cb c hc;lia
 have l5:cs.length<=5:=by lia
 have gb:∀k,k<ts.length->Tb 3200 1100 (gT ts cs k)/\Tb 3200 1100 (cT ts cs k):=λk hk=>by
  have ht:ts[k]?=some ts[k]:=O1 hk;obtain⟨F,T,e1,e2,l1,l2,b1,b2⟩:=IG vo (O7 ht);obtain⟨h1,h2⟩:=ML ht e1 e2;obtain⟨p1,p2⟩:=KG pa ht;obtain⟨s1,s2⟩:=gB k hk;unfold gT cT;rw[h1,h2];exact⟨(Tb.nat (A:=34) (B:=34) p1 (Ab l5 Z4 b1)).up (by decide) (by decide),(Tb.nat (A:=34+1024) (B:=34+1024) (p1.mul (s2.inv s1) p2 (RT.mpr s1)) (Ab l5 Z4 b2)).up (by decide) (by decide)⟩
 unfold Gm;cbv;refine⟨aM,λg0 ng0=>?_⟩;have S1:=ak ng0 (.tup [.int 0,.int 1]);have rg1:Rz K (upd H g0 (.tup [.int 0,.int 1])) (.ref g0) (dQ 0):=.tup ag (RpL.ints [0,1]);generalize upd H g0 (.tup [.int 0,.int 1])=H1 at S1 rg1 ⊢;cbv;refine⟨aM,λd0 nd0=>?_⟩;have S2:=ak nd0 (.tup [.int 0,.int 1]);have rd1:Rz K (upd H1 d0 (.tup [.int 0,.int 1])) (.ref d0) (dQ 0):=.tup ag (RpL.ints [0,1]);generalize upd H1 d0 (.tup [.int 0,.int 1])=H2 at S2 rd1 ⊢;have S02:=S1.trans S2;cbv;refine aG (SqT.of (S02 _ _ hv)) (v:=.ref vb) rfl ?_;cbv;refine o_ (SqT.of (S02 _ _ hvb)) ?_;rw[ly];refine⟨ts.length,rfl,by lia,by lia,?_⟩;refine aW (n:=ts.length) (λm σ H3=>∃(a b:V) (u4 u5 u6 u7 u8 u9 u10:Option V),σ=[⇑pv,⇑c,some a,some b,u4,u5,u6,u7,u8,u9,u10]/\Same H2 H3/\Rz K H3 a (dQ (ls (Pi m) (gT ts cs)))/\Rz K H3 b (dQ (ls (Pi m) (cT ts cs)))) ⟨_,_,none,none,none,none,none,none,none,rfl,Same.refl _,rg1.same S2,rd1⟩ ?_ ?_
 .rintro m σ H3 hm ⟨a,b,u4,u5,u6,u7,u8,u9,u10,rfl,S3,ra,rb⟩;rw[SD];have ht:ts[m]?=some ts[m]:=O1 hm;generalize ts[m]=t at ht;obtain⟨F,T,e1,e2,l1,l2,b1,b2⟩:=IG vo (O7 ht);obtain⟨h1,h2⟩:=ML ht e1 e2;obtain⟨yt,et,rt⟩:=ry.get' (i:=m) (d:=dT t) (by rw[O4,ht];rfl);have S03:=S02.trans S3;have rt3:=rt.same S03;obtain⟨at_,w1,w2,w3,rfl,hat,q1,q2,q3⟩:=kc rt3;obtain⟨fr,rfl,hf⟩:=bN q1;obtain⟨to,rfl,hg⟩:=bN q2;obtain⟨gb1,gb2⟩:=gb m hm;cbv;refine aG (SqT.of (S03 _ _ hv)) (v:=.ref vb) rfl ?_;cbv;refine aG (SqT.of (S03 _ _ hvb)) (v:=.ref at_) (aO et) ?_;refine bI (SqT.of hat) rfl ?_;cbv;refine⟨.ref pv,.ref c,m,ws,ts,t,F,cs,rfl,rv.same S03,ru.same S03,ht,e1,by lia,l5,b1,Z4,pa,t8,λp H4 S4 r4=>?_⟩;cbv;obtain⟨m1,m2,m3⟩:=yD (qI (λk hk=>(gb k hk).1) m (by lia)) gb1 (by lia) (by lia) (by lia);have er:bW ts m*((dA cs F:Nat):Rat)=gT ts cs m:=by unfold gT;rw[h1]
  rw[er] at r4;refine⟨_,_,_,_,rfl,.of (ra.same S4),.of r4,m1,m2,m3,λp5 H5 S5 r5=>?_⟩;rw[<- mG] at r5;clear m1 m2 m3;have S45:=S4.trans S5;have S05:=S03.trans S45;have lb:=AH (t.to,t.fr) (ni cs);have nc:(ni cs).length=cs.length:=Gn.bQ;cbv;refine Fc ?_;cbv;refine⟨fr,to,c,_,_,_,rfl,SqT.of (S45 _ _ hf),SqT.of (S45 _ _ hg),SqT.of (S05 _ _ hc),?_⟩;refine pG (xs:=t.fr.map V.int) (ys:=t.to.map V.int) (zs:=(ni cs).map V.int) (m:=cs.length) (by rw[O0,e1,Gn.bQ];lia) (by rw[O0,e2,Gn.bQ];lia) (by rw[O0,nc]) λD nD=>⟨λi H6=>AccZ K H5 D H6 (((beh (t.to,t.fr) (ni cs)).take i).map Qm),by simpa using AccZ.start (Same.refl _) nD,λi H6 _ A=>⟨SqT.of (A.same _ _ (S45 _ _ hf)),SqT.of (A.same _ _ (S45 _ _ hg)),SqT.of (A.same _ _ (S05 _ _ hc))⟩,?_,?_⟩
  .intro i x y u H6 T e1 e2 e3 A nT us hu
   obtain⟨u1,u2,u3,rfl⟩:∃u0 u1 u2,us=[u0,u1,u2]:=by
    match us,hu with
    |[u0,u1,u2],_=>exact⟨u0,u1,u2,rfl⟩
   rw[O4] at e1 e2 e3;obtain⟨m1,f1,rfl⟩:=Pb.mp e1;obtain⟨m2,f2,rfl⟩:=Pb.mp e2;obtain⟨m3,f3,rfl⟩:=Pb.mp e3;have li:i<(ni cs).length:=(O3.mp f3).1;have ec:=m9 f1 f2 f3;refine bI (SqT.of ag) rfl ?_;cbv;refine⟨⟨[↥m1,↥m2,↥m3],rfl,rfl⟩,?_⟩;cbv;refine a6 (by lia) ?_;refine(A.on (ak nT _)).cI (.int _) (au (by rw[O0,Px];lia)) λH7 A7=>?_
   show AccZ K H5 D H7 (((beh (t.to,t.fr) (ni cs)).take (i+1)).map Qm);rw[Ps,ec,O_];exact A7
  .intro H6 A;rw[Pc (by lia)] at A;cbv;refine eG (SqL.of (AccZ.ints A)) λp np=>?_
   have S6:=A.same.trans (ak np (.tup ((beh (t.to,t.fr) (ni cs)).map V.int)));have hp:upd H6 p (.tup ((beh (t.to,t.fr) (ni cs)).map V.int)) p=some (.tup ((beh (t.to,t.fr) (ni cs)).map V.int)):=ag;clear A;generalize upd H6 p (.tup ((beh (t.to,t.fr) (ni cs)).map V.int))=H7 at S6 hp ⊢;have rp:Rz K H7 (.ref p) (dI (beh (t.to,t.fr) (ni cs))):=.tup hp (RpL.ints _);have S07:=S05.trans S6;have S27:=S3.trans (S45.trans S6)
   have no : ¬ (∀(i p c:Nat),T[i]?=some p->cs[i]?=some c->p<=c)->Rz K H7 b (dQ (ls (Pi (m+1)) (cT ts cs))):=λz=>by
    have z:dA cs T=0:=Sn λz2=>z λi p c h3 h4=>Sn λz3=>z2 (uc h3 h4 (by lia))
    rw[mG,show cT ts cs m=0 by unfold cT;rw[h2,z];exact WA _,RN];exact(rb.same S45).same S6
   cbv;refine⟨p,_,rfl,SqT.of hp,λz=>?_,λlo hlo mlo=>?_⟩
   .rw[Qq (l:=cs) (by rw[z] at lb;simp at lb;lia)] at lc
    have:=vo.w1
    simp at lc;lia
   have hor : ¬ (0<=lo)\/pJ (pr t) (beh (t.to,t.fr) (ni cs))=false->Rz K H7 b (dQ (ls (Pi (m+1)) (cT ts cs))):=λz=>no λh=>by
    have e:=ut e1 e2 (by lia) (by lia) h;rcases z with z|z
    .rw[e] at hlo;unfold ni at hlo;obtain⟨x,_,rfl⟩:=Pl.mp hlo;lia
    .rw[e,FB e1 (by lia) (by lia)] at z;cases z
   cbv;refine a9 (λz=>?_) (λz=>?_)
   .cbv;refine aG (SqT.of (S07 _ _ hv)) (v:=.ref vb) rfl ?_;cbv;refine aG (SqT.of (S07 _ _ hvb)) (v:=.ref at_) (aO et) ?_;cbv;refine⟨.ref at_,.ref p,t,_,rfl,rt.same S07,rp,by rw[e1,Gn.bQ];lia,λH8 S8=>?_⟩;cbv;cases hcan:pJ (pr t) (beh (t.to,t.fr) (ni cs))
    .cbv;exact⟨_,_,_,_,_,_,_,_,_,rfl,S27.trans S8,(r5.same S6).same S8,(hor (.inr hcan)).same S8⟩
    .cbv;have eA:=ut e1 e2 (by lia) (by lia) (Ay e1 e2 (by lia) (by lia) hcan);have eB:=AG e1 e2 (by lia) (by lia) (Ay e1 e2 (by lia) (by lia) hcan);have bo:=λ{p s:Rat} s0 {g k} hg=>Er (p:=p) (s:=s) (F:=F) (T:=T) (C:=cs) s0 (by lia) (by lia) (Ay e1 e2 (by lia) (by lia) hcan) (g:=g) (k:=k) hg
     have lA:(iq F T cs).length=cs.length:=m_ (by lia) (by lia);have cD:=FB (T:=T) (C:=cs) e1 (by lia) (by lia)
     have nA:∀j a c,(iq F T cs)[j]?=some a->cs[j]?=some c->a-c<=3/\c-a<=3:=λj a c h3 h4=>by
      have lj:=(O3.mp h4).1;have g1:F[j]?=some F[j]:=O1 (by lia);have g2:T[j]?=some T[j]:=O1 (by lia);rw[pU g1 g2 h4] at h3
      have:=PD h3
      have:=b1 _ (O7 g1)
      have:=b2 _ (O7 g2)
      lia
     rw[eA] at rp;generalize iq F T cs=A at eA eB bo lA cD nA rp
     have A134:∀a∈A,a<2 ^ 134:=λa ha=>by
      obtain⟨j,hj⟩:=P_ ha;have lj:=(O3.mp hj).1;have h4:cs[j]?=some cs[j]:=O1 (by lia)
      have:=nA j _ _ hj h4
      have:=cb _ (O7 h4)
      lia
     have nr:Nr 134 3 A cs:=⟨lA,by lia,by decide,by decide,A134,Z4,nA⟩
     refine⟨gA,λl nl=>?_⟩;have S9:=S8.trans (ak nl (.lst [.int (m:Int)]));have hl:upd H8 l (.lst [.int (m:Int)]) l=some (.lst ((ni [m]).map V.int)):=ag;generalize upd H8 l (.lst [.int (m:Int)])=H9 at S9 hl ⊢;have S09:=S07.trans S9;cbv;refine⟨.ref pv,.ref p,l,ws,ts,ws.length,[m],A,cs,134,3,rfl,rv.same S09,o,af,ev.on,wb,hl,rp.same S9,?_,⟨by rw[O0];exact hm,by rw[mQ ht];exact cD,trivial⟩,by show Dn.beh ((ts.map Dn.pr).getD m ([],[])) (ni A)=_;rw[mQ ht];exact eB,nr,by show 1024*1+5*(134*3)<=13000;decide,λg H10 S10 rg=>?_⟩
     .intro x hx;obtain⟨F',T',e3,e4,l3,l4,_⟩:=IG vo hx;rw[e3,e4,Gn.bQ,Gn.bQ];lia
     obtain⟨p1,p2⟩:=KG pa ht;obtain⟨s1,s2⟩:=gB m hm;have bg:=Oh (g:=sW (am ts) (Wt ts)) (R:=[m]) (λk hk=>by rw[Po.mp hk];exact gB m hm) nr;have bo:=bo (p:=bW ts m) (s:=sW (am ts) (Wt ts) m) (Rat.ne_of_gt s1) (g:=sW (am ts) (Wt ts)) (k:=m) rfl;have by1:=(Tb.nat (A:=34) (B:=34) p1 (Ab (C:=A) (F:=F) (by lia) A134 b1))
     generalize gn (sW (am ts) (Wt ts)) [m] A cs=γ at rg bg bo;obtain⟨i1,i2⟩:=Ob bg.1;have S0a:=S09.trans S10;obtain⟨gq,eg,hgq⟩:=QV.of rg;cases eg;refine bI hgq rfl ?_;cbv;refine⟨.ref pv,.ref p,m,ws,ts,t,F,A,rfl,rv.same S0a,(rp.same S9).same S10,ht,e1,by lia,by lia,b1,A134,pa,t8,λy Z9 S11 r11=>?_⟩;cbv;refine⟨aM,λz nz=>?_⟩;have S12:=S11.trans (ak nz (.tup [.int (γ.den:Int),.int γ.num]));have r12:=r11.same (ak nz (.tup [.int (γ.den:Int),.int γ.num]));have hz:QV K (upd Z9 z (.tup [.int (γ.den:Int),.int γ.num])) (.ref z) γ⁻¹:=⟨z,rfl,by rw[i1,i2];exact SqT.of ag⟩
     generalize upd Z9 z (.tup [.int (γ.den:Int),.int γ.num])=H12 at S12 r12 hz ⊢;have mul:∀{x y:Nat},x<=2 ^ 2044->y<=2 ^ 3034->x<2 ^ 20000/\y<2 ^ 20000/\x*y<2 ^ 13500:=λ{x y} hx hy=>⟨DC hx (by decide),DC hy (by decide),Pk (PX hx hy) (by rw[<- QU];exact Qd (by decide) (by decide))⟩
     have bi:Bl 3034 γ⁻¹:=bg.2.inv bg.1;have by2:Tb 2044 34 _:=by1;obtain⟨m1,m2,m3⟩:=mul by2.1 bi.1;obtain⟨m4,m5,m6⟩:=mul (Pj by2.2 (Ph (by decide) (by decide))) bi.2;clear mul by1 by2 bi;cbv;refine⟨_,_,_,_,rfl,.of r12,hz,⟨m1,m2⟩,⟨by rw[Pu];exact m4,by rw[Pu];exact m5⟩,by rw[P2];exact m3,by rw[<- Qj,Pu];exact m6,λx H13 S13 r13=>?_⟩;clear m1 m2 m3 m4 m5 m6;rw[bo,show bW ts m*(sW (am ts) (Wt ts) m)⁻¹ * ((dA cs T:Nat):Rat)=cT ts cs m by unfold cT;rw[h2]] at r13;have S7d:=S9.trans (S10.trans (S12.trans S13));obtain⟨m1,m2,m3⟩:=yD (qI (λk hk=>(gb k hk).2) m (by lia)) gb2 (by lia) (by lia) (by lia);cbv;refine⟨_,_,_,_,rfl,.of (((rb.same S45).same S6).same S7d),.of r13,m1,m2,m3,λx2 H14 S14 r14=>?_⟩;rw[<- mG] at r14;cbv;exact⟨_,_,_,_,_,_,_,_,_,rfl,S27.trans (S7d.trans S14),((r5.same S6).same S7d).same S14,r14⟩
   .cbv;exact⟨_,_,_,_,_,_,_,_,_,rfl,S27,r5.same S6,hor (.inl z)⟩
 .rintro σ H3 ⟨a,b,u4,u5,u6,u7,u8,u9,u10,rfl,S3,ra,rb⟩;have e:=vn Wp λh=>((dA cs (Hn ts h):Nat):Rat)
  rw[le] at e;have e:ls (Pi ts.length) (gT ts cs)=ls (Pi ts.length) (cT ts cs):=e;rw[e] at ra;cbv;refine N4 ra.rep rb.rep rfl rfl (λ_=>k _ (S02.trans S3)) (λz=>absurd rfl z)
end Gn
namespace K89
open PySem L2 Fr G1 Sm Vs G2 Rk Sz Sf Rw Ti Lo Lc Tr Pw Dn Wd Gn
open PySem.W (Dat kqdOk)
open K89H
structure Cn (K:Fg) (mg:Str->Option O6) (nq oq:Addr):Prop where
 NOUGHT:mg "NOUGHT"=⇑nq
 ONE:mg "ONE"=⇑oq
 zero:∀H:Hp,SqT K H nq [.int 0,.int 1]
 one:∀H:Hp,SqT K H oq [.int 1,.int 1]
nonrec abbrev F9(K:Fg):TS:=(a8 (iL (tB (aC (Gn.Gz K) [] E0 (ae (aa 1) (ae (aC (Gn.xG K) [] E0 (ae (aa 0) (ae (aa 2) (ae (b_ (cH K) (ae (ar (aD K) (aa 1) (tC (.int 0))) aj)) aj)))) aj)))))
 (aI (tC (.bl false)))
 bw)
nonrec abbrev F8(K:Fg):TS:=(aq (a8 (aR (ar J3 (ar (aD K) (aC (Pw.tm K) [] E0 (ae (aa 1) aj)) (tC (.int 0))) (tC (.bl true))))
 (aI (tC (.bl false)))
 bw)
 (aq (a5 (cx K (bU (ae (tC (.int 16)) (ae (tC (.int 18)) aj)))) (al 2)
 (F9 K))
 (aI (tC (.bl true)))))
abbrev F_(K:Fg):TS:=(aq (av (aC (Gn.Gy K) [] E0 (ae (aa 0) (ae (tC (.int 0)) aj))) (al 1))
 (F8 K))
def JR{K:Fg} {vs:List V}    (h:spLaw K vs H Q E):F_ K (ends Q) (L2.start ["_law_script","_law_vessel_here","_law_at"] vs) H:=by
 obtain⟨a,ns,rfl,hS,l63,k⟩:=h;rw[show L2.start ["_law_script","_law_vessel_here","_law_at"] [.ref a]=[⇑a,none,none] from rfl];unfold F_;cbv;refine⟨a,ns,0,rfl,hS,by decide,λp H1 ws ts S1 ev rv=>?_⟩;have vo:=ev.vo;obtain⟨v1,v2,v3,e0,hv,r1,_⟩:=si rv;cases e0;obtain⟨vw,xs,rfl,hvw,rx⟩:=r1.cF;have lw:xs.length=ws.length:=by rw[rx.length,O0]
 have w5:=vo.w5;cbv;refine⟨.ref p,ws,ts,ws.length,rfl,rv,(Ed vo).1,λi x y q H2 h1 _ h3 _ _ _=>absurd (ev.af i x y h1) h3,λj m q r H2 _ h2 _ h4 _ _ _ _ _=>absurd (ev.on m (O7 h2)) h4,λq f ys H2 _ _ S2 _ _ hq _ _ _=>?_⟩;cbv;refine aG (SqT.of hq) (v:=.bl true) rfl ?_;cbv;refine⟨rfl,false,rfl,?_⟩;cbv;refine⟨aM,λl nl=>?_⟩;have S3:=S2.trans (ak nl (.lst [.int 16,.int 18]));have hl:upd H2 l (.lst [.int 16,.int 18]) l=some (.lst [.int 16,.int 18]):=ag;generalize upd H2 l (.lst [.int 16,.int 18])=H3 at S3 hl ⊢;refine⟨l,rfl,⟨_,SqL.of hl⟩,?_⟩;refine bn (xs:=[.int 16,.int 18]) (λi σ H4=>∃u2:Option V,σ=[⇑a,⇑p,u2]/\Same H3 H4) ⟨none,rfl,Same.refl _⟩ (by rintro i σ H4 _ ⟨_,_,S⟩;exact SqL.of (S _ _ hl)) ?_ ?_
 .rintro i x σ H4 hx ⟨u2,rfl,S4⟩
  obtain⟨t,rfl,ht⟩:∃t:Int,x=.int t/\0<=t:=by
   match i,hx with
   |0,h=>cases h;exact⟨16,rfl,by decide⟩
   |1,h=>cases h;exact⟨18,rfl,by decide⟩
  have S14:=S3.trans S4;cbv;refine aG (SqT.of (S14 _ _ hv)) (v:=.ref vw) rfl ?_;cbv;refine o_ (SqT.of (S14 _ _ hvw)) ?_;rw[lw];cbv;refine⟨a,ns,t,ws.length,rfl,(S1.trans S14).seq hS,ht,w5,λpc H5 cs S5 lc bc rc=>?_⟩;cbv;refine⟨.ref p,.ref pc,ws,ts,cs,rfl,(rv.same S14).same S5,ev,rc,lc,bc,λH6 S6=>?_⟩;cbv;exact⟨_,rfl,S4.trans (S5.trans S6)⟩
 .rintro σ H4 ⟨u2,rfl,S4⟩;cbv;exact k _
def Ch:ay ["value"] ["value"] (ao (top 8)):=by walk_at "s"
def fH:ay ["one","two","rest"] ["one","two"] (ao (top 9)):=by walk_at "s"
def rn:ay ["top","bottom","divisor"] ["top","bottom"] (ao (top 10)):=by walk_at "s"
def GI:ay ["one","two"] ["one","two"] (ao (top 11)):=by walk_at "s"
def Ci:ay ["one","two"] ["one","two"] (ao (top 12)):=by walk_at "s"
def jX:ay ["row","place","number"] ["row"] (ao (top 14)):=by walk_at "s"
def qZ:ay ["size","own"] ["size","own"] (ao (top 15)):=by walk_at "s"
def nW:ay ["size"] ["size"] (ao (top 16)):=by walk_at "s"
def gD:ay ["row","divisor","number"] ["row"] (ao (top 17)):=by walk_at "s"
def x5:ay ["row","place","divisor"] ["row"] (ao (top 18)):=by walk_at "s"
def uU:ay ["row","stairs","stair","place"] ["row","stairs"] (ao (top 19)):=by walk_at "s"
def xZ:ay ["rows","stairs","free","makers","units","place","row","rest"] ["rows"] (ao (top 20)):=by walk_at "s"
def g9:ay ["rows"] ["rows"] (ao (top 21)):=by walk_at "s"
def rm:ay ["turnings","found","turning"] ["turnings"] (ao (top 24)):=by walk_at "s"
def Co:ay ["vessel"] ["vessel"] (ao (top 25)):=by walk_at "s"
def lT:ay ["vessel","number","turnings"] ["vessel","number"] (ao (top 26)):=by walk_at "s"
def iY:ay ["vessel","numbers","number","heap"] ["vessel"] (ao (top 28)):=by walk_at "s"
def n4:ay ["things","thing"] ["things","thing"] (ao (top 29)):=by walk_at "s"
def GJ:ay ["vessel","firsts","one","two","lesser","greater"] ["vessel"] (ao (top 30)):=by walk_at "s"
def lY:ay ["vessel","number"] ["vessel","number"] (ao (top 31)):=by walk_at "s"
def GH:ay ["vessel","one","two","ends","roads","come_to","place","here","number","end"] ["vessel","one","two"] (ao (top 32)):=by walk_at "s"
def i3:ay ["vessel","number","end"] ["vessel"] (ao (top 33)):=by walk_at "s"
def n9:ay ["number","told_lots"] ["number","told_lots"] (ao (top 35)):=by walk_at "s"
def ou:ay ["vessel","told_lots"] ["vessel"] (ao (top 36)):=by walk_at "s"
def nZ:ay ["number","divisor","often"] ["number","divisor"] (ao (top 38)):=by walk_at "s"
def Cj:ay ["one","two","divisor","first","second"] ["one","two"] (ao (top 39)):=by walk_at "s"
def dY:ay ["powers","number","place","power"] ["powers","number"] (ao (top 40)):=by walk_at "s"
def Cp:ay ["powers","told","left","power","place"] ["powers"] (ao (top 41)):=by walk_at "s"
def x4:ay ["number","often","product","again"] ["number","often"] (ao (top 42)):=by walk_at "s"
def lU:ay ["powers","top","bottom","number","often"] ["powers"] (ao (top 43)):=by walk_at "s"
def g7:ay ["ends","heap"] ["ends","heap"] (ao (top 46)):=by walk_at "s"
def Ck:ay ["ends","some","told","heap","longer","pick"] ["ends","some"] (ao (top 47)):=by walk_at "s"
def uS:ay ["ends","pick","heap","steps","number","start","here","step"] ["ends","pick","heap"] (ao (top 48)):=by walk_at "s"
def iW:ay ["turnings","pick","product","number"] ["turnings","pick"] (ao (top 49)):=by walk_at "s"
def jT:ay ["turnings","ends","lot","heap","weight","pick"] ["turnings","ends","lot","heap"] (ao (top 50)):=by walk_at "s"
def iV:ay ["vessel","ends","weights","lot","heap"] ["vessel"] (ao (top 51)):=by walk_at "s"
def uT:ay ["pieces","taken","product","less"] ["pieces","taken"] (ao (top 53)):=by walk_at "s"
def GG:ay ["vessel","number","count","turning","product","pieces","taken"] ["vessel","number","count"] (ao (top 54)):=by walk_at "s"
def jY:ay ["turning","count"] ["turning","count"] (ao (top 55)):=by walk_at "s"
def i5:ay ["turning","count"] ["turning","count"] (ao (top 56)):=by walk_at "s"
def xY:ay ["vessel","row","count","here","at","number","turning"] ["vessel","row","count"] (ao (top 57)):=by walk_at "s"
def g6:ay ["weights","row","powers","weight","often"] ["weights","row"] (ao (top 59)):=by walk_at "s"
def GL:ay ["vessel","astray","weights","row"] ["vessel"] (ao (top 60)):=by walk_at "s"
def i4:ay ["vessel","told"] ["vessel"] (ao (top 61)):=by walk_at "s"
def hE:ay ["vessel","row","size","ends","often","number","one","two"] ["vessel","row","size"] (ao (top 62)):=by walk_at "s"
def iZ:ay ["vessel","weights","row","ahead","behind","product","top","bottom","one","two"] ["vessel","weights","row","ahead","behind"] (ao (top 63)):=by walk_at "s"
def GK:ay ["vessel","row","count","weights"] ["vessel","row","count"] (ao (top 64)):=by walk_at "s"
def jV:ay ["_law_script","_law_k"] ["_law_script","_law_k"] (ao (top 66)):=by walk_at "s"
def om:ay ["_law_cell","_law_place","_law_number"] ["_law_cell","_law_place"] (ao (top 67)):=by walk_at "s"
def jU:ay ["_law_one","_law_two"] ["_law_one","_law_two"] (ao (top 68)):=by walk_at "s"
def lX:ay ["_law_top","_law_bottom","_law_by"] ["_law_top","_law_bottom"] (ao (top 69)):=by walk_at "s"
def n_:ay ["_law_number","_law_many","_law_letters","_law_found","_law_k","_law_first"] ["_law_number","_law_many"] (ao (top 70)):=by walk_at "s"
def rj:ay ["_law_cell","_law_k","_law_many","_law_top","_law_plain","_law_number","_law_found","_law_j"] ["_law_cell","_law_k","_law_many","_law_top","_law_plain"] (ao (top 71)):=by walk_at "s"
def q_:ay ["_law_script","_law_at","_law_many","_law_size","_law_top","_law_plain","_law_found","_law_k","_law_heap_here"] ["_law_script","_law_at","_law_many","_law_size","_law_top","_law_plain"] (ao (top 72)):=by walk_at "s"
def oj:ay ["_law_script","_law_at","_law_size","_law_kind","_law_plain","_law_found","_law_k","_law_after","_law_cell","_law_one","_law_step","_law_chosen","_law_two"] ["_law_script","_law_at","_law_size","_law_kind","_law_plain"] (ao (top 73)):=by walk_at "s"
def rf:ay ["_law_cell","_law_kind"] ["_law_cell","_law_kind"] (ao (top 74)):=by walk_at "s"
def lV:ay ["_law_script","_law_at","_law_number","_law_many","_law_top","_law_plain","_law_pool_here","_law_pairs_here","_law_rows","_law_k","_law_cell","_law_one","_law_two"] ["_law_script","_law_at"] (ao (top 75)):=by walk_at "s"
def re:ay ["_law_one","_law_two"] ["_law_one","_law_two"] (ao (top 78)):=by walk_at "s"
def oi:ay ["_law_one","_law_two"] ["_law_one","_law_two"] (ao (top 79)):=by walk_at "s"
def fV:ay ["_law_script","_law_at","_law_vessel_here","_law_number","_law_many","_law_weights","_law_k","_law_rows","_law_take","_law_give","_law_pace_here","_law_back","_law_stuff"] ["_law_script","_law_at"] (ao (top 80)):=by walk_at "s"
def g_:ay ["_law_script","_law_at","_law_number","_law_many","_law_size","_law_piles","_law_k","_law_heap_here","_law_rows","_law_cell"] ["_law_script","_law_at"] (ao (top 81)):=by walk_at "s"
def iX:ay ["_law_script","_law_at"] ["_law_script","_law_at"] (ao (top 82)):=by walk_at "s"
def ot:ay ["_law_cell","_law_many","_law_size","_law_found","_law_number","_law_k"] ["_law_cell","_law_many","_law_size"] (ao (top 83)):=by walk_at "s"
def uR:ay ["_law_turning","_law_count_here"] ["_law_turning","_law_count_here"] (ao (top 84)):=by walk_at "s"
def gC:ay ["_law_script","_law_at","_law_many","_law_size","_law_count_here"] ["_law_script","_law_at","_law_many"] (ao (top 86)):=by walk_at "s"
def jW:ay ["_law_vessel_here","_law_count_here","_law_goes","_law_comes","_law_k","_law_take","_law_give","_law_pace_here","_law_ahead","_law_top","_law_bottom"] ["_law_vessel_here","_law_count_here"] (ao (top 87)):=by walk_at "s"
def EI:ay ["_law_script","_law_vessel_here","_law_at"] ["_law_script"] (ao (top 88)):=by walk_at "s"
section
variable(P:P6)(w:Qp)(K:Fg)(mg:Str->Option O6)(base:Heap)(k:Nat)
nonrec abbrev nC:=FnC P w K mg base bh k "whole" ["value"] iO
nonrec abbrev bb:=FnC P w K mg base bh k "greatest_divisor" ["one","two"] nQ
nonrec abbrev kS:=FnC P w K mg base bh k "fraction" ["top","bottom"] (Gn.lN K)
nonrec abbrev FM:=FnC P w K mg base bh k "plus" ["one","two"] (qQ K)
nonrec abbrev sG:=FnC P w K mg base bh k "times" ["one","two"] (iF K)
nonrec abbrev cB:=FnC P w K mg base bh k "first_place" ["row"] (iR K)
nonrec abbrev kN:=FnC P w K mg base bh k "unit_row" ["size","own"] (qL K)
nonrec abbrev jG:=FnC P w K mg base bh k "unit_rows" ["size"] (qK K)
nonrec abbrev dH:=FnC P w K mg base bh k "common_divisor" ["row"] (Gv K)
nonrec abbrev nF:=FnC P w K mg base bh k "lowest" ["row"] (s_ K)
nonrec abbrev p_:=FnC P w K mg base bh k "cleared" ["row","stairs"] (Gw K)
nonrec abbrev uB:=FnC P w K mg base bh k "sifted" ["rows"] (xH K)
nonrec abbrev eO:=FnC P w K mg base bh k "nought_makers" ["rows"] (lM K)
nonrec abbrev kR:=FnC P w K mg base bh k "heaps_of" ["turnings"] (iQ K)
nonrec abbrev jN:=FnC P w K mg base bh k "heaps" ["vessel"] (gy K)
nonrec abbrev eN:=FnC P w K mg base bh k "turning_at" ["vessel","number"] (Rw.iB K)
nonrec abbrev bJ:=FnC P w K mg base bh k "heap_numbers" ["vessel"] (iT K)
nonrec abbrev jI:=FnC P w K mg base bh k "places_of" ["things","thing"] (lI K)
nonrec abbrev AZ:=FnC P w K mg base bh k "lots" ["vessel"] (tf K)
nonrec abbrev g4:=FnC P w K mg base bh k "check_heap" ["vessel","number"] (tq K)
nonrec abbrev FL:=FnC P w K mg base bh k "road" ["vessel","one","two"] (xI K)
nonrec abbrev fA:=FnC P w K mg base bh k "first_astray" ["vessel"] (As.lO K)
nonrec abbrev jJ:=FnC P w K mg base bh k "lot_marks" ["number","told_lots"] (qT K)
nonrec abbrev jM:=FnC P w K mg base bh k "lack_rows" ["vessel"] (qU K)
nonrec abbrev jH:=FnC P w K mg base bh k "taken_out" ["number","divisor"] (Pw.B3 K)
nonrec abbrev AX:=FnC P w K mg base bh k "split" ["one","two"] (Pw.qO K)
nonrec abbrev cA:=FnC P w K mg base bh k "place_with_divisor" ["powers","number"] (Pw.qR K)
nonrec abbrev sI:=FnC P w K mg base bh k "apart" ["powers"] (Pw.lP K)
nonrec abbrev uC:=FnC P w K mg base bh k "raised" ["number","often"] Gn.sZ
nonrec abbrev gY:=FnC P w K mg base bh k "multiplied" ["powers"] (Gn.xK K)
nonrec abbrev eM:=FnC P w K mg base bh k "turnings_from" ["ends","heap"] (xM K)
nonrec abbrev AY:=FnC P w K mg base bh k "picks" ["ends","some"] (qS K)
nonrec abbrev pZ:=FnC P w K mg base bh k "is_tree" ["ends","pick","heap"] (xF K)
nonrec abbrev fo:=FnC P w K mg base bh k "pace_product" ["turnings","pick"] (Tr.xJ K)
nonrec abbrev gc:=FnC P w K mg base bh k "tree_weight" ["turnings","ends","lot","heap"] (qN K)
nonrec abbrev fh:=FnC P w K mg base bh k "tree_weights" ["vessel"] (qM K)
nonrec abbrev jO:=FnC P w K mg base bh k "falling" ["pieces","taken"] Gn.iS
nonrec abbrev FK:=FnC P w K mg base bh k "ways" ["vessel","number","count"] (Gn.sY K)
nonrec abbrev gh:=FnC P w K mg base bh k "can_be_made" ["turning","count"] (Wd.xO K)
nonrec abbrev fD:=FnC P w K mg base bh k "count_behind" ["turning","count"] (Wd.xN K)
nonrec abbrev uA:=FnC P w K mg base bh k "walked" ["vessel","row","count"] (Gn.xD K)
nonrec abbrev cN:=FnC P w K mg base bh k "weight_powers" ["weights","row"] (Pw.BZ K)
nonrec abbrev A_:=FnC P w K mg base bh k "even" ["vessel"] (Pw.tm K)
nonrec abbrev fC:=FnC P w K mg base bh k "even_weights" ["vessel"] (Gn.Gs K)
nonrec abbrev eS:=FnC P w K mg base bh k "heaps_come_to" ["vessel","row","size"] (Gn.Gr K)
nonrec abbrev fz:=FnC P w K mg base bh k "gain_between" ["vessel","weights","row","ahead","behind"] (Gn.spGb K)
nonrec abbrev FN:=FnC P w K mg base bh k "gain" ["vessel","row","count"] (Gn.xL K)
nonrec abbrev ba:=FnC P w K mg base bh k "_law_cell_at" ["_law_script","_law_k"] (c7 K)
nonrec abbrev bV:=FnC P w K mg base bh k "_law_mixed" ["_law_cell","_law_place"] dC
nonrec abbrev gf:=FnC P w K mg base bh k "_law_divisor" ["_law_one","_law_two"] nQ
nonrec abbrev eR:=FnC P w K mg base bh k "_law_lowest" ["_law_top","_law_bottom"] (Gn.nP K)
nonrec abbrev fQ:=FnC P w K mg base bh k "_law_words" ["_law_number","_law_many"] (fT K)
nonrec abbrev kQ:=FnC P w K mg base bh k "_law_heap" ["_law_cell","_law_k","_law_many","_law_top","_law_plain"] (qV K)
nonrec abbrev kO:=FnC P w K mg base bh k "_law_pool" ["_law_script","_law_at","_law_many","_law_size","_law_top","_law_plain"] (qP K)
nonrec abbrev jK:=FnC P w K mg base bh k "_law_pairs" ["_law_script","_law_at","_law_size","_law_kind","_law_plain"] (lK K)
nonrec abbrev gP:=FnC P w K mg base bh k "_law_pace" ["_law_cell","_law_kind"] (iP K)
nonrec abbrev gZ:=FnC P w K mg base bh k "_law_vessel" ["_law_script","_law_at"] (xE K)
nonrec abbrev kP:=FnC P w K mg base bh k "_law_plus" ["_law_one","_law_two"] (Gn.lH K)
nonrec abbrev sH:=FnC P w K mg base bh k "_law_times" ["_law_one","_law_two"] (Gn.iE K)
nonrec abbrev dg:=FnC P w K mg base bh k "_law_even_vessel" ["_law_script","_law_at"] (Pw.qW K)
nonrec abbrev eQ:=FnC P w K mg base bh k "_law_zero_lack" ["_law_script","_law_at"] (Gn.xC K)
nonrec abbrev fu:=FnC P w K mg base bh k "_law_balanced" ["_law_script","_law_at"] (Gn.Gy K)
nonrec abbrev jL:=FnC P w K mg base bh k "_law_count" ["_law_cell","_law_many","_law_size"] (Dn.qX K)
nonrec abbrev pY:=FnC P w K mg base bh k "_law_can" ["_law_turning","_law_count_here"] (Dn.Gx K)
nonrec abbrev dG:=FnC P w K mg base bh k "_law_some_count" ["_law_script","_law_at","_law_many"] (Gn.xG K)
nonrec abbrev gg:=FnC P w K mg base bh k "_law_balance" ["_law_vessel_here","_law_count_here"] (Gn.Gz K)
end
section
variable{P:P6}{w:Qp}{K:Fg}{mg:Str->Option O6}{base:Heap}
seal PE PS PSs PA PT
local macro_rules | `(tactic| walk_at "l")=>`(tactic| (intro h;repeat (first|(obtain⟨e,_⟩:=h;cases e;exact rfl)|obtain⟨_,h⟩:=h)))
seal eJ e_ MJ MX MY PI PG Jm PW PO PC binaryOp compareOp unaryOp
set_option hygiene false in
local macro_rules | `(tactic| fail "t")=>`(tactic| first|((with_reducible show PE _ _ _);fail "e")|((with_reducible show PA _ _ _);fail "a")|((with_reducible show PS _ _ _);fail "s")|((with_reducible show PSs _ _ _);fail "S")|((with_reducible show PT _ _ _);fail "b")|((with_reducible show PW _ _ _);fail "w")|((with_reducible show PG _ _ _);fail "g")|((with_reducible show Jm _ _ _);fail "G")|((with_reducible show PI _ _ _ _);fail "i")|((with_reducible show PO _ _ _);fail "o")|((with_reducible show PC _ _ _ _ _);fail "C")|((with_reducible show MF _ _ _ _ _);fail "P")|skip)
set_option hygiene false in
local macro_rules | `(tactic| fail "e")=>`(tactic| first|exact pv _|exact KD|exact yL rfl B.int FE rfl|exact yL rfl B.bool IV rfl|exact Kx|exact Dc|exact Nl|exact yK rfl G.ONE rfl|exact yK rfl G.NOUGHT rfl|exact Dd|exact Ku|((first|refine Nj (by fail "p") ?_ ?_|refine Nk (by fail "x") ?_ ?_ (λ_ _=>rfl)|refine HM (by fail "q") ?_ ?_ (E5 _)|((with_reducible show PE _ _ (aC _ _ _ _));refine Dg (by assumption) hr rfl ?_)|refine Kt ?_|refine KF ?_ ?_|refine eV (by fail "c") rfl B.isinstance m8 ?_|refine Kw ?_|refine eV (by fail "c") rfl B.abs Mo ?_|refine Ni (by fail "r") ?_|refine Db ?_ ?_ ?_|refine OV (.of (by kernel_rfl!)) (of_decide_eq_true (by kernel_rfl!)) rfl ?_ (λ_ _ _ _ _=>?_)|refine jc (by fail "y") rfl B.list AK ?_|refine OT (.of (by kernel_rfl!)) rfl ?_ (λ_ _ _ _ _=>?_) (λ_ _ _ _ _=>?_)|refine Ky ?_|refine eV (by fail "c") rfl B.len Mm ?_|refine HP SW PySem.F.slot_list_append PySem.F.type_list_append oW ?_ ?_|refine Da (by fail "r") ?_ ?_ ?_|refine HL hu1 ?_ ?_ (λ_ _=>rfl)|refine OU (.of (by kernel_rfl!)) rfl ?_ (λ_ _ _ _ _=>?_) (λ_ _ _ _ _=>?_) (λ_ _ _ _ _=>?_)|refine oG rfl rfl B.list rfl B.range ?_|refine eV (by fail "c") rfl B.min Mj ?_|refine eV (by fail "c") rfl B.max Ml ?_|refine uX rfl rfl B.sorted rfl B.set ?_|refine HK ?_ rfl rfl (by simp) (by decide)|refine De hu1 ?_ ?_ ⟨rfl,rfl,rfl,rfl⟩|refine KE SW WM WN K2 ?_|refine HP SW PySem.F.slot_list_extend PySem.F.type_list_extend y9 ?_ ?_|refine HP SW WM WN Dz ?_ ?_|refine eV (by fail "c") rfl B.all Mn ?_|refine jc (by fail "y") rfl B.tuple Eo ?_|refine jc (by fail "y") rfl B.int FE ?_|refine Kv ?_)<;>fail "t"))
set_option hygiene false in
local macro_rules | `(tactic| fail "a")=>`(tactic| first|exact KI|((first|refine HQ ?_ ?_)<;>fail "t"))
set_option hygiene false in
local macro_rules | `(tactic| fail "s")=>`(tactic| first|((first|refine Kf nd rfl (by walk_at "o") ?_|refine Kg ?_|refine Nh ?_ ?_ ?_|refine Ki hpo rfl ?_ ?_ ?_|refine Kh rfl nd rfl rfl (by decide) rfl rfl ?_ rfl|refine C0 hpo ?_ ?_|refine Hw ?_|refine Hx hu1 ?_ ?_ ?_ rfl|((with_reducible first|show PS _ (.Assign [.Tuple _ _ _] _ _) _|show PS _ (.Assign [.Subscript _ _ _] _ _) _);refine Kj ?_ ?_))<;>fail "t"))
set_option hygiene false in
local macro_rules | `(tactic| fail "S")=>`(tactic| first|exact Hv|exact yu|((first|refine Hu ?_|refine CZ ?_ ?_)<;>fail "t"))
set_option hygiene false in
local macro_rules | `(tactic| fail "b")=>`(tactic| first|((first|refine yq (by fail "q") ?_ ?_ (E5 _)|refine yq (by fail "q") ?_ ?_ (by with_unfolding_all rfl)|((with_reducible show PT _ (.BoolOp _ _ _) _);refine PW.pt ?_)|refine Kb ?_|refine CY (by fail "q") (by fail "q") ?_ ?_ ?_|refine Kc ?_ (by with_unfolding_all rfl)|refine J_ ?_)<;>fail "t"))
set_option hygiene false in
local macro_rules | `(tactic| fail "w")=>`(tactic| first|((first|refine pw_or ?_ ?_|refine pw_or1 ?_|refine pw_and ?_ ?_|refine pw_and1 ?_)<;>fail "t"))
set_option hygiene false in
local macro_rules | `(tactic| fail "g")=>`(tactic| first|exact yJ (by first|exact nd|exact of_decide_eq_true (by kernel_rfl!)) rfl (by walk_at "o")|((first|refine Kq rfl ?_|refine Kr ?_ ?_ xU)<;>fail "t"))
set_option hygiene false in
local macro_rules | `(tactic| fail "G")=>`(tactic| first|exact HJ|((first|refine C_ ?_ ?_)<;>fail "t"))
set_option hygiene false in
local macro_rules | `(tactic| fail "i")=>`(tactic| first|((first|refine HI rfl B.enumerate ?_|refine yI rfl B.range ?_|refine Km rfl B.zip ?_|refine HG rfl B.zip ?_|refine HH ?_|refine Ko ?_)<;>fail "t"))
set_option hygiene false in
local macro_rules | `(tactic| fail "o")=>`(tactic| first|exact HC|((first|refine HB ?_)<;>fail "t"))
set_option hygiene false in
local macro_rules | `(tactic| fail "C")=>`(tactic| first|((first|refine yM hu1 ?_ ?_)<;>fail "t"))
set_option hygiene false in
local macro_rules | `(tactic| fail "P")=>`(tactic| first|exact HA|((first|refine C7 ?_ ?_ ?_)<;>fail "t"))
set_option hygiene false in
local macro_rules | `(tactic| fail "c")=>`(tactic| first|exact Ei|exact Ek|exact pL|exact(AB rfl)|exact(AC rfl)|exact AD|exact(Ej rfl)|exact(Az rfl))
set_option hygiene false in
local macro_rules | `(tactic| fail "p")=>`(tactic| first|exact HW|exact Dj|exact KW|exact HV|exact Dm|exact KL|exact KU|exact KM|exact KP|exact KO|exact uY|exact HX|exact HR|exact KN)
set_option hygiene false in
local macro_rules | `(tactic| fail "q")=>`(tactic| first|exact No|exact Nw|exact Np|exact KQ|exact Nq|exact(KR hu)|exact Nt|exact HU|exact(yQ hu)|exact Nu|exact(KS hu)|exact HS)
set_option hygiene false in
local macro_rules | `(tactic| fail "r")=>`(tactic| first|exact Jt|exact GC|exact JJ)
set_option hygiene false in
local macro_rules | `(tactic| fail "x")=>`(tactic| first|exact LM|exact ID|exact LN)
set_option hygiene false in
local macro_rules | `(tactic| fail "y")=>`(tactic| first|exact pK|exact(vF rfl)|exact(so rfl)|exact mZ|exact AE)
set_option hygiene false in
local macro_rules | `(tactic| exists $s:term,$t:term,$r:term)=>`(tactic| (refine F.okN $s (λ_ _ _ _=>by walk_at "l") λf cdv A outer s H vs Q E nd hr hu hu1 hpo own h=>⟨$t,?_,$r⟩;fail "t"))
def Dp(F:aK K mg "whole" (top 8) ["value"]) (B:bP mg)  : nC P w K mg base 1:=by
 exists Ch,EF K,(by obtain⟨i,rfl,k⟩:=h;exact Ct k)
def fL(F:aK K mg "greatest_divisor" (top 9) ["one","two"]) (B:bP mg)  : bb P w K mg base 1:=by
 exists fH,JD,(by obtain⟨a,b,rfl,k⟩:=h;exact JU a b H _ k)
def rJ(F:aK K mg "fraction" (top 10) ["top","bottom"]) (B:bP mg) (se:bb P w K mg base 1) (Zq:nC P w K mg base 1):kS P w K mg base 2:=by
 exists rn,Gn.qA K,(Gn.CL rfl h)
def H_(F:aK K mg "plus" (top 11) ["one","two"]) (B:bP mg) (Dv:FnC P w K mg base bh 2 "fraction" ["top","bottom"] (gz K)):FM P w K mg base 3:=by
 exists GI,qo K,(CC rfl h)
def Dq(F:aK K mg "times" (top 12) ["one","two"]) (B:bP mg) (Dv:FnC P w K mg base bh 2 "fraction" ["top","bottom"] (gz K)):sG P w K mg base 3:=by
 exists Ci,k7 K,(yd rfl h)
def j6(F:aK K mg "first_place" (top 14) ["row"]) (B:bP mg)  : cB P w K mg base 1:=by
 exists jX,qB K,(CM rfl h)
def rC(F:aK K mg "unit_row" (top 15) ["size","own"]) (B:bP mg)  : kN P w K mg base 1:=by
 exists qZ,qg K,(Cv rfl h)
def oI(F:aK K mg "unit_rows" (top 16) ["size"]) (B:bP mg) (ZP:kN P w K mg base 1):jG P w K mg base 2:=by
 exists nW,qe K,(Cu rfl h)
def gK(F:aK K mg "common_divisor" (top 17) ["row"]) (B:bP mg) (se:bb P w K mg base 1):dH P w K mg base 2:=by
 exists gD,Ge K,(JV rfl h)
def yW(F:aK K mg "lowest" (top 18) ["row"]) (B:bP mg) (xv:cB P w K mg base 2) (Y_:dH P w K mg base 2):nF P w K mg base 3:=by
 exists x5,wG K,(G3 rfl h)
def vd(F:aK K mg "cleared" (top 19) ["row","stairs"]) (B:bP mg) (xv:cB P w K mg base 3) (Zy:nF P w K mg base 3):p_ P w K mg base 4:=by
 exists uU,w_ K,(Ha rfl h)
def yU(F:aK K mg "sifted" (top 20) ["rows"]) (B:bP mg) (ZH:jG P w K mg base 4) (ZT:p_ P w K mg base 4) (xv:cB P w K mg base 4) (Zy:nF P w K mg base 4):uB P w K mg base 5:=by
 exists xZ,wu K,(GU rfl h)
def ia(F:aK K mg "nought_makers" (top 21) ["rows"]) (B:bP mg) (Z6:uB P w K mg base 5):eO P w K mg base 6:=by
 exists g9,k_ K,(yh rfl h)
def rH(F:aK K mg "heaps_of" (top 24) ["turnings"]) (B:bP mg)  : kR P w K mg base 1:=by
 exists rm,iJ K,(uV rfl h)
def Dw(F:aK K mg "heaps" (top 25) ["vessel"]) (B:bP mg) (ZK:kR P w K mg base 1):jN P w K mg base 2:=by
 exists Co,qy K,(CJ rfl h)
def mq(F:aK K mg "turning_at" (top 26) ["vessel","number"]) (B:bP mg) (Zq:nC P w K mg base 1):eN P w K mg base 2:=by
 exists lT,Rw.kY K,(Rw.ya rfl h)
def jg(F:aK K mg "heap_numbers" (top 28) ["vessel"]) (B:bP mg) (Fx:jN P w K mg base 2):bJ P w K mg base 3:=by
 exists iY,wJ K,(G5 rfl h)
def oK(F:aK K mg "places_of" (top 29) ["things","thing"]) (B:bP mg)  : jI P w K mg base 1:=by
 exists n4,k8 K,(yf rfl h)
def Ia(F:aK K mg "lots" (top 30) ["vessel"]) (B:bP mg) (sn:bJ P w K mg base 3) (ZF:jI P w K mg base 3) (Fx:jN P w K mg base 3):AZ P w K mg base 4:=by
 exists GJ,wH K,(G4 rfl h)
def mC(F:aK K mg "check_heap" (top 31) ["vessel","number"]) (B:bP mg) (Zq:nC P w K mg base 2) (Fx:jN P w K mg base 2):g4 P w K mg base 3:=by
 exists lY,xf K,(Hb rfl h)
def HZ(F:aK K mg "road" (top 32) ["vessel","one","two"]) (B:bP mg) (Zw:g4 P w K mg base 3) (sn:bJ P w K mg base 3):FL P w K mg base 4:=by
 exists GH,wv K,(GV rfl h)
def jj(F:aK K mg "first_astray" (top 33) ["vessel"]) (B:bP mg) (sn:bJ P w K mg base 4) (c_road:FL P w K mg base 4):fA P w K mg base 5:=by
 exists i3,As.lv K,(As.yi rfl h)
def oM(F:aK K mg "lot_marks" (top 35) ["number","told_lots"]) (B:bP mg)  : jJ P w K mg base 1:=by
 exists n9,qt K,(CH rfl h)
def oS(F:aK K mg "lack_rows" (top 36) ["vessel"]) (B:bP mg) (Z1:AZ P w K mg base 6) (Ze:eO P w K mg base 6) (ZE:jJ P w K mg base 6) (Fx:jN P w K mg base 6):jM P w K mg base 7:=by
 exists ou,qu K,(CI rfl h)
def oJ(F:aK K mg "taken_out" (top 38) ["number","divisor"]) (B:bP mg)  : jH P w K mg base 1:=by
 exists nZ,Pw.F6 K,(Pw.JP rfl h)
def Dr(F:aK K mg "split" (top 39) ["one","two"]) (B:bP mg) (se:bb P w K mg base 1) (ZG:jH P w K mg base 1):AX P w K mg base 2:=by
 exists Cj,Pw.qj K,(Pw.Cz rfl h)
def d8(F:aK K mg "place_with_divisor" (top 40) ["powers","number"]) (B:bP mg) (se:bb P w K mg base 1):cA P w K mg base 2:=by
 exists dY,Pw.qp K,(Pw.CD rfl h)
def Dx(F:aK K mg "apart" (top 41) ["powers"]) (B:bP mg) (zo:cA P w K mg base 2) (c_split:AX P w K mg base 2):sI P w K mg base 3:=by
 exists Cp,Pw.qF K,(Pw.CQ rfl h)
def yV(F:aK K mg "raised" (top 42) ["number","often"]) (B:bP mg)  : uC P w K mg base 1:=by
 exists x4,Gn.ww K,(Gn.GW rfl h)
def mr(F:aK K mg "multiplied" (top 43) ["powers"]) (B:bP mg) (ZI:sI P w K mg base 3) (Z5:uC P w K mg base 3):gY P w K mg base 4:=by
 exists lU,Gn.wD K,(Gn.GY rfl h)
def h_(F:aK K mg "turnings_from" (top 46) ["ends","heap"]) (B:bP mg)  : eM P w K mg base 1:=by
 exists g7,wN K,(G7 rfl h)
def Du(F:aK K mg "picks" (top 47) ["ends","some"]) (B:bP mg) (Zf:eM P w K mg base 1):AY P w K mg base 2:=by
 exists Ck,qq K,(CF rfl h)
def u_(F:aK K mg "is_tree" (top 48) ["ends","pick","heap"]) (B:bP mg)  : pZ P w K mg base 1:=by
 exists uS,wj K,(GS rfl h)
def je(G:Cn K mg nq oq) (F:aK K mg "pace_product" (top 49) ["turnings","pick"]) (B:bP mg) (ZJ:sG P w K mg base 3):fo P w K mg base 4:=by
 exists iW,wC K oq,(GX G.one rfl h)
def jZ(G:Cn K mg nq oq) (F:aK K mg "tree_weight" (top 50) ["turnings","ends","lot","heap"]) (B:bP mg) (c_picks:AY P w K mg base 4) (ZU:pZ P w K mg base 4) (c_plus:FM P w K mg base 4) (Zm:fo P w K mg base 4):gc P w K mg base 5:=by
 exists jT,qi K nq,(Cy G.zero rfl h)
def jd(F:aK K mg "tree_weights" (top 51) ["vessel"]) (B:bP mg) (sn:bJ P w K mg base 5) (Z1:AZ P w K mg base 5) (Zv:gc P w K mg base 5):fh P w K mg base 6:=by
 exists iV,qh K,(Cw rfl h)
 refine KC (M:=["vessel","ends","weights","lot","#heap"]) (.of (by kernel_rfl!)) nd rfl ?_ (λ_ _ _ _ _=>?_) <;> fail "t"
def va(F:aK K mg "falling" (top 53) ["pieces","taken"]) (B:bP mg)  : jO P w K mg base 1:=by
 exists uT,Gn.qC K,(Gn.CN rfl h)
def HY(F:aK K mg "ways" (top 54) ["vessel","number","count"]) (B:bP mg) (Ds:eN P w K mg base 3) (ZJ:sG P w K mg base 3) (Zp:jO P w K mg base 3):FK P w K mg base 4:=by
 exists GG,Gn.wc K,(Gn.GQ rfl h)
def j7(F:aK K mg "can_be_made" (top 55) ["turning","count"]) (B:bP mg)  : gh P w K mg base 1:=by
 exists jY,Wd.xh K,(Wd.Hd rfl h)
def jm(F:aK K mg "count_behind" (top 56) ["turning","count"]) (B:bP mg)  : fD P w K mg base 1:=by
 exists i5,Wd.w4 K,(Wd.G_ rfl h)
def yT(F:aK K mg "walked" (top 57) ["vessel","row","count"]) (B:bP mg) (Ds:eN P w K mg base 2) (Zh:fD P w K mg base 2) (Zr:gh P w K mg base 2):uA P w K mg base 3:=by
 exists xY,Gn.wa K,(Gn.GP rfl h)
def hZ(F:aK K mg "weight_powers" (top 59) ["weights","row"]) (B:bP mg)  : cN P w K mg base 1:=by
 exists g6,Pw.F5 K,(Pw.JO rfl h)
def Ic(F:aK K mg "even" (top 60) ["vessel"]) (B:bP mg) (Zj:fA P w K mg base 7) (Zn:fh P w K mg base 7) (ZB:jM P w K mg base 7) (ZI:sI P w K mg base 7) (xy:cN P w K mg base 7):A_ P w K mg base 8:=by
 exists GL,Pw.wX K,(Pw.G8 rfl h)
def jk(F:aK K mg "even_weights" (top 61) ["vessel"]) (B:bP mg) (ZX:A_ P w K mg base 8):fC P w K mg base 9:=by
 exists i4,Gn.Gc K,(Gn.JT rfl h)
def ic(F:aK K mg "heaps_come_to" (top 62) ["vessel","row","size"]) (B:bP mg) (sn:bJ P w K mg base 3):eS P w K mg base 4:=by
 exists hE,Gn.Gb K,(Gn.JS rfl h)
def jh(F:aK K mg "gain_between" (top 63) ["vessel","weights","row","ahead","behind"]) (B:bP mg) (Zz:gY P w K mg base 4) (Dv:kS P w K mg base 4) (xy:cN P w K mg base 4) (Zc:eS P w K mg base 4) (Zp:jO P w K mg base 4):fz P w K mg base 5:=by
 exists iZ,Gn.t_gb K,(Gn.Na rfl h)
def Ib(F:aK K mg "gain" (top 64) ["vessel","row","count"]) (B:bP mg) (Zi:fC P w K mg base 9) (Zk:fz P w K mg base 9) (Z7:uA P w K mg base 9):FN P w K mg base 10:=by
 exists GK,Gn.wM K,(Gn.G6 rfl h)
def j4(F:aK K mg "_law_cell_at" (top 66) ["_law_script","_law_k"]) (B:bP mg)  : ba P w K mg base 1:=by
 exists jV,JE K,(by obtain⟨a,ns,k,rfl,hS,h0,q⟩:=h;exact Hc hS h0 q)
def oQ(F:aK K mg "_law_mixed" (top 67) ["_law_cell","_law_place"]) (B:bP mg)  : bV P w K mg base 1:=by
 exists om,wE K,(GZ rfl h)
def j3(F:aK K mg "_law_divisor" (top 68) ["_law_one","_law_two"]) (B:bP mg)  : gf P w K mg base 1:=by
 exists jU,wY K,(G9 rfl h)
def mB(F:aK K mg "_law_lowest" (top 69) ["_law_top","_law_bottom"]) (B:bP mg) (Zt:gf P w K mg base 1):eR P w K mg base 2:=by
 exists lX,Gn.wF K,(Gn.G0 rfl h)
def oN(F:aK K mg "_law_words" (top 70) ["_law_number","_law_many"]) (B:bP mg)  : fQ P w K mg base 1:=by
 exists n_,kX K,(x_ rfl h)
def rG(F:aK K mg "_law_heap" (top 71) ["_law_cell","_law_k","_law_many","_law_top","_law_plain"]) (B:bP mg) (vt:bV P w K mg base 1):kQ P w K mg base 2:=by
 exists rj,qz K,(CK rfl h)
def rD(F:aK K mg "_law_pool" (top 72) ["_law_script","_law_at","_law_many","_law_size","_law_top","_law_plain"]) (B:bP mg) (ZM:kQ P w K mg base 2) (ip:ba P w K mg base 2):kO P w K mg base 3:=by
 exists q_,qk K,(CA rfl h)
def oP(F:aK K mg "_law_pairs" (top 73) ["_law_script","_law_at","_law_size","_law_kind","_law_plain"]) (B:bP mg) (ip:ba P w K mg base 1) (vt:bV P w K mg base 1):jK P w K mg base 2:=by
 exists oj,k9 K,(yg rfl h)
def rF(F:aK K mg "_law_pace" (top 74) ["_law_cell","_law_kind"]) (B:bP mg) (xa:FnC P w K mg base bh 2 "_law_lowest" ["_law_top","_law_bottom"] (gS K)):gP P w K mg base 3:=by
 exists rf,qr K,(CG rfl h)
def mz(F:aK K mg "_law_vessel" (top 75) ["_law_script","_law_at"]) (B:bP mg) (vt:bV P w K mg base 3) (ZO:kO P w K mg base 3) (ZD:jK P w K mg base 3) (ip:ba P w K mg base 3) (Y9:fQ P w K mg base 3) (Zb:gP P w K mg base 3):gZ P w K mg base 4:=by
 exists lV,we K,(GR rfl h)
def rE(F:aK K mg "_law_plus" (top 78) ["_law_one","_law_two"]) (B:bP mg) (xa:eR P w K mg base 2):kP P w K mg base 3:=by
 exists re,Gn.qm K,(Gn.CB rfl h)
def oO(F:aK K mg "_law_times" (top 79) ["_law_one","_law_two"]) (B:bP mg) (xa:eR P w K mg base 2):sH P w K mg base 3:=by
 exists oi,Gn.kZ K,(Gn.yc rfl h)
def fW(F:aK K mg "_law_even_vessel" (top 80) ["_law_script","_law_at"]) (B:bP mg) (Zx:gZ P w K mg base 4) (vt:bV P w K mg base 4) (ip:ba P w K mg base 4) (xa:FnC P w K mg base bh 4 "_law_lowest" ["_law_top","_law_bottom"] (gS K)) (Y8:FnC P w K mg base bh 4 "_law_times" ["_law_one","_law_two"] (Pw.fU K)):dg P w K mg base 5:=by
 exists fV,Pw.qD K,(Pw.CO rfl h)
def ib(F:aK K mg "_law_zero_lack" (top 81) ["_law_script","_law_at"]) (B:bP mg) (vt:bV P w K mg base 3) (ip:ba P w K mg base 3) (Y9:fQ P w K mg base 3) (Zb:gP P w K mg base 3):eQ P w K mg base 4:=by
 exists g_,Gn.v_ K,(Gn.GO rfl h)
def jf(F:aK K mg "_law_balanced" (top 82) ["_law_script","_law_at"]) (B:bP mg) (Zd:eQ P w K mg base 5) (Y7:dg P w K mg base 5) (ip:ba P w K mg base 5):fu P w K mg base 6:=by
 exists iX,Gn.Gg K,(Gn.JX rfl h)
def oR(F:aK K mg "_law_count" (top 83) ["_law_cell","_law_many","_law_size"]) (B:bP mg) (vt:bV P w K mg base 1):jL P w K mg base 2:=by
 exists ot,Dn.qE K,(Dn.CP rfl h)
def uZ(F:aK K mg "_law_can" (top 84) ["_law_turning","_law_count_here"]) (B:bP mg)  : pY P w K mg base 1:=by
 exists uR,Dn.Gf K,(Dn.JW rfl h)
def gJ(F:aK K mg "_law_some_count" (top 86) ["_law_script","_law_at","_law_many"]) (B:bP mg) (ZC:jL P w K mg base 2) (ip:ba P w K mg base 2):dG P w K mg base 3:=by
 exists gC,Gn.wt K,(Gn.GT rfl h)
def j5(F:aK K mg "_law_balance" (top 87) ["_law_vessel_here","_law_count_here"]) (B:bP mg) (ZN:kP P w K mg base 10) (c_ways:FK P w K mg base 10) (ZV:pY P w K mg base 10) (c_gain:FN P w K mg base 10) (Y8:FnC P w K mg base bh 10 "_law_times" ["_law_one","_law_two"] (Gn.iC K)):gg P w K mg base 11:=by
 exists jW,Gn.Gm K,(Gn.JY rfl h)
def K0(F:Fun K "law" "law" (top 88) f fd) (B:bP mg) (Zl:fu P w K mg base 11) (ZX:A_ P w K mg base 11) (Zs:gg P w K mg base 11) (Za:dG P w K mg base 11):FnOk P w K mg base bh 12 f fd ["_law_script"] (spLaw K):=by
 refine F.ok EI (λvs H Q E h=>?_) (λcdv A outer s H vs Q E hr h=>?_)
 .obtain⟨a,ns,rfl,_⟩:=h;rfl
 have nd:=EI.nd;have hu:=hr.units;have hu1:=Od hr;have hpo:=λ{M A env}=>@Yw M A env
 refine⟨F_ K,?_,(JR h)⟩;fail "t"
end
def nG{G:O6->O6->O6->Option Addr->O6->O6->Se}{ps:List Str}(e:ps.length=1)(h:∀(a b c:O6) (d:Option Addr) (x y u0:O6),bindArgs (G a b c d x y) ⟨[u0],[]⟩=pure (ps.zip [u0]))(a b c:O6)(d:Option Addr)(x y:O6)(us:List O6)(hl:us.length=ps.length):bindArgs (G a b c d x y) ⟨us,[]⟩=pure (ps.zip us):=by
 have e0:us.length=1:=hl.trans e;obtain⟨u0,us,rfl⟩:=Pq e0;cases Qq (Qh e0);exact h a b c d x y u0
def eI{G:O6->O6->O6->Option Addr->O6->O6->Se}{ps:List Str}(e:ps.length=2)(h:∀(a b c:O6) (d:Option Addr) (x y u0 u1:O6),bindArgs (G a b c d x y) ⟨[u0,u1],[]⟩=pure (ps.zip [u0,u1]))(a b c:O6)(d:Option Addr)(x y:O6)(us:List O6)(hl:us.length=ps.length):bindArgs (G a b c d x y) ⟨us,[]⟩=pure (ps.zip us):=by
 have e0:us.length=2:=hl.trans e;obtain⟨u0,us,rfl⟩:=Pq e0;have e1:us.length=1:=Qh e0;obtain⟨u1,us,rfl⟩:=Pq e1;cases Qq (Qh e1);exact h a b c d x y u0 u1
def FC{G:O6->O6->O6->Option Addr->O6->O6->Se}{ps:List Str}(e:ps.length=3)(h:∀(a b c:O6) (d:Option Addr) (x y u0 u1 u2:O6),bindArgs (G a b c d x y) ⟨[u0,u1,u2],[]⟩=pure (ps.zip [u0,u1,u2]))(a b c:O6)(d:Option Addr)(x y:O6)(us:List O6)(hl:us.length=ps.length):bindArgs (G a b c d x y) ⟨us,[]⟩=pure (ps.zip us):=by
 have e0:us.length=3:=hl.trans e;obtain⟨u0,us,rfl⟩:=Pq e0;have e1:us.length=2:=Qh e0;obtain⟨u1,us,rfl⟩:=Pq e1;have e2:us.length=1:=Qh e1;obtain⟨u2,us,rfl⟩:=Pq e2;cases Qq (Qh e2);exact h a b c d x y u0 u1 u2
def OY{G:O6->O6->O6->Option Addr->O6->O6->Se}{ps:List Str}(e:ps.length=4)(h:∀(a b c:O6) (d:Option Addr) (x y u0 u1 u2 u3:O6),bindArgs (G a b c d x y) ⟨[u0,u1,u2,u3],[]⟩=pure (ps.zip [u0,u1,u2,u3]))(a b c:O6)(d:Option Addr)(x y:O6)(us:List O6)(hl:us.length=ps.length):bindArgs (G a b c d x y) ⟨us,[]⟩=pure (ps.zip us):=by
 have e0:us.length=4:=hl.trans e;obtain⟨u0,us,rfl⟩:=Pq e0;have e1:us.length=3:=Qh e0;obtain⟨u1,us,rfl⟩:=Pq e1;have e2:us.length=2:=Qh e1;obtain⟨u2,us,rfl⟩:=Pq e2;have e3:us.length=1:=Qh e2;obtain⟨u3,us,rfl⟩:=Pq e3;cases Qq (Qh e3);exact h a b c d x y u0 u1 u2 u3
def Ot{G:O6->O6->O6->Option Addr->O6->O6->Se}{ps:List Str}(e:ps.length=5)(h:∀(a b c:O6) (d:Option Addr) (x y u0 u1 u2 u3 u4:O6),bindArgs (G a b c d x y) ⟨[u0,u1,u2,u3,u4],[]⟩=pure (ps.zip [u0,u1,u2,u3,u4]))(a b c:O6)(d:Option Addr)(x y:O6)(us:List O6)(hl:us.length=ps.length):bindArgs (G a b c d x y) ⟨us,[]⟩=pure (ps.zip us):=by
 have e0:us.length=5:=hl.trans e;obtain⟨u0,us,rfl⟩:=Pq e0;have e1:us.length=4:=Qh e0;obtain⟨u1,us,rfl⟩:=Pq e1;have e2:us.length=3:=Qh e1;obtain⟨u2,us,rfl⟩:=Pq e2;have e3:us.length=2:=Qh e2;obtain⟨u3,us,rfl⟩:=Pq e3;have e4:us.length=1:=Qh e3;obtain⟨u4,us,rfl⟩:=Pq e4;cases Qq (Qh e4);exact h a b c d x y u0 u1 u2 u3 u4
def OX{G:O6->O6->O6->Option Addr->O6->O6->Se}{ps:List Str}(e:ps.length=6)(h:∀(a b c:O6) (d:Option Addr) (x y u0 u1 u2 u3 u4 u5:O6),bindArgs (G a b c d x y) ⟨[u0,u1,u2,u3,u4,u5],[]⟩=pure (ps.zip [u0,u1,u2,u3,u4,u5]))(a b c:O6)(d:Option Addr)(x y:O6)(us:List O6)(hl:us.length=ps.length):bindArgs (G a b c d x y) ⟨us,[]⟩=pure (ps.zip us):=by
 have e0:us.length=6:=hl.trans e;obtain⟨u0,us,rfl⟩:=Pq e0;have e1:us.length=5:=Qh e0;obtain⟨u1,us,rfl⟩:=Pq e1;have e2:us.length=4:=Qh e1;obtain⟨u2,us,rfl⟩:=Pq e2;have e3:us.length=3:=Qh e2;obtain⟨u3,us,rfl⟩:=Pq e3;have e4:us.length=2:=Qh e3;obtain⟨u4,us,rfl⟩:=Pq e4;have e5:us.length=1:=Qh e4;obtain⟨u5,us,rfl⟩:=Pq e5;cases Qq (Qh e5);exact h a b c d x y u0 u1 u2 u3 u4 u5
def FnAt{K:Fg}{st:Stmt}{ps:List Str}(X:K.In h)(G:h.Ns mainGlobals mg)(p:Je K n st)(hb:∀(kV doc pm:O6) (an:Option Addr) (cdv ct:O6) (us:List O6),us.length=ps.length->bindArgs (RA n n (c5 st) (cj st) (ao st) .none kV doc pm an cdv ct) ⟨us,[]⟩=pure (ps.zip us)):aK K mg n st ps:=by
 obtain⟨_,_,_,_,_,_,_,_,_,_,a,l,c,k⟩:=p;exact D7 X G a l c k hb
nonrec abbrev Pg:=PySem.Challenge.rw_vesselhall_k89_as_much_comes_as_goes.prog
def fin:PySem.Challenge.rw_vesselhall_k89_as_much_comes_as_goes.Holds:=by
 refine K89H.headed ?_;intro w K h mg fa X G hfa P0 P20 P40 P60 Z tn0 tn1 to0 to1 nq oq nqd oqd nqn oqn nqs oqs hcnN hcnL hcnO hcnM;obtain⟨p0,p1,p2,p3,p4,p5,p6,p7,p8,p9,p10,p11,p12,p13,p14,p15,p16,p17,p18,p19,_⟩:=P0;obtain⟨p20,p21,p22,p23,p24,p25,p26,p27,p28,p29,p30,p31,p32,p33,p34,p35,p36,p37,p38,p39,_⟩:=P20;obtain⟨p40,p41,p42,p43,p44,p45,p46,p47,p48,p49,p50,p51,p52,p53,p54,p55,p56,p57,p58,p59,_⟩:=P40;obtain⟨p60,p61,p62,p63,p64,p65,p66,_⟩:=P60;obtain⟨z0,z1,z2,z3,z4,z5,z6,z7,z8,z9,z10,z11,z12,z13,z14,z15,z16,z17,z18,z19,z20,z21,_⟩:=Z;obtain⟨_,_,an,_,_,kV,dc,pm,cd,ct,aL,lL,cL,kL⟩:=p66;cases hfa.symm.trans (VY X G aL);have zn:=λ{n:Str}=>PySem.W.mg_none_of (n:=n) X G
 have B:bP mg:=⟨zn z0,zn z1,zn z2,zn z3,zn z4,zn z5,zn z6,zn z7,zn z8,zn z9,zn z10,zn z11,zn z12,zn z13,zn z14,zn z15,zn z16,zn z17,zn z18,zn z19,zn z20,zn z21⟩
 refine⟨RA "law" "law" (c5 (top 88)) (cj (top 88)) (ao (top 88)) .none kV dc pm an cd ct,λs v=>.of_eq rfl,λbase _ _=>?_⟩;have gG:=G;have G:Cn K mg nq oq:=⟨VY X G hcnN,VY X G hcnO,λH=>.inr ⟨_,_,_,hcnL,rfl,rfl,aM,.cons ⟨_,rfl⟩ (.cons ⟨_,rfl⟩ .nil)⟩,λH=>.inr ⟨_,_,_,hcnM,rfl,rfl,aM,.cons ⟨_,rfl⟩ (.cons ⟨_,rfl⟩ .nil)⟩⟩
 have Zq:=Dp (P:=Pg) (w:=w) (base:=base) (FnAt X gG p0 (nG rfl λ_ _ _ _ _ _ _=>rfl)) B;have se:=fL (P:=Pg) (w:=w) (base:=base) (FnAt X gG p1 (eI rfl λ_ _ _ _ _ _ _ _=>rfl)) B;have xv:=j6 (P:=Pg) (w:=w) (base:=base) (FnAt X gG p5 (nG rfl λ_ _ _ _ _ _ _=>rfl)) B;have ZP:=rC (P:=Pg) (w:=w) (base:=base) (FnAt X gG p6 (eI rfl λ_ _ _ _ _ _ _ _=>rfl)) B;have ZK:=rH (P:=Pg) (w:=w) (base:=base) (FnAt X gG p13 (nG rfl λ_ _ _ _ _ _ _=>rfl)) B;have ZF:=oK (P:=Pg) (w:=w) (base:=base) (FnAt X gG p17 (eI rfl λ_ _ _ _ _ _ _ _=>rfl)) B;have ZE:=oM (P:=Pg) (w:=w) (base:=base) (FnAt X gG p22 (eI rfl λ_ _ _ _ _ _ _ _=>rfl)) B;have ZG:=oJ (P:=Pg) (w:=w) (base:=base) (FnAt X gG p24 (eI rfl λ_ _ _ _ _ _ _ _=>rfl)) B;have Z5:=yV (P:=Pg) (w:=w) (base:=base) (FnAt X gG p28 (eI rfl λ_ _ _ _ _ _ _ _=>rfl)) B;have Zf:=h_ (P:=Pg) (w:=w) (base:=base) (FnAt X gG p30 (eI rfl λ_ _ _ _ _ _ _ _=>rfl)) B;have ZU:=u_ (P:=Pg) (w:=w) (base:=base) (FnAt X gG p32 (FC rfl λ_ _ _ _ _ _ _ _ _=>rfl)) B;have Zp:=va (P:=Pg) (w:=w) (base:=base) (FnAt X gG p36 (eI rfl λ_ _ _ _ _ _ _ _=>rfl)) B;have Zr:=j7 (P:=Pg) (w:=w) (base:=base) (FnAt X gG p38 (eI rfl λ_ _ _ _ _ _ _ _=>rfl)) B;have Zh:=jm (P:=Pg) (w:=w) (base:=base) (FnAt X gG p39 (eI rfl λ_ _ _ _ _ _ _ _=>rfl)) B;have xy:=hZ (P:=Pg) (w:=w) (base:=base) (FnAt X gG p41 (eI rfl λ_ _ _ _ _ _ _ _=>rfl)) B;have ip:=j4 (P:=Pg) (w:=w) (base:=base) (FnAt X gG p47 (eI rfl λ_ _ _ _ _ _ _ _=>rfl)) B;have vt:=oQ (P:=Pg) (w:=w) (base:=base) (FnAt X gG p48 (eI rfl λ_ _ _ _ _ _ _ _=>rfl)) B;have Zt:=j3 (P:=Pg) (w:=w) (base:=base) (FnAt X gG p49 (eI rfl λ_ _ _ _ _ _ _ _=>rfl)) B;have Y9:=oN (P:=Pg) (w:=w) (base:=base) (FnAt X gG p51 (eI rfl λ_ _ _ _ _ _ _ _=>rfl)) B;have ZV:=uZ (P:=Pg) (w:=w) (base:=base) (FnAt X gG p63 (eI rfl λ_ _ _ _ _ _ _ _=>rfl)) B;have Dv:=rJ (FnAt X gG p2 (eI rfl λ_ _ _ _ _ _ _ _=>rfl)) B se Zq;have ZA:=Dv.imp (sp':=gz K) λ_ _ _ _ z=>Gn.L3 z
 have ZH:=oI (FnAt X gG p7 (nG rfl λ_ _ _ _ _ _ _=>rfl)) B ZP;have Y_:=gK (FnAt X gG p8 (nG rfl λ_ _ _ _ _ _ _=>rfl)) B se;have Fx:=Dw (FnAt X gG p14 (nG rfl λ_ _ _ _ _ _ _=>rfl)) B ZK;have Ds:=mq (FnAt X gG p15 (eI rfl λ_ _ _ _ _ _ _ _=>rfl)) B Zq;have c_split:=Dr (FnAt X gG p25 (eI rfl λ_ _ _ _ _ _ _ _=>rfl)) B se ZG;have zo:=d8 (FnAt X gG p26 (eI rfl λ_ _ _ _ _ _ _ _=>rfl)) B se;have c_picks:=Du (FnAt X gG p31 (eI rfl λ_ _ _ _ _ _ _ _=>rfl)) B Zf;have xa:=mB (FnAt X gG p50 (eI rfl λ_ _ _ _ _ _ _ _=>rfl)) B Zt;have Zu:=xa.imp (sp':=gS K) λ_ _ _ _ z=>Gn.Ny z
 have ZM:=rG (FnAt X gG p52 (Ot rfl λ_ _ _ _ _ _ _ _ _ _ _=>rfl)) B vt;have ZD:=oP (FnAt X gG p54 (Ot rfl λ_ _ _ _ _ _ _ _ _ _ _=>rfl)) B ip vt;have ZC:=oR (FnAt X gG p62 (FC rfl λ_ _ _ _ _ _ _ _ _=>rfl)) B vt;have c_plus:=H_ (FnAt X gG p3 (eI rfl λ_ _ _ _ _ _ _ _=>rfl)) B ZA;have ZJ:=Dq (FnAt X gG p4 (eI rfl λ_ _ _ _ _ _ _ _=>rfl)) B ZA;have Zy:=yW (FnAt X gG p9 (nG rfl λ_ _ _ _ _ _ _=>rfl)) B (xv.mono (by decide:1<=2)) Y_;have sn:=jg (FnAt X gG p16 (nG rfl λ_ _ _ _ _ _ _=>rfl)) B Fx;have Zw:=mC (FnAt X gG p19 (eI rfl λ_ _ _ _ _ _ _ _=>rfl)) B (Zq.mono (by decide:1<=2)) Fx;have ZI:=Dx (FnAt X gG p27 (nG rfl λ_ _ _ _ _ _ _=>rfl)) B zo c_split;have Z7:=yT (FnAt X gG p40 (FC rfl λ_ _ _ _ _ _ _ _ _=>rfl)) B Ds (Zh.mono (by decide:1<=2)) (Zr.mono (by decide:1<=2));have ZO:=rD (FnAt X gG p53 (OX rfl λ_ _ _ _ _ _ _ _ _ _ _ _=>rfl)) B ZM (ip.mono (by decide:1<=2));have Zb:=rF (FnAt X gG p55 (eI rfl λ_ _ _ _ _ _ _ _=>rfl)) B Zu;have ZN:=rE (FnAt X gG p57 (eI rfl λ_ _ _ _ _ _ _ _=>rfl)) B xa;have Y8:=oO (FnAt X gG p58 (eI rfl λ_ _ _ _ _ _ _ _=>rfl)) B xa;have ZY:=Y8.imp (sp':=Pw.fU K) λ_ _ _ _ z=>Gn.F2 z
 have ZZ:=Y8.imp (sp':=Gn.iC K) λ_ _ _ _ z=>Gn.F1 z
 have Za:=gJ (FnAt X gG p64 (FC rfl λ_ _ _ _ _ _ _ _ _=>rfl)) B ZC (ip.mono (by decide:1<=2));have ZT:=vd (FnAt X gG p10 (eI rfl λ_ _ _ _ _ _ _ _=>rfl)) B (xv.mono (by decide:1<=3)) Zy;have Z1:=Ia (FnAt X gG p18 (nG rfl λ_ _ _ _ _ _ _=>rfl)) B sn (ZF.mono (by decide:1<=3)) (Fx.mono (by decide:2<=3));have c_road:=HZ (FnAt X gG p20 (FC rfl λ_ _ _ _ _ _ _ _ _=>rfl)) B Zw sn;have Zz:=mr (FnAt X gG p29 (nG rfl λ_ _ _ _ _ _ _=>rfl)) B ZI (Z5.mono (by decide:1<=3));have Zm:=je G (FnAt X gG p33 (eI rfl λ_ _ _ _ _ _ _ _=>rfl)) B ZJ;have c_ways:=HY (FnAt X gG p37 (FC rfl λ_ _ _ _ _ _ _ _ _=>rfl)) B (Ds.mono (by decide:2<=3)) ZJ (Zp.mono (by decide:1<=3));have Zc:=ic (FnAt X gG p44 (FC rfl λ_ _ _ _ _ _ _ _ _=>rfl)) B sn;have Zx:=mz (FnAt X gG p56 (eI rfl λ_ _ _ _ _ _ _ _=>rfl)) B (vt.mono (by decide:1<=3)) ZO (ZD.mono (by decide:2<=3)) (ip.mono (by decide:1<=3)) (Y9.mono (by decide:1<=3)) Zb;have Zd:=ib (FnAt X gG p60 (eI rfl λ_ _ _ _ _ _ _ _=>rfl)) B (vt.mono (by decide:1<=3)) (ip.mono (by decide:1<=3)) (Y9.mono (by decide:1<=3)) Zb;have Z6:=yU (FnAt X gG p11 (nG rfl λ_ _ _ _ _ _ _=>rfl)) B (ZH.mono (by decide:2<=4)) ZT (xv.mono (by decide:1<=4)) (Zy.mono (by decide:3<=4));have Zj:=jj (FnAt X gG p21 (nG rfl λ_ _ _ _ _ _ _=>rfl)) B (sn.mono (by decide:3<=4)) c_road;have Zv:=jZ G (FnAt X gG p34 (OY rfl λ_ _ _ _ _ _ _ _ _ _=>rfl)) B (c_picks.mono (by decide:2<=4)) (ZU.mono (by decide:1<=4)) (c_plus.mono (by decide:3<=4)) Zm;have Zk:=jh (FnAt X gG p45 (Ot rfl λ_ _ _ _ _ _ _ _ _ _ _=>rfl)) B Zz (Dv.mono (by decide:2<=4)) (xy.mono (by decide:1<=4)) Zc (Zp.mono (by decide:1<=4));have Y7:=fW (FnAt X gG p59 (eI rfl λ_ _ _ _ _ _ _ _=>rfl)) B Zx (vt.mono (by decide:1<=4)) (ip.mono (by decide:1<=4)) (Zu.mono (by decide:2<=4)) (ZY.mono (by decide:3<=4));have Ze:=ia (FnAt X gG p12 (nG rfl λ_ _ _ _ _ _ _=>rfl)) B Z6;have Zn:=jd (FnAt X gG p35 (nG rfl λ_ _ _ _ _ _ _=>rfl)) B (sn.mono (by decide:3<=5)) (Z1.mono (by decide:4<=5)) Zv;have Zl:=jf (FnAt X gG p61 (eI rfl λ_ _ _ _ _ _ _ _=>rfl)) B (Zd.mono (by decide:4<=5)) Y7 (ip.mono (by decide:1<=5));have ZB:=oS (FnAt X gG p23 (nG rfl λ_ _ _ _ _ _ _=>rfl)) B (Z1.mono (by decide:4<=6)) Ze (ZE.mono (by decide:1<=6)) (Fx.mono (by decide:2<=6));have ZX:=Ic (FnAt X gG p42 (nG rfl λ_ _ _ _ _ _ _=>rfl)) B (Zj.mono (by decide:5<=7)) (Zn.mono (by decide:6<=7)) ZB (ZI.mono (by decide:3<=7)) (xy.mono (by decide:1<=7));have Zi:=jk (FnAt X gG p43 (nG rfl λ_ _ _ _ _ _ _=>rfl)) B ZX;have c_gain:=Ib (FnAt X gG p46 (FC rfl λ_ _ _ _ _ _ _ _ _=>rfl)) B Zi (Zk.mono (by decide:5<=9)) (Z7.mono (by decide:3<=9));have Zs:=j5 (FnAt X gG p65 (eI rfl λ_ _ _ _ _ _ _ _=>rfl)) B (ZN.mono (by decide:3<=10)) (c_ways.mono (by decide:4<=10)) (ZV.mono (by decide:1<=10)) c_gain (ZZ.mono (by decide:3<=10));exact K0 (P:=Pg) (w:=w) (base:=base) (Fm (st:=top 88) lL cL kL) B (Zl.mono (by decide:6<=11)) (ZX.mono (by decide:8<=11)) Zs (Za.mono (by decide:3<=11))
end K89
theorem PySem.Challenge.cw_vesselhall_k89_as_much_comes_as_goes_holds : PySem.Challenge.rw_vesselhall_k89_as_much_comes_as_goes.Holds := by
 exact K89.fin
#print axioms PySem.Challenge.cw_vesselhall_k89_as_much_comes_as_goes_holds

import PyProof.Rows.All
import Wide.All
import OpenK.AllK
import Wide.FinOn
import PyProof.EqAt
import PyProof.EqKinds
import PyProof.TupleCall
import PySem.SetTable
import Wide.Seal
import Lean
import PySem.Challenge.RW_vesselhall_k33_all_counts_come_to
set_option Elab.async false
set_option linter.all false
set_option maxRecDepth 100000
set_option maxHeartbeats 4000000
namespace HdT
open PySem PySem.W
def grow:BT→Nat→List Obj→BT
 | T,_,[]=>T
 | T,n,o :: os=>grow (T.ins n o) (n+1) os
def growOk:BT→Nat→List Obj→Bool
 | _,_,[]=>true
 | T,n,o :: os=>match ((T.ins n o).get n).isSome with
  | true=>growOk (T.ins n o) (n+1) os
  | false=>false
theorem grow_abs:∀(os:List Obj) (T:BT) (n:Nat) (life:Life),growOk T n os=true→absHeap (grow T n os) (n+os.length) life = ⟨(absHeap T n life).objs++os.toArray,life⟩
 | [],T,n,life,_=>by
  show absHeap T n life=_
  rw [show ([]:List Obj).toArray = #[] from rfl,Array.append_empty]
  rfl
 | o :: os,T,n,life,h=>by
  unfold growOk at h
  split at h
  ·rename_i e
   have ih:=grow_abs os (T.ins n o) (n+1) life h
   rw [absHeap_ins e] at ih
   show absHeap (grow (T.ins n o) (n+1) os) (n+(os.length+1)) life=_
   rw [show n+(os.length+1)=n+1+os.length by omega,ih]
   show Heap.mk ((absHeap T n life).objs.push o++os.toArray) life=Heap.mk ((absHeap T n life).objs++(o :: os).toArray) life
   congr 1
   simp
  ·cases h
def runT(tb:String→Option Builtin)(p:Program)(w:World)(n₀ : Nat)(ann:Option Value):Nat→SharedT→Thread→Option SharedT
 | 0,_,_=>none
 | n+1,s,t=>match through t with
  | true=>some s
  | false=>match stepOk n₀ ann t with
   | false=>none
   | true=>match stepT (denote tb) p w s t with
    | some (s',t')=>runT tb p w n₀ ann n s' t'
    | none=>none
theorem runT_of{tb:String→Option Builtin}{p:Program}{w:World}{n₀ : Nat}{ann:Option Value}:∀{n:Nat} {s r:SharedT} {t:Thread},runT tb p w n₀ ann n s t=some r→topRun tb p w n₀ ann n s.abs t=some r.abs
 | 0,_,_,_,h=>by cases h
 | n+1,s,r,t,h=>by
  unfold runT at h
  unfold topRun
  cases he:through t with
  | true=>rw [he] at h;cases h;rfl
  | false =>
   rw [he] at h
   cases hk:stepOk n₀ ann t with
   | false=>rw [hk] at h;cases h
   | true =>
    rw [hk] at h
    cases hs:stepT (denote tb) p w s t with
    | none=>rw [hs] at h;cases h
    | some x=>obtain ⟨s₂,t₂⟩:=x;rw [hs] at h;rw [stepT_spec hs];exact runT_of h
noncomputable def start0 (P:Params) (os:OsState):SharedT:=⟨grow .nil 0 (boot_heap P).objs.toList,(boot_heap P).objs.toList.length,(boot_heap P).life,Array.mk [],boot_drawn,boot_toks,os⟩
theorem start0_abs{P:Params}{os:OsState}(h:growOk .nil 0 (boot_heap P).objs.toList=true):(start0 P os).abs = ⟨boot_heap P,Array.mk [],boot_drawn,boot_toks,os⟩:=by
 have e:=grow_abs (boot_heap P).objs.toList .nil 0 (boot_heap P).life h
 rw [Nat.zero_add] at e
 unfold SharedT.abs start0
 simp only
 rw [e]
 congr 1
noncomputable def ends (tb:String→Option Builtin) (mods:List Str) (p:Program) (w:World) (N:Nat) (os:OsState):Option Shared :=
 match (boot_heap w.params).isNs mainGlobals with
 | true=>(runT tb p w (boot_heap w.params).objs.size ((boot_heap w.params).nsMap mainGlobals "__annotations__") N (start0 w.params os) (topStub p)).bind fun r =>
   match staticsOk mods (boot_heap w.params) r.abs.heap && namesBound p r.abs.heap && gensDone r.abs && laidKept (boot_heap w.params) r.abs.heap with
   | true=>some r.abs
   | false=>none
 | false=>none
theorem ends_of{p:Program}{w:World}{N:Nat}{os:OsState}{r:Shared}(g:growOk .nil 0 (boot_heap w.params).objs.toList=true)(h:ends treeTable (importedModules p.main.body) p w N os=some r):topFrom treeTable p w N ⟨boot_heap w.params,Array.mk [],boot_drawn,boot_toks,os⟩=some r:=by
 unfold ends at h
 unfold topFrom
 cases hi:(boot_heap w.params).isNs mainGlobals with
 | false=>rw [hi] at h;cases h
 | true =>
  rw [hi] at h
  simp only at h ⊢
  obtain ⟨x,hx,hr⟩:=Option.bind_eq_some_iff.mp h
  have:=runT_of hx
  rw [start0_abs g] at this
  show (topRun treeTable p w (boot_heap w.params).objs.size ((boot_heap w.params).nsMap mainGlobals "__annotations__") N ⟨boot_heap w.params,Array.mk [],boot_drawn,boot_toks,os⟩ (topStub p)).bind _=_
  rw [this]
  exact hr
theorem left{p q:Program}{loose:List Str}{Xt:Shared→Bool}{α : Type}{Yf:Shared→α}{Ya:World→α}{N:Nat}
  (e:opening p=plainProg p.main.scope.names) (hN:Nat.ble 600 N=true) (f:∀s,fenceModules? p s=some s) (g:∀w:World,growOk .nil 0 (boot_heap w.params).objs.toList=true)
  (h:∀w os,(ends treeTable (importedModules p.main.body) p w N os).map (fun s=>(openSeen q loose (importedModules p.main.body) Xt true s,Yf s))=some (openGood q loose,Ya w)):LeftO p q loose Xt Yf Ya N:=fun w=>by
 obtain ⟨s,hs,hv⟩:=Option.map_eq_some_iff.mp (boot_open e hN f w)
 unfold openEnds
 rw [hs]
 obtain ⟨heap,gens,drawn,toks,os⟩:=s
 obtain ⟨h1,h2⟩:=Prod.mk.inj hv
 obtain ⟨h2,h3⟩:=Prod.mk.inj h2
 obtain ⟨h3,h4⟩:=Prod.mk.inj h3
 subst h1 h2 h3 h4
 obtain ⟨r,hr,hv⟩:=Option.map_eq_some_iff.mp (h w os)
 show (topFrom treeTable p w N _).map _=_
 rw [ends_of (g w) hr]
 exact congrArg some hv
end HdT
namespace K33H
open PySem
def qv:PySem.Program:=PySem.W.view PySem.Challenge.pw_vesselhall_k33_all_counts_come_to [1,2,3,4,5,6,7,8,9,10,11,12,13,14,15,17,18,19,20,21,23,24,25,26,27,28,29,30,31,32,33,34,35,36,37,38,39,40,41,42,43,44]
theorem said(h:PySem.Challenge.rw_vesselhall_k33_all_counts_come_to.row.Holds):PySem.Challenge.rw_vesselhall_k33_all_counts_come_to.Holds:=by
 w_on;o_law;exact h
theorem booted{q:PySem.Program}{loose:List PySem.Str}{Xt:PySem.Shared→Bool}{α : Type}{Yf:PySem.Shared→α}{Ya:PySem.World→α}(h:∀w os,(HdT.ends PySem.treeTable (PySem.importedModules PySem.Challenge.pw_vesselhall_k33_all_counts_come_to.main.body) PySem.Challenge.pw_vesselhall_k33_all_counts_come_to w 8374 os).map (fun s=>(PySem.W.openSeen q loose (PySem.importedModules PySem.Challenge.pw_vesselhall_k33_all_counts_come_to.main.body) Xt true s,Yf s))=some (PySem.W.openGood q loose,Ya w)):PySem.W.LeftO PySem.Challenge.pw_vesselhall_k33_all_counts_come_to q loose Xt Yf Ya 8374 :=
 HdT.left (by kernel_rfl) (by decide) (fun s=>by kernel_rfl) (fun w=>by kernel_rfl) h
local macro_rules | `(tactic| o_head $H)=>`(tactic| refine PySem.W.holds_open (q:=K33H.qv) (loose:=[]) (Xt:=fun s=>PySem.W.xlAt K33H.qv [] s && PySem.W.recOk [] s) (XP:=PySem.W.XL K33H.qv []) (Yf:=PySem.W.Hook.obs $H) (Ya:=PySem.W.Hook.val $H) (YP:=PySem.W.Hook.says $H) (N:=8374) ?_ (PySem.W.Hook.of $H) (PySem.W.Hook.keeps $H) (fun s e=>PySem.W.xl_of s (Bool.and_eq_true_iff.mp e).1) PySem.W.XL.keeps (by rfl) (by rfl) (by rfl) (fun s e=>PySem.W.recFacts_of (Bool.and_eq_true_iff.mp e).2) (by rfl) (by first | assumption | decide +kernel) (by decide +kernel) ⟨rfl,rfl,rfl,rfl,rfl,by decide +kernel⟩ ?_ ?_)
set_option maxRecDepth 100000 in
set_option maxHeartbeats 0 in
open PySem.W PyProof.Rows in
theorem pre(hL:∀(α : Type) (Yf:PySem.Shared→α) (Ya:PySem.World→α),PySem.W.LeftO PySem.Challenge.pw_vesselhall_k33_all_counts_come_to qv [] (fun s=>PySem.W.xlAt qv [] s && PySem.W.recOk [] s) Yf Ya 8374)(hP:PySem.Challenge.rw_vesselhall_k33_all_counts_come_to.row.toRowW.promised)(hC:∀(YP:PySem.World→PySem.Heap→Prop) (d:DefRec),PySem.W.WalkO qv [] (PySem.W.XL qv []) YP PySem.Challenge.rw_vesselhall_k33_all_counts_come_to.row.toRowW d [] (fun f vs=>PySem.call f vs)):PySem.Challenge.rw_vesselhall_k33_all_counts_come_to.row.Holds:=by
 w_on;k_head
 ·exact hL _ _ _
 ·exact hP
 ·exact hC _ _
def asl:List Nat:=[2,3,15,22,23,24,25,28,35,36,37,40,47,48,49,52,59,60,61,64,71,72,73,76,83,84,85,88,95,96,97,100,107,109,110,112,113,114,115,116,119,126,128,129,131,132,133,134,135,138,145,147,148,150,151,152,153,154,157,164,165,166,169,176,177,178,181,188,189,190,193,200,201,202,205,212,213,214,217,220,221,222,225,226,227,229,230,232,233,234,236,237,239,240,241,243,244,246,247,248,250,251,253,254,255,257,258,260,261,262,264,265,267,268,269,271,272,274,275,276,278,279,281,282,283,285,286,288,289,290,292,293,295,296,297,300,301,302,304,305,307,308,309,311,312,314,315,316,318,319,321,322,323,325,326,328,329,330,332,333,335,336,337,339,340,342,343,344,346,347,349,350,351,353,354,356,357,358,360,361,363,364,365,368,369,370,372,373,375,376,377,379,380,382,383,384,387,388]
theorem asl_ok(P:PySem.Params):asl=(pre.heap_1 P).map (·.1):=by kernel_rfl
set_option maxRecDepth 100000 in
set_option maxHeartbeats 0 in
theorem seen(w:PySem.World)(os:PySem.OsState):(HdT.ends PySem.treeTable (PySem.importedModules PySem.Challenge.pw_vesselhall_k33_all_counts_come_to.main.body) PySem.Challenge.pw_vesselhall_k33_all_counts_come_to w 8374 os).map (fun s=>PySem.W.openSeen (PySem.W.view PySem.Challenge.pw_vesselhall_k33_all_counts_come_to [1,2,3,4,5,6,7,8,9,10,11,12,13,14,15,17,18,19,20,21,23,24,25,26,27,28,29,30,31,32,33,34,35,36,37,38,39,40,41,42,43,44]) [] (PySem.importedModules PySem.Challenge.pw_vesselhall_k33_all_counts_come_to.main.body) (fun s=>PySem.W.xlAt (PySem.W.view PySem.Challenge.pw_vesselhall_k33_all_counts_come_to [1,2,3,4,5,6,7,8,9,10,11,12,13,14,15,17,18,19,20,21,23,24,25,26,27,28,29,30,31,32,33,34,35,36,37,38,39,40,41,42,43,44]) [] s && PySem.W.recOk [] s) true s)=some (PySem.W.openGood (PySem.W.view PySem.Challenge.pw_vesselhall_k33_all_counts_come_to [1,2,3,4,5,6,7,8,9,10,11,12,13,14,15,17,18,19,20,21,23,24,25,26,27,28,29,30,31,32,33,34,35,36,37,38,39,40,41,42,43,44]) []):=by
 rw [PySem.W.Fast.te4187177175401517315,PySem.W.Fast.te5923862056798008813,PySem.W.Fast.te14364793385576792824,PySem.W.Fast.te16080469805223782286];kernel_rfl
set_option maxRecDepth 100000 in
set_option maxHeartbeats 0 in
theorem hook(w:PySem.World)(os:PySem.OsState):(HdT.ends PySem.treeTable (PySem.importedModules PySem.Challenge.pw_vesselhall_k33_all_counts_come_to.main.body) PySem.Challenge.pw_vesselhall_k33_all_counts_come_to w 8374 os).map (fun s=>asl.map s.heap.get?)=some ((pre.heap_1 w.params).map fun p=>some p.2):=by
 unfold asl;rw [PySem.W.Fast.te5923862056798008813,PySem.W.Fast.te14364793385576792824,PySem.W.Fast.te16080469805223782286];kernel_rfl
theorem hooks:PySem.W.LeftO PySem.Challenge.pw_vesselhall_k33_all_counts_come_to qv [] (fun s=>PySem.W.xlAt qv [] s && PySem.W.recOk [] s) (fun s=>asl.map s.heap.get?) (fun w=>(pre.heap_1 w.params).map fun p=>some p.2) 8374 :=
 booted (fun w=>fun os=>by
  obtain ⟨s,e,a⟩:=Option.map_eq_some_iff.mp (seen w os)
  have b:=hook w os
  rw [e] at b ⊢
  exact congrArg some (Prod.ext a (Option.some.inj b)))
end K33H
set_option Elab.async false
set_option linter.all false
set_option maxRecDepth 100000
set_option maxHeartbeats 4000000
set_option Elab.async false
set_option linter.all false
set_option maxRecDepth 100000
namespace L2
open PySem PySem.Spec PyProof.Rows
abbrev Key:=Sum Int Str
def keyIs:Key→Value→Bool
 | .inl k,v=>Value.isInt k v
 | .inr x,v=>Value.isStrOf x v
def keyH(w:World):Key→Int
 | .inl k=>hashInt k
 | .inr x=>hashStr w x
theorem keyIs_shape:∀{k:Key} {v:Value},keyIs k v=true→(∃i t,k=Sum.inl i∧v=Value.int i t)∨(∃x t,k=Sum.inr x∧v=Value.str x t)
 | .inl i,v,h=>by
  obtain ⟨t,e⟩:=Value.isInt_shape (k:=i) (v:=v) h
  exact .inl ⟨i,t,rfl,e⟩
 | .inr x,v,h=>by
  obtain ⟨t,e⟩:=Value.isStrOf_shape (x:=x) (v:=v) h
  exact .inr ⟨x,t,rfl,e⟩
theorem keyIs_int(i:Int)(t:Tok):keyIs (.inl i) (.int i t)=true:=by simp [keyIs,Value.isInt]
theorem keyIs_str(x:Str)(t:Tok):keyIs (.inr x) (.str x t)=true:=by simp [keyIs,Value.isStrOf]
theorem key_ll(a b:Int):decide ((Sum.inl a:Key)=Sum.inl b)=(a == b):=by
 by_cases e:a=b
 ·subst e;simp
 ·have h : ¬ (Sum.inl a:Key)=Sum.inl b:=fun q=>e (Sum.inl.inj q)
  rw [decide_eq_false h]
  exact (beq_eq_false_iff_ne.mpr e).symm
theorem key_rr(a b:Str):decide ((Sum.inr a:Key)=Sum.inr b)=decide (a=b):=by
 by_cases e:a=b
 ·subst e;simp
 ·have h : ¬ (Sum.inr a:Key)=Sum.inr b:=fun q=>e (Sum.inr.inj q)
  rw [decide_eq_false h,decide_eq_false e]
theorem key_lr(a:Int)(b:Str):decide ((Sum.inl a:Key)=Sum.inr b)=false:=decide_eq_false (fun q=>nomatch q)
theorem key_rl(a:Str)(b:Int):decide ((Sum.inr a:Key)=Sum.inl b)=false:=decide_eq_false (fun q=>nomatch q)
def mixKind(prog:Program)(w:World):PySem.KeyKind prog w Key where
 is:=keyIs
 hash:=keyH w
 inj:=fun v a b ha hb=>by
  rcases keyIs_shape ha with ⟨i,t,rfl,rfl⟩ | ⟨x,t,rfl,rfl⟩
  ·rcases keyIs_shape hb with ⟨j,u,rfl,e⟩ | ⟨y,u,rfl,e⟩
   ·injection e with e1 _;rw [e1]
   ·exact nomatch e
  ·rcases keyIs_shape hb with ⟨j,u,rfl,e⟩ | ⟨y,u,rfl,e⟩
   ·exact nomatch e
   ·injection e with e1 _;rw [e1]
 byValue:=fun k v h=>by
  rcases keyIs_shape h with ⟨i,t,rfl,rfl⟩ | ⟨x,t,rfl,rfl⟩ <;> rfl
 pyHash:=fun hv h=>by
  rcases keyIs_shape hv with ⟨i,t,rfl,rfl⟩ | ⟨x,t,rfl,rfl⟩
  ·exact wpAny_pyHash_int h
  ·exact wpAny_pyHash_str h
 eqBool:=fun hu hv h=>by
  rcases keyIs_shape hu with ⟨i,t,rfl,rfl⟩ | ⟨x,t,rfl,rfl⟩
  ·rcases keyIs_shape hv with ⟨j,u,rfl,rfl⟩ | ⟨y,u,rfl,rfl⟩
   ·rw [key_ll] at h;exact wpAny_eqBool_int h
   ·rw [key_lr] at h;exact SeqAt.EqAt.int_str i t y u _ _ _ _ h
  ·rcases keyIs_shape hv with ⟨j,u,rfl,rfl⟩ | ⟨y,u,rfl,rfl⟩
   ·rw [key_rl] at h;exact SeqAt.EqAt.str_int x t j u _ _ _ _ h
   ·rw [key_rr] at h;exact wpAny_eqBool_str h
 «strs»:=fun k x t v h=>by
  rcases keyIs_shape h with ⟨i,u,rfl,e⟩ | ⟨y,u,rfl,e⟩
  ·exact nomatch e
  ·injection e with e1 _
   subst e1
   cases v <;> rfl
theorem mixKind_int(prog:Program)(w:World)(i:Int)(t:Tok):(mixKind prog w).is (.inl i) (.int i t)=true:=keyIs_int i t
theorem mixKind_str(prog:Program)(w:World)(x:Str)(t:Tok):(mixKind prog w).is (.inr x) (.str x t)=true:=keyIs_str x t
end L2
namespace L2
open PySem PySem.Spec PyProof.Rows
inductive V where
 | non | bl (b:Bool) | int (i:Int) | str (x:Str) | byt (b:Array UInt8) | flt (b:UInt64) | ref (a:Addr) | ty (n:String)
 deriving DecidableEq
def RelV:V→Value→Prop
 | .non,u=>u=Value.none
 | .bl b,u=>u=Value.bool b
 | .int i,u=>∃t,u=Value.int i t
 | .str x,u=>∃t,u=Value.str x t
 | .byt b,u=>∃t,u=Value.bytes b t
 | .flt b,u=>∃t,u=Value.float b t
 | .ref a,u=>u=Value.ref a
 | .ty n,u=>u=Value.type n
abbrev Vals:List V→List Value→Prop:=Paired RelV
theorem Vals.length{xs:List V}{us:List Value}(r:Vals xs us):xs.length=us.length:=Paired.length r
theorem Vals.get:∀{xs:List V} {us:List Value} {i:Nat} {x:V},Vals xs us→xs[i]? = some x→∃u,us[i]? = some u∧RelV x u
 | _,_,_,_,.nil,e=>by simp at e
 | _,_,0,_,.cons r _,e=>by simp at e;subst e;exact ⟨_,rfl,r⟩
 | _,_,i+1,x,.cons _ t,e=>by
  obtain ⟨u,h1,h2⟩:=Vals.get (i:=i) (x:=x) t (by simpa using e)
  exact ⟨u,by simpa using h1,h2⟩
theorem Vals.set{x:V}{u:Value}(r:RelV x u):∀{xs:List V} {us:List Value} (i:Nat),Vals xs us→Vals (xs.set i x) (us.set i u)
 | _,_,_,.nil=>.nil
 | _,_,0,.cons _ t=>.cons r t
 | _,_,i+1,.cons q t=>.cons q (Vals.set r i t)
theorem Vals.append:∀{xs ys:List V} {us ws:List Value},Vals xs us→Vals ys ws→Vals (xs++ys) (us++ws)
 | _,_,_,_,.nil,s=>s
 | _,_,_,_,.cons r t,s=>.cons r (Vals.append t s)
theorem Vals.take:∀{xs:List V} {us:List Value} (n:Nat),Vals xs us→Vals (xs.take n) (us.take n)
 | _,_,0,_=>.nil
 | _,_,_+1,.nil=>.nil
 | _,_,n+1,.cons r t=>.cons r (Vals.take n t)
theorem Vals.drop:∀{xs:List V} {us:List Value} (n:Nat),Vals xs us→Vals (xs.drop n) (us.drop n)
 | _,_,0,r=>r
 | _,_,_+1,.nil=>.nil
 | _,_,n+1,.cons _ t=>Vals.drop n t
def RelO:Option V→Option Value→Prop
 | some v,some u=>RelV v u
 | none,none=>True
 | _,_=>False
def KV{κ : Type}:List (κ×V)→List (κ×Value)→Prop:=Paired fun (p : κ×V) (q : κ×Value)=>p.1=q.1∧RelV p.2 q.2
def kV:Key→V
 | .inl i=>.int i
 | .inr x=>.str x
inductive HO where
 | lst (xs:List V)
 | tup (xs:List V)
 | dK (kvs:List (Key×V)) | dT (kvs:List (List Key×V))
 | set (S:Int→Bool) (n:Nat)
 | ins (C dx:Addr) (fs:List (Str×V))
 | own (x:Addr)
 | xd (fs:List (Str×V))
 | met (f x:Addr)
 | rng (lo hi:Int)
 | frz (o:Obj) (u:HO)
 | tbl (ps:Array Value)
 | ext (φ : Heap→Prop)
abbrev Hp:=Addr→Option HO
def upd(H:Hp)(a:Addr)(o:HO):Hp:=fun b=>if b=a then some o else H b
theorem upd_same{H:Hp}{a:Addr}{o:HO}:upd H a o a=some o:=by unfold upd;rw [if_pos rfl]
theorem upd_ne{H:Hp}{a b:Addr}{o:HO}(h:b≠a):upd H a o b=H b:=by unfold upd;rw [if_neg h]
theorem ne_of{H:Hp}{a b:Addr}{o u:HO}(h:H a=some o)(h':H b=some u)(d:o≠u):a≠b:=by
 intro e;subst e;rw [h] at h';exact d (Option.some.inj h')
theorem ne_of_none{H:Hp}{a b:Addr}{o:HO}(h:H a=some o)(h':H b=none):a≠b:=by
 intro e;subst e;rw [h] at h';cases h'
section
variable(P:Program)(w:World)
def ObjOk(H:Hp)(h:Heap)(a:Addr):HO→Prop
 | .lst xs=>xs.length≤sizeLine∧∃(its:List Value) (n:Nat),Vals xs its∧h.get? a=some { cls:=.type "list",data:=.seq its.toArray n }
 | .tup xs=>xs.length≤sizeLine∧∃its:List Value,Vals xs its∧IsTup h a its.toArray
 | .dK kvs=>kvs.length≤sizeLine∧(a == sysModules)=false∧∃vs,KV kvs vs∧h.DictOf (mixKind P w) a vs
 | .dT kvs=>kvs.length≤sizeLine∧(a == sysModules)=false∧∃xs:List (List Key×Addr×Value),
   Paired (fun (p:List Key×V) (q:List Key×Addr×Value)=>p.1=q.1∧H q.2.1=some (.tup (p.1.map kV))∧RelV p.2 q.2.2) kvs xs ∧
   ∃o es ep,h.get? a=some o∧o.ExactDict∧o.data = .dict es ep∧es.toList=xs.map (entryOfKey (tupleKind (mixKind P w)))∧(xs.map (·.1)).Nodup
 | .set S n=>h.SetOf (intKind P w) a S n
 | .ins C dx fs=>H dx=some (.own a)∧fs.length≤1000∧dx≠a∧h.get? a=some (PySem.W.instObj C dx) ∧
   ∃mA,h.Ns1 dx mA∧(∀f,RelO (fs.lookup f) (mA f))∧PySem.Within mA (fs.map (·.1))
 | .own _=>∃o,h.get? a=some o
 | .xd fs=>∃mA,h.Ns1 a mA∧∀f,RelO (fs.lookup f) (mA f)
 | .rng lo hi=>∃t u v,h.get? a=some { cls:=.type "range",data:=.fields #[.int lo t,.int hi u,.int 1 v] }
 | .frz o u=>h.get? a=some o∧ObjOk H h a u
 | .tbl ps=>h.get? a=some { cls:=.none,data:=.fields ps }
 | .met f x=>h.get? a=some (PySem.W.methodObj (.ref f) (.ref x))
 | .ext φ=>φ h∧(∃o,h.get? a=some o)∧∀h1 h2:Heap,φ h1→(∀o,h1.get? a=some o→h2.get? a=some o)→φ h2
def HOk(H:Hp)(h:Heap):Prop:=∀a o,H a=some o→ObjOk P w H h a o
end
section
variable{P:Program}{w:World}{H H':Hp}{h h':Heap}{a:Addr}{o:HO}
theorem ObjOk.lt(x:ObjOk P w H h a o):a < h.objs.size:=by
 cases o with
 | lst xs=>obtain ⟨_,_,_,_,e⟩:=x;exact Heap.lt_size e
 | tup xs=>obtain ⟨_,_,_,p⟩:=x;exact p.lt
 | dK kvs=>obtain ⟨_,_,_,_,o,_,_,e,_⟩:=x;exact Heap.lt_size e
 | dT kvs=>obtain ⟨_,_,_,_,o,_,_,e,_⟩:=x;exact Heap.lt_size e
 | set S n=>obtain ⟨o,_,_,_,e,_⟩:=x;exact Heap.lt_size e
 | ins C dx fs=>obtain ⟨_,_,_,e,_⟩:=x;exact Heap.lt_size e
 | own y=>obtain ⟨_,e⟩:=x;exact Heap.lt_size e
 | xd fs=>obtain ⟨_,⟨_,_,_,e,_⟩,_⟩:=x;exact Heap.lt_size e
 | rng lo hi=>obtain ⟨_,_,_,e⟩:=x;exact Heap.lt_size e
 | frz ob u=>obtain ⟨e,_⟩:=x;exact Heap.lt_size e
 | tbl ps=>exact Heap.lt_size (show h.get? a=some _ from x)
 | met f y=>exact Heap.lt_size (show h.get? a=some _ from x)
 | ext φ=>obtain ⟨_,⟨_,e⟩,_⟩:=x;exact Heap.lt_size e
theorem Paired.mapP{α β : Type}{F G : α→β→Prop}:∀{l₁ : List α} {l₂ : List β},Paired F l₁ l₂→(∀a b,F a b→G a b)→Paired G l₁ l₂
 | _,_,.nil,_=>.nil
 | _,_,.cons r t,f=>.cons (f _ _ r) (Paired.mapP t f)
theorem ObjOk.stay(x:ObjOk P w H h a o)(k:∀b u,(b=a∨H b=some (.own a))→h.get? b=some u→h'.get? b=some u)
  (ho:∀b,H b=some (.own a)→H' b=some (.own a)) (ht:∀b xs,H b=some (.tup xs)→H' b=some (.tup xs)):ObjOk P w H' h' a o:=by
 induction o with
 | lst xs=>obtain ⟨z,its,n,r,e⟩:=x;exact ⟨z,its,n,r,k _ _ (.inl rfl) e⟩
 | tup xs=>obtain ⟨z,its,r,ob,e,c⟩:=x;exact ⟨z,its,r,ob,k _ _ (.inl rfl) e,c⟩
 | dK kvs=>obtain ⟨z,y,vs,r,ob,es,ep,e,c⟩:=x;exact ⟨z,y,vs,r,ob,es,ep,k _ _ (.inl rfl) e,c⟩
 | dT kvs =>
  obtain ⟨z,y,xs,r,ob,es,ep,e,c⟩:=x
  exact ⟨z,y,xs,Paired.mapP r fun p q z=>⟨z.1,ht _ _ z.2.1,z.2.2⟩,ob,es,ep,k _ _ (.inl rfl) e,c⟩
 | set S n=>obtain ⟨ob,es,ep,t,e,c⟩:=x;exact ⟨ob,es,ep,t,k _ _ (.inl rfl) e,c⟩
 | ins C dx fs =>
  obtain ⟨d,z,ne,e,mA,⟨od,es,ep,e2,c⟩,r⟩:=x
  exact ⟨ho _ d,z,ne,k _ _ (.inl rfl) e,mA,⟨od,es,ep,k _ _ (.inr d) e2,c⟩,r⟩
 | own y=>obtain ⟨ob,e⟩:=x;exact ⟨ob,k _ _ (.inl rfl) e⟩
 | xd fs=>obtain ⟨mA,⟨od,es,ep,e,c⟩,r⟩:=x;exact ⟨mA,⟨od,es,ep,k _ _ (.inl rfl) e,c⟩,r⟩
 | rng lo hi=>obtain ⟨t,u,v,e⟩:=x;exact ⟨t,u,v,k _ _ (.inl rfl) e⟩
 | frz ob u ih=>obtain ⟨e,q⟩:=x;exact ⟨k _ _ (.inl rfl) e,ih q⟩
 | tbl ps =>
  have e:h.get? a=some { cls:=.none,data:=.fields ps }:=x
  show h'.get? a=some { cls:=.none,data:=.fields ps }
  exact k a _ (.inl rfl) e
 | met f y =>
  have e:h.get? a=some (PySem.W.methodObj (.ref f) (.ref y)):=x
  show h'.get? a=some (PySem.W.methodObj (.ref f) (.ref y))
  exact k a _ (.inl rfl) e
 | ext φ=>obtain ⟨p,⟨o,e⟩,st⟩:=x;exact ⟨st _ _ p fun o q=>k _ _ (.inl rfl) q,⟨o,k _ _ (.inl rfl) e⟩,st⟩
theorem HOk.lt(x:HOk P w H h)(e:H a=some o):a < h.objs.size:=(x a o e).lt
theorem HOk.fresh(x:HOk P w H h)(e:h.objs.size≤a):H a=none:=by
 cases q:H a with
 | none=>rfl
 | some u=>exact absurd (Nat.lt_of_lt_of_le (x.lt q) e) (Nat.lt_irrefl _)
theorem HOk.kept(x:HOk P w H h)(k:∀b u,h.get? b=some u→h'.get? b=some u):HOk P w H h':=fun a o e =>
 (x a o e).stay (fun b u _ q=>k b u q) (fun _ q=>q) fun _ _ q=>q
theorem HOk.laid(x:HOk P w H h)(k:∀b u,h.get? b=some u→h'.get? b=some u)(hp:h.objs.size≤a)(new:ObjOk P w (upd H a o) h' a o):HOk P w (upd H a o) h':=fun b u e=>by
 have hn:=x.fresh hp
 by_cases hb:b=a
 ·subst hb;rw [upd_same] at e;cases e;exact new
 ·rw [upd_ne hb] at e
  exact (x b u e).stay (fun c v _ q=>k c v q) (fun c q=>by rw [upd_ne (ne_of_none q hn)];exact q) fun c xs q=>by rw [upd_ne (ne_of_none q hn)];exact q
end
def Rd(H:Hp)(a:Addr)(u:HO):Prop:=H a=some u∨∃o,H a=some (.frz o u)
theorem Rd.ok{P:Program}{w:World}{H:Hp}{h:Heap}{a:Addr}{u:HO}(r:Rd H a u)(x:HOk P w H h):ObjOk P w H h a u:=by
 rcases r with r | ⟨o,r⟩
 ·exact x a u r
 ·obtain ⟨_,q⟩:=x a _ r
  exact q
def Mut:Option HO→Prop
 | some (.lst _)=>True
 | some (.dK _)=>True
 | some (.dT _)=>True
 | some (.set _ _)=>True
 | some (.ins _ _ _)=>True
 | some (.ext _)=>True
 | _=>False
section
variable{P:Program}{w:World}{H:Hp}{h h':Heap}{x e:Addr}{o':HO}
theorem HOk.write(ok:HOk P w H h)(mu:Mut (H x))(he:e=x∨H e=some (.own x))(k:∀b u,b≠e→h.get? b=some u→h'.get? b=some u)(heo:∃u,h'.get? e=some u)
  (new:ObjOk P w (upd H x o') h' x o'):HOk P w (upd H x o') h':=fun b u q=>by
 have nown:∀c y,H c=some (.own y)→c≠x:=fun c y r z=>by subst z;rw [r] at mu;exact mu
 have ntup:∀c xs,H c=some (.tup xs)→c≠x:=fun c xs r z=>by subst z;rw [r] at mu;exact mu
 by_cases hb:b=x
 ·subst hb;rw [upd_same] at q;cases q;exact new
 ·rw [upd_ne hb] at q
  by_cases hbe:b=e
  ·have q':H b=some (.own x):=by
    rcases he with z | z
    ·exact absurd (hbe.trans z) hb
    ·rw [hbe];exact z
   rw [q] at q';cases q'
   obtain ⟨v,hv⟩:=heo
   exact ⟨v,by rw [hbe];exact hv⟩
  ·refine (ok b u q).stay (fun c v hc r=>k c v ?_ r) (fun c r=>by rw [upd_ne (nown c b r)];exact r) fun c xs r=>by rw [upd_ne (ntup c xs r)];exact r
   rcases hc with rfl | hc
   ·exact hbe
   ·rintro rfl
    rcases he with z | z
    ·exact nown c b hc z
    ·rw [hc] at z;cases z;exact hb rfl
end
structure Un (fs ex:List Addr) (H H':Hp) (h h':Heap):Prop where
 keep:∀b o,h.get? b=some o→H b=none→b∉fs→b∉ex→h'.get? b=some o
 slot:∀b o,h.get? b=some o→H b=none→b∈fs→b∉ex→∃sl,h'.get? b=some { o with slots:=sl }
 free:∀b o,h.get? b=some o→H b=none→b∉ex→H' b=none
 there:∀b o,h.get? b=some o→b∉ex→∃o',h'.get? b=some o'
 tups:∀b xs,H b=some (.tup xs)→H' b=some (.tup xs)
 frzs:∀b o u,H b=some (.frz o u)→H' b=some (.frz o u)
 tbls:∀b ps,H b=some (.tbl ps)→∃more,H' b=some (.tbl (ps++more))
section
variable{fs fs' ex ex':List Addr}{H H1 H2:Hp}{h h1 h2 h':Heap}{a x e:Addr}{o:HO}
theorem Un.any(u:Un fs ex H H1 h h1){b:Addr}{ob:Obj}(q:h.get? b=some ob)(n:H b=none)(hx:b∉ex):∃sl,h1.get? b=some { ob with slots:=sl }:=by
 by_cases hb:b∈fs
 ·exact u.slot b ob q n hb hx
 ·exact ⟨ob.slots,u.keep b ob q n hb hx⟩
theorem Un.kept(k:∀b u,h.get? b=some u→h'.get? b=some u):Un fs ex H H h h' :=
 ⟨fun b ob q _ _ _=>k b ob q,fun b ob q _ _ _=>⟨ob.slots,k b ob q⟩,fun _ _ _ n _=>n,fun b ob q _=>⟨ob,k b ob q⟩,fun _ _ q=>q,fun _ _ _ q=>q,fun _ ps q=>⟨#[],by rw [q];simp⟩⟩
theorem Un.refl:Un fs ex H H h h:=Un.kept fun _ _ q=>q
theorem Un.laid(k:∀b u,h.get? b=some u→h'.get? b=some u)(hp:h.objs.size≤a)(hn:H a=none):Un fs ex H (upd H a o) h h' where
 keep:=fun b u q _ _ _=>k b u q
 slot:=fun b u q _ _ _=>⟨u.slots,k b u q⟩
 free:=fun b u q n _=>by rw [upd_ne (Nat.ne_of_lt (Nat.lt_of_lt_of_le (Heap.lt_size q) hp))];exact n
 there:=fun b u q _=>⟨u,k b u q⟩
 tups:=fun b xs q=>by rw [upd_ne (ne_of_none q hn)];exact q
 frzs:=fun b u xs q=>by rw [upd_ne (ne_of_none q hn)];exact q
 tbls:=fun b ps q=>⟨#[],by rw [upd_ne (ne_of_none q hn),q];simp⟩
theorem Un.write(mu:Mut (H x))(he:e=x∨H e=some (.own x))(k:∀b u,b≠e→h.get? b=some u→h'.get? b=some u)(heo:∃u,h'.get? e=some u):Un fs ex H (upd H x o) h h':=by
 have hx:∀b,H b=none→b≠x:=fun b n z=>by subst z;rw [n] at mu;exact mu
 have hb:∀b,H b=none→b≠e:=fun b n z=>by
  subst z
  rcases he with r | r
  ·exact hx b n r
  ·rw [n] at r;cases r
 have hm:∀b u,H b=some u→¬ Mut (some u)→b≠x:=fun b u q nm z=>by subst z;rw [q] at mu;exact nm mu
 refine ⟨fun b u q n _ _=>k b u (hb b n) q,fun b u q n _ _=>⟨u.slots,k b u (hb b n) q⟩,fun b u q n _=>by rw [upd_ne (hx b n)];exact n,fun b u q _=>?_,
  fun b xs q=>by rw [upd_ne (hm b _ q fun z=>z)];exact q,fun b u xs q=>by rw [upd_ne (hm b _ q fun z=>z)];exact q,fun b ps q=>⟨#[],by rw [upd_ne (hm b _ q fun z=>z),q];simp⟩⟩
 by_cases hbe:b=e
 ·subst hbe;exact heo
 ·exact ⟨u,k b u hbe q⟩
end
def trk(h:Heap)(H:Hp):List Addr:=(List.range h.objs.size).filter fun a=>(H a).isSome
def hidT(h:Heap)(H:Hp):Heap:=PySem.W.hideAll h (trk h H)
theorem hidT_size(h:Heap)(H:Hp):(hidT h H).objs.size=h.objs.size:=PySem.W.hideAll_size _ _
theorem hidT_get{h:Heap}{H:Hp}{b:Addr}{o:Obj}(e:h.get? b=some o)(n:H b=none):(hidT h H).get? b=some o :=
 PySem.W.hideAll_get _ e fun hm=>by
  have q:(H b).isSome=true:=(List.mem_filter.mp hm).2
  rw [n] at q;simp at q
theorem of_hidT{h:Heap}{H:Hp}{b:Addr}{o:Obj}(e:(hidT h H).get? b=some o):h.get? b=some o∧H b=none:=by
 have e':h.get? b=some o:=PySem.W.of_hideAll (trk h H) e
 refine ⟨e',?_⟩
 cases q:H b with
 | none=>rfl
 | some x =>
  have hm:b∈trk h H:=List.mem_filter.mpr ⟨List.mem_range.mpr (Heap.lt_size e'),by simp [q]⟩
  have z:(hidT h H).get? b=none:=PySem.W.hideAll_none (trk h H) hm
  rw [z] at e;cases e
end L2
namespace L2
open PySem PySem.Spec PyProof.Rows
structure Mod (K:PySem.W.Frag) (mg:Str→Option Value) (base:Heap):Prop where
 kin:K.In base
 glob:base.Ns mainGlobals mg
 blt:∃mb,base.Ns builtinsNs mb∧∀x:Str,x≠"__name__"→mb x=bootBuiltins x
 nolimit:base.NoLimit
structure Cx where
 prog:Program
 w:World
 K:PySem.W.Frag
 mg:Str→Option Value
 base:Heap
 A:Around
 N:List Str
 s₀ : Shared
 H₀ : Hp
 env:Env
 outer:List Env
 stack:List Env
 ex:List Addr
 fn:Str→Bool
 calm:Bool
 pn:List (Addr×Obj)
 xe:Value→Shared→Prop
def frs(l:List Env):List Addr:=l.filterMap (·.frame)
abbrev Cx.fs(X:Cx):List Addr:=frs X.outer
def Vis(sc:Scope)(x:Str):Prop:=sc.names.lookup x=some .local∨sc.names.lookup x=some .cell∨sc.names.lookup x=some .free
def Loc(sc:Scope)(x:Str):Prop:=sc.names.lookup x=some .local∨sc.names.lookup x=some .cell
def Look(env:Env)(h:Heap)(m:Str→Option Value)(x:Str)(u:Value):Prop :=
 (env.kindOf x=some .local∧m x=some u)∨((env.kindOf x=some .cell∨env.kindOf x=some .free)∧∃c,env.cells.lookup x=some c∧h.IsCell c (some u))
structure Cx.Ok (X:Cx):Prop where
 mod:Mod X.K X.mg X.base
 kind:X.env.scope.kind = .function
 glob:X.env.globals=mainGlobals
 blt:X.env.builtins=builtinsNs
 above:X.s₀.heap.objs.size≤X.env.locals
 inj:∀x y c,X.env.cells.lookup x=some c→X.env.cells.lookup y=some c→x=y
 has:∀x,(X.env.kindOf x=some .cell∨X.env.kindOf x=some .free)→∃c,X.env.cells.lookup x=some c
 cab:∀x c,X.fn x=true→X.env.cells.lookup x=some c→X.s₀.heap.objs.size≤c
 hd:X.calm=true→X.A.handled=none
 frames:X.A.frames=some X.stack
 stk:X.stack=X.outer∨(X.stack=X.env :: X.outer∧X.env.frame=some X.env.locals)
 exf:∀b∈X.ex,b≠X.env.locals∧∀x c,X.env.cells.lookup x=some c→c≠b
 bs:∀b o,X.base.get? b=some o→X.s₀.heap.get? b=some o∧X.H₀ b=none
 bsz:X.base.objs.size≤X.s₀.heap.objs.size
 noex:∀b o,X.base.get? b=some o→b∉X.ex
 exfs:∀b∈X.ex,b∉X.fs
 funs:X.s₀.heap.FunFrames X.base X.outer
 frf:∀b∈X.fs,X.H₀ b=none
structure Inv (X:Cx) (pins:List (Addr×Obj)) (σ : List (Option V)) (H:Hp) (s:Shared):Prop where
 ok:X.Ok
 os:s.os=X.s₀.os
 bare:AllBare s.gens
 base:Un X.fs X.ex X.H₀ H X.s₀.heap s.heap
 loc:∃m,s.heap.Ns X.env.locals m∧∀(i:Nat) (x:Str) (v:V),X.N[i]? = some x→σ[i]? = some (some v)→Vis X.env.scope x→∃u,RelV v u∧Look X.env s.heap m x u
 cell:∀x c,X.env.cells.lookup x=some c→∃v,s.heap.IsCell c v
 free:H X.env.locals=none
 freeC:∀x c,X.env.cells.lookup x=some c→H c=none
 pin:∀p∈X.pn++pins,s.heap.get? p.1=some p.2∧H p.1=none∧p.1≠X.env.locals∧p.1∉X.fs∧∀v,p.2.data≠.cell v
 hok:HOk X.prog X.w H s.heap
 len : σ.length=X.N.length
section
variable{X:Cx}{pins:List (Addr×Obj)}{σ : List (Option V)}{H H':Hp}{s:Shared}{h':Heap}
theorem Cx.Ok.nofr(ok:X.Ok){b:Addr}{o:Obj}(e:X.base.get? b=some o):b∉X.fs:=fun hb=>by
 have:=(ok.funs.mem hb).1
 rw [e] at this;cases this
theorem Inv.bs(I:Inv X pins σ H s):∀b o,X.base.get? b=some o→s.heap.get? b=some o∧H b=none:=fun b o e =>
 ⟨I.base.keep b o (I.ok.bs b o e).1 (I.ok.bs b o e).2 (I.ok.nofr e) (I.ok.noex b o e),I.base.free b o (I.ok.bs b o e).1 (I.ok.bs b o e).2 (I.ok.noex b o e)⟩
theorem Inv.bk(I:Inv X pins σ H s):∀b o,X.base.get? b=some o→s.heap.get? b=some o:=fun b o e=>(I.bs b o e).1
theorem Inv.mod(I:Inv X pins σ H s):Mod X.K X.mg X.base:=I.ok.mod
theorem Inv.kIn(I:Inv X pins σ H s):X.K.In s.heap:=I.ok.mod.kin.keeps I.bk
theorem Inv.lt(I:Inv X pins σ H s):X.env.locals < s.heap.objs.size:=let ⟨_,hn,_⟩:=I.loc;hn.lt
theorem Inv.sz(I:Inv X pins σ H s):X.s₀.heap.objs.size≤s.heap.objs.size:=Nat.le_trans I.ok.above (Nat.le_of_lt I.lt)
theorem Inv.nofs(I:Inv X pins σ H s){a:Addr}(h:s.heap.objs.size≤a):a∉X.fs:=fun hb=>by
 obtain ⟨_,o,ho,_⟩:=I.ok.funs.mem hb
 exact absurd (Nat.lt_of_lt_of_le (Heap.lt_size ho) (Nat.le_trans I.sz h)) (Nat.lt_irrefl _)
theorem Inv.cne(I:Inv X pins σ H s):∀x c,X.env.cells.lookup x=some c→c≠X.env.locals:=fun x c e z=>by
 obtain ⟨v,o,ho,hd⟩:=I.cell x c e
 obtain ⟨m,⟨o',es,ep,ho',hd',_⟩,_⟩:=I.loc
 rw [z,ho'] at ho;cases ho;rw [hd'] at hd;cases hd
theorem Inv.funs(I:Inv X pins σ H s):s.heap.FunFrames X.base X.outer:=by
 have all:∀(l:List Env),(∀b∈frs l,b∈X.fs)→X.s₀.heap.FunFrames X.base l→s.heap.FunFrames X.base l:=by
  intro l
  induction l with
  | nil=>intro _ _;trivial
  | cons env r ih =>
   intro hs hl
   obtain ⟨hk,⟨L,o,hf,hn,ho,hd⟩,hr⟩:=hl
   have hL:L∈X.fs:=hs L (by unfold frs;rw [List.filterMap_cons,hf];exact List.mem_cons_self)
   obtain ⟨sl,e⟩:=I.base.slot L o ho (I.ok.frf L hL) hL fun z=>I.ok.exfs L z hL
   exact ⟨hk,⟨L,_,hf,hn,e,hd⟩,ih (fun b hb=>hs b (by unfold frs;rw [List.filterMap_cons,hf];exact List.mem_cons_of_mem _ hb)) hr⟩
 exact all X.outer (fun _ hb=>hb) I.ok.funs
theorem Inv.stack(I:Inv X pins σ H s):s.heap.FunFrames X.base X.stack:=by
 rcases I.ok.stk with e | ⟨e,hf⟩
 ·rw [e];exact I.funs
 ·rw [e]
  obtain ⟨m,hn,_⟩:=I.loc
  refine .cons (by rw [I.ok.kind];decide) hf hn ?_ I.funs
  exact Heap.get?_none_of_le (Nat.le_trans I.ok.bsz I.ok.above)
theorem Inv.stkSub(I:Inv X pins σ H s):∀b∈frs X.stack,b∈X.env.locals :: X.fs:=fun b hb=>by
 rcases I.ok.stk with e | ⟨e,hf⟩
 ·rw [e] at hb;exact List.mem_cons_of_mem _ hb
 ·rw [e] at hb
  unfold frs at hb
  rw [List.filterMap_cons,hf] at hb
  exact hb
theorem Inv.stkFree(I:Inv X pins σ H s):∀b∈frs X.stack,H b=none:=fun b hb=>by
 rcases List.mem_cons.mp (I.stkSub b hb) with e | hb
 ·rw [e];exact I.free
 ·obtain ⟨_,o,ho,_⟩:=I.ok.funs.mem hb
  exact I.base.free b o ho (I.ok.frf b hb) fun z=>I.ok.exfs b z hb
theorem Inv.step{g':Array GenState}{t':Nat}{d':Drawn}{ch:List Addr}(I:Inv X pins σ H s)
  (hch:∀b∈ch,(b∈X.ex∨X.s₀.heap.objs.size≤b)∧b≠X.env.locals∧(∀x c,X.env.cells.lookup x=some c→c≠b)∧∀p∈X.pn++pins,p.1≠b)
  (keep:∀b o,b≠X.env.locals→b∉X.fs→b∉ch→s.heap.get? b=some o→H b=none→h'.get? b=some o)
  (slot:∀b o,b≠X.env.locals→b∈X.fs→b∉ch→s.heap.get? b=some o→H b=none→∃sl,h'.get? b=some { o with slots:=sl }) (free:∀b o,b∉ch→s.heap.get? b=some o→H b=none→H' b=none)
  (there:∀b o,b∉ch→s.heap.get? b=some o→∃o',h'.get? b=some o')
  (tups:∀b xs,H b=some (.tup xs)→H' b=some (.tup xs)) (frzs:∀b o u,H b=some (.frz o u)→H' b=some (.frz o u)) (tbls:∀b ps,H b=some (.tbl ps)→∃more,H' b=some (.tbl (ps++more)))
  (ns:∀m,s.heap.Ns X.env.locals m→h'.Ns X.env.locals m) (hok:HOk X.prog X.w H' h') (hg:AllBare g') :
  Inv X pins σ H' { s with heap:=h',gens:=g',drawn:=d',toks:=t' }:=by
 have neL:∀b o,X.s₀.heap.get? b=some o→b≠X.env.locals:=fun b o e=>Nat.ne_of_lt (Nat.lt_of_lt_of_le (Heap.lt_size e) I.ok.above)
 have neC:∀b o,X.s₀.heap.get? b=some o→b∉X.ex→b∉ch:=fun b o e hx hb=>by
  rcases (hch b hb).1 with z | z
  ·exact hx z
  ·exact absurd (Nat.lt_of_lt_of_le (Heap.lt_size e) z) (Nat.lt_irrefl _)
 have cellK:∀x c,X.env.cells.lookup x=some c→∀v,s.heap.IsCell c v→h'.IsCell c v:=fun x c e v ⟨o,ho,hd⟩=>by
  have nch:c∉ch:=fun z=>(hch c z).2.2.1 x c e rfl
  by_cases hc:c∈X.fs
  ·obtain ⟨sl,q⟩:=slot c o (I.cne x c e) hc nch ho (I.freeC x c e)
   exact ⟨_,q,hd⟩
  ·exact ⟨o,keep c o (I.cne x c e) hc nch ho (I.freeC x c e),hd⟩
 refine ⟨I.ok,I.os,hg,⟨fun b o e n hb hx=>?_,fun b o e n hb hx=>?_,fun b o e n hx=>?_,fun b o e hx=>?_,fun b xs e=>tups b xs (I.base.tups b xs e),fun b o xs e=>frzs b o xs (I.base.frzs b o xs e),fun b ps e=>?_⟩,?_,fun x c e=>?_,?_,fun x c e=>?_,fun p hp=>?_,hok,I.len⟩
 ·exact keep b o (neL b o e) hb (neC b o e hx) (I.base.keep b o e n hb hx) (I.base.free b o e n hx)
 ·obtain ⟨sl,e1⟩:=I.base.slot b o e n hb hx
  obtain ⟨sl',e2⟩:=slot b _ (neL b o e) hb (neC b o e hx) e1 (I.base.free b o e n hx)
  exact ⟨sl',e2⟩
 ·obtain ⟨o',e1⟩:=I.base.there b o e hx
  exact free b o' (neC b o e hx) e1 (I.base.free b o e n hx)
 ·obtain ⟨o',e1⟩:=I.base.there b o e hx
  exact there b o' (neC b o e hx) e1
 ·obtain ⟨m1,e1⟩:=I.base.tbls b ps e
  obtain ⟨m2,e2⟩:=tbls b _ e1
  exact ⟨m1++m2,by rw [e2,Array.append_assoc]⟩
 ·obtain ⟨m,hn,hl⟩:=I.loc
  refine ⟨m,ns m hn,fun i x v e1 e2 e3=>?_⟩
  obtain ⟨u,r,l⟩:=hl i x v e1 e2 e3
  refine ⟨u,r,?_⟩
  rcases l with l | ⟨k,c,e,z⟩
  ·exact .inl l
  ·exact .inr ⟨k,c,e,cellK x c e _ z⟩
 ·obtain ⟨v,z⟩:=I.cell x c e
  exact ⟨v,cellK x c e v z⟩
 ·obtain ⟨m,⟨o,_,_,ho,_⟩,_⟩:=I.loc
  exact free _ o (fun z=>(hch _ z).2.1 rfl) ho I.free
 ·obtain ⟨v,o,ho,hd⟩:=I.cell x c e
  exact free c o (fun z=>(hch c z).2.2.1 x c e rfl) ho (I.freeC x c e)
 ·obtain ⟨e,n,ne,nf,d⟩:=I.pin p hp
  have nch:p.1∉ch:=fun z=>(hch p.1 z).2.2.2 p hp rfl
  exact ⟨keep p.1 p.2 ne nf nch e n,free p.1 p.2 nch e n,ne,nf,d⟩
theorem Inv.un{t':Nat}(I:Inv X pins σ H s)(u:Un X.fs [] H H' s.heap h')(hok:HOk X.prog X.w H' h'):Inv X pins σ H' { s with heap:=h',toks:=t' }:=by
 obtain ⟨m,⟨o,es,ep,ho,r⟩,_⟩:=id I.loc
 obtain ⟨sl,hL⟩:=u.any ho I.free (by simp)
 exact I.step (g':=s.gens) (d':=s.drawn) (ch:=[]) (fun _ z=>nomatch z) (fun b o _ hb _ e n=>u.keep b o e n hb (by simp)) (fun b o _ hb _ e n=>u.slot b o e n hb (by simp)) (fun b o _ e n=>u.free b o e n (by simp)) (fun b o _ e=>u.there b o e (by simp)) u.tups u.frzs u.tbls (fun m' hm=>by
  obtain ⟨o',es',ep',ho',r'⟩:=hm
  rw [ho] at ho';cases ho'
  exact ⟨_,es',ep',hL,r'⟩) hok I.bare
theorem Inv.call{g':Array GenState}{t':Nat}{d':Drawn}{ch:List Addr}(I:Inv X pins σ H s)(u:Un (frs X.stack) ch H H' s.heap h')(hok:HOk X.prog X.w H' h')(hg:AllBare g')
  (hch:∀b∈ch,(b∈X.ex∨X.s₀.heap.objs.size≤b)∧b≠X.env.locals∧(∀x c,X.env.cells.lookup x=some c→c≠b)∧∀p∈X.pn++pins,p.1≠b) :
  Inv X pins σ H' { s with heap:=h',gens:=g',drawn:=d',toks:=t' }:=by
 obtain ⟨m,⟨o,es,ep,ho,r⟩,_⟩:=id I.loc
 obtain ⟨sl,hL⟩:=u.any ho I.free fun z=>(hch _ z).2.1 rfl
 exact I.step (ch:=ch) hch (fun b o hL hb hc e n=>u.keep b o e n (fun z=>(List.mem_cons.mp (I.stkSub b z)).elim hL hb) hc) (fun b o _ _ hc e n=>u.any e n hc) (fun b o hc e n=>u.free b o e n hc) (fun b o hc e=>u.there b o e hc) u.tups u.frzs u.tbls (fun m' hm=>by
  obtain ⟨o',es',ep',ho',r'⟩:=hm
  rw [ho] at ho';cases ho'
  exact ⟨_,es',ep',hL,r'⟩) hok hg
theorem Inv.turned{t':Nat}{it:Addr}(I:Inv X pins σ H s)(k:∀b o,b≠it→s.heap.get? b=some o→h'.get? b=some o)(hn:H it=none)(hL:it≠X.env.locals)
  (h1:it∈X.ex∨X.s₀.heap.objs.size≤it) (h2:∀x c,X.env.cells.lookup x=some c→c≠it) (h3:∀p∈X.pn++pins,p.1≠it):Inv X pins σ H { s with heap:=h',toks:=t' }:=by
 have nit:∀b u,H b=some u→b≠it:=fun b u e z=>by rw [z,hn] at e;cases e
 refine I.step (g':=s.gens) (d':=s.drawn) (ch:=[it]) (fun b hb=>?_) (fun b o _ _ hc e _=>k b o (fun z=>hc (by simp [z])) e) (fun b o _ _ hc e _=>⟨o.slots,k b o (fun z=>hc (by simp [z])) e⟩) (fun _ _ _ _ n=>n)
  (fun b o hc e=>⟨o,k b o (fun z=>hc (by simp [z])) e⟩) (fun _ _ e=>e) (fun _ _ _ e=>e) (fun b ps e=>⟨#[],by rw [e];simp⟩) (fun m hm=>?_) (fun b u e=>?_) I.bare
 ·have e:b=it:=by simpa using hb
  subst e
  exact ⟨h1,hL,h2,h3⟩
 ·obtain ⟨o,es,ep,ho,r⟩:=hm
  exact ⟨o,es,ep,k _ o (Ne.symm hL) ho,r⟩
 ·refine (I.hok b u e).stay (fun c v hc q=>k c v ?_ q) (fun _ q=>q) fun _ _ q=>q
  rcases hc with z | z
  ·rw [z];exact nit b u e
  ·exact nit c _ z
theorem Inv.tok(I:Inv X pins σ H s)(t:Nat):Inv X pins σ H { s with toks:=t }:=I.un (h':=s.heap) (t':=t) Un.refl I.hok
theorem Inv.kept{t':Nat}(I:Inv X pins σ H s)(k:∀b u,s.heap.get? b=some u→h'.get? b=some u):Inv X pins σ H { s with heap:=h',toks:=t' }:=I.un (Un.kept k) (I.hok.kept k)
theorem Inv.laid{a:Addr}{o:HO}{t':Nat}(I:Inv X pins σ H s)(k:∀b u,s.heap.get? b=some u→h'.get? b=some u)(hp:s.heap.objs.size≤a)(new:ObjOk X.prog X.w (upd H a o) h' a o) :
  Inv X pins σ (upd H a o) { s with heap:=h',toks:=t' }:=I.un (Un.laid k hp (I.hok.fresh hp)) (I.hok.laid k hp new)
theorem Inv.write{x e:Addr}{o:HO}{t':Nat}(I:Inv X pins σ H s)(mu:Mut (H x))(he:e=x∨H e=some (.own x))(k:∀b u,b≠e→s.heap.get? b=some u→h'.get? b=some u)(heo:∃u,h'.get? e=some u)
  (new:ObjOk X.prog X.w (upd H x o) h' x o):Inv X pins σ (upd H x o) { s with heap:=h',toks:=t' }:=I.un (Un.write mu he k heo) (I.hok.write mu he k heo new)
theorem Inv.pins_of{pins':List (Addr×Obj)}(I:Inv X pins σ H s)(h:∀p∈pins',s.heap.get? p.1=some p.2∧H p.1=none∧p.1≠X.env.locals∧p.1∉X.fs∧∀v,p.2.data≠.cell v):Inv X pins' σ H s :=
 ⟨I.ok,I.os,I.bare,I.base,I.loc,I.cell,I.free,I.freeC,fun p hp=>(List.mem_append.mp hp).elim (fun z=>I.pin p (List.mem_append_left _ z)) (h p),I.hok,I.len⟩
theorem nodup_ix{N:List Str}(hN:N.Nodup){i j:Nat}{x:Str}(a:N[i]? = some x)(b:N[j]? = some x):i=j:=by
 obtain ⟨h1,e1⟩:=List.getElem?_eq_some_iff.mp a
 obtain ⟨h2,e2⟩:=List.getElem?_eq_some_iff.mp b
 exact (List.getElem_inj hN).mp (e1.trans e2.symm)
theorem store_ok2{M:Model}{A:Around}{E:Value→Shared→Prop}{i:Nat}{x:Str}{v:V}{u:Value}{Q:Unit→Shared→Prop}(I:Inv X pins σ H s)(hN:X.N.Nodup)(hi:X.N[i]? = some x)(hx:Loc X.env.scope x)(r:RelV v u)
  (h:∀s',Inv X pins (σ.set i (some v)) H s'→(∃a,Heap.SameBut a s.heap s'.heap∧(a=X.env.locals∨X.env.cells.lookup x=some a))→Q () s') (hf:X.fn x=true∨X.env.scope.names.lookup x=some .local:=by first | exact .inl rfl | exact .inr rfl | assumption):wpAny M A (storeName X.env x u) Q E s:=by
 obtain ⟨m,hn,hl⟩:=id I.loc
 have hcls:(X.env.scope.kind == .class || (X.env.scope.kind == .module && X.env.locals != X.env.globals))=false:=by rw [I.ok.kind];rfl
 have hiσ : i < σ.length:=by rw [I.len];exact (List.getElem?_eq_some_iff.mp hi).1
 have cne:=I.cne
 have tracked:∀{a:Addr} {h':Heap},(∃o,s.heap.get? a=some o∧H a=none)→Heap.SameBut a s.heap h'→HOk X.prog X.w H h':=fun {a h'} ha hs b ob e=>by
  obtain ⟨_,_,hfree⟩:=ha
  refine (I.hok b ob e).stay (fun c w' hc q=>(hs.2 c ?_).trans q) (fun _ q=>q) fun _ _ q=>q
  rintro rfl
  rcases hc with rfl | hc
  ·rw [hfree] at e;cases e
  ·rw [hfree] at hc;cases hc
 rcases hx with hk | hk
 ·refine wpAny_storeName_local hk hn (fun h' hn' hs=>?_) hcls
  obtain ⟨oL,_,_,hoL,_⟩:=id hn
  refine h _ ⟨I.ok,I.os,I.bare,⟨fun b o e n hb hx=>?_,fun b o e n hb hx=>?_,I.base.free,fun b o e hx=>?_,I.base.tups,I.base.frzs,I.base.tbls⟩,⟨_,hn',fun j y v' e1 e2 e3=>?_⟩,fun y c e=>?_,I.free,I.freeC,fun p hp=>?_,tracked ⟨oL,hoL,I.free⟩ hs,by simpa using I.len⟩ ⟨_,hs,.inl rfl⟩
  ·exact (hs.2 b (Nat.ne_of_lt (Nat.lt_of_lt_of_le (Heap.lt_size e) I.ok.above))).trans (I.base.keep b o e n hb hx)
  ·obtain ⟨sl,e1⟩:=I.base.slot b o e n hb hx
   exact ⟨sl,(hs.2 b (Nat.ne_of_lt (Nat.lt_of_lt_of_le (Heap.lt_size e) I.ok.above))).trans e1⟩
  ·obtain ⟨o',e1⟩:=I.base.there b o e hx
   exact ⟨o',(hs.2 b (Nat.ne_of_lt (Nat.lt_of_lt_of_le (Heap.lt_size e) I.ok.above))).trans e1⟩
  ·by_cases hj:j=i
   ·subst hj
    rw [hi] at e1;cases e1
    rw [List.getElem?_set_self hiσ] at e2
    cases e2
    exact ⟨u,r,.inl ⟨hk,by simp⟩⟩
   ·rw [List.getElem?_set_ne (Ne.symm hj)] at e2
    obtain ⟨u',r',q⟩:=hl j y v' e1 e2 e3
    refine ⟨u',r',?_⟩
    rcases q with ⟨k,e⟩ | ⟨k,c,e,z⟩
    ·refine .inl ⟨k,?_⟩
     have:y≠x:=fun e=>hj (nodup_ix hN e1 (e ▸ hi))
     simp [this,e]
    ·exact .inr ⟨k,c,e,z.sameBut hs (cne y c e)⟩
  ·obtain ⟨w',z⟩:=I.cell y c e
   exact ⟨w',z.sameBut hs (cne y c e)⟩
  ·obtain ⟨e,n,ne,nf,d⟩:=I.pin p hp
   exact ⟨(hs.2 p.1 ne).trans e,n,ne,nf,d⟩
 ·have hfn:X.fn x=true:=by
   rcases hf with z | z
   ·exact z
   ·rw [z] at hk;cases hk
  obtain ⟨c,hc⟩:=I.ok.has x (.inl hk)
  obtain ⟨w',z⟩:=I.cell x c hc
  refine wpAny_storeName_cell I.ok.kind hk hc z (fun h' hc' hs=>?_)
  obtain ⟨oc,hoc,hocd⟩:=id z
  refine h { s with heap:=h' } ⟨I.ok,I.os,I.bare,⟨fun b o e n hb hx=>?_,fun b o e n hb hx=>?_,I.base.free,fun b o e hx=>?_,I.base.tups,I.base.frzs,I.base.tbls⟩,⟨m,hn.sameBut hs (Ne.symm (cne x c hc)),fun j y v' e1 e2 e3=>?_⟩,fun y c' e=>?_,I.free,I.freeC,fun p hp=>?_,tracked ⟨oc,hoc,I.freeC x c hc⟩ hs,by simpa using I.len⟩ ⟨c,hs,.inr hc⟩
  ·exact (hs.2 b (Nat.ne_of_lt (Nat.lt_of_lt_of_le (Heap.lt_size e) (I.ok.cab x c hfn hc)))).trans (I.base.keep b o e n hb hx)
  ·obtain ⟨sl,e1⟩:=I.base.slot b o e n hb hx
   exact ⟨sl,(hs.2 b (Nat.ne_of_lt (Nat.lt_of_lt_of_le (Heap.lt_size e) (I.ok.cab x c hfn hc)))).trans e1⟩
  ·obtain ⟨o',e1⟩:=I.base.there b o e hx
   exact ⟨o',(hs.2 b (Nat.ne_of_lt (Nat.lt_of_lt_of_le (Heap.lt_size e) (I.ok.cab x c hfn hc)))).trans e1⟩
  ·by_cases hj:j=i
   ·subst hj
    rw [hi] at e1;cases e1
    rw [List.getElem?_set_self hiσ] at e2
    cases e2
    exact ⟨u,r,.inr ⟨.inl hk,c,hc,hc'⟩⟩
   ·rw [List.getElem?_set_ne (Ne.symm hj)] at e2
    obtain ⟨u',r',q⟩:=hl j y v' e1 e2 e3
    refine ⟨u',r',?_⟩
    rcases q with q | ⟨k,c',e,z'⟩
    ·exact .inl q
    ·refine .inr ⟨k,c',e,z'.sameBut hs ?_⟩
     rintro rfl
     exact hj (nodup_ix hN e1 (I.ok.inj _ _ _ e hc ▸ hi))
  ·by_cases hcc:c'=c
   ·subst hcc;exact ⟨_,hc'⟩
   ·obtain ⟨w2,z2⟩:=I.cell y c' e
    exact ⟨w2,z2.sameBut hs hcc⟩
  ·obtain ⟨e,n,ne,nf,d⟩:=I.pin p hp
   refine ⟨(hs.2 p.1 ?_).trans e,n,ne,nf,d⟩
   intro q
   rw [q,hoc] at e
   have q':oc=p.2:=Option.some.inj e
   exact d w' (by rw [← q'];exact hocd)
theorem store_ok{M:Model}{A:Around}{E:Value→Shared→Prop}{i:Nat}{x:Str}{v:V}{u:Value}{Q:Unit→Shared→Prop}(I:Inv X pins σ H s)(hN:X.N.Nodup)(hi:X.N[i]? = some x)(hx:Loc X.env.scope x)(r:RelV v u)
  (h:∀s',Inv X pins (σ.set i (some v)) H s'→Q () s') (hf:X.fn x=true∨X.env.scope.names.lookup x=some .local:=by first | exact .inl rfl | exact .inr rfl | assumption):wpAny M A (storeName X.env x u) Q E s :=
 store_ok2 I hN hi hx r (fun s' I' _=>h s' I') hf
theorem Inv.call'{s':Shared}{ch:List Addr}(I:Inv X pins σ H s)(ho:s'.os=s.os)(u:Un (frs X.stack) ch H H' s.heap s'.heap)(hok:HOk X.prog X.w H' s'.heap)(hg:AllBare s'.gens)
  (hch:∀b∈ch,(b∈X.ex∨X.s₀.heap.objs.size≤b)∧b≠X.env.locals∧(∀x c,X.env.cells.lookup x=some c→c≠b)∧∀p∈X.pn++pins,p.1≠b):Inv X pins σ H' s':=by
 obtain ⟨h',g',d',t',o'⟩:=s'
 have e:o'=s.os:=ho
 subst e
 exact I.call (g':=g') (t':=t') (d':=d') u hok hg hch
end
abbrev XK:=Value→Option Addr→Hp→Prop
abbrev St:=List (Option V)
abbrev VK:=V→Hp→Prop
abbrev TE:=St→Hp→VK→Prop
abbrev TT:=St→Hp→(Bool→Hp→Prop)→Prop
abbrev TA:=St→Hp→(List V→Hp→Prop)→Prop
structure Ends where
 nx:St→Hp→Prop
 rt:VK
 bk:St→Hp→Prop:=fun _ _=>False
 ct:St→Hp→Prop:=fun _ _=>False
abbrev TS:=Ends→St→Hp→Prop
def EP(X:Cx)(pins:List (Addr×Obj))(σ : St)(Q:VK)(u:Value)(s':Shared):Prop:=∃v H',Inv X pins σ H' s'∧RelV v u∧Q v H'
def TP(X:Cx)(pins:List (Addr×Obj))(σ : St)(Q:Bool→Hp→Prop)(b:Bool)(s':Shared):Prop:=∃H',Inv X pins σ H' s'∧Q b H'
def AP(X:Cx)(pins:List (Addr×Obj))(σ : St)(Q:List V→Hp→Prop)(us:List Value)(s':Shared):Prop:=∃vs H',Inv X pins σ H' s'∧Vals vs us∧Q vs H'
def SP(X:Cx)(pins:List (Addr×Obj))(D:Ends)(f:Flow)(s':Shared):Prop :=
 match f with
 | .next=>∃σ' H',Inv X pins σ' H' s'∧D.nx σ' H'
 | .brk=>∃σ' H',Inv X pins σ' H' s'∧D.bk σ' H'
 | .cont=>∃σ' H',Inv X pins σ' H' s'∧D.ct σ' H'
 | .ret u=>∃v σ' H',Inv X pins σ' H' s'∧RelV v u∧D.rt v H'
def PE(X:Cx)(e:Expr)(t:TE):Prop :=
 ∀(pins:List (Addr×Obj)) (s:Shared) (σ : St) (H:Hp) (Q:VK),Inv X pins σ H s→t σ H Q→wpAny (model X.prog X.w) X.A (eval e X.env) (EP X pins σ Q) X.xe s
def PT(X:Cx)(e:Expr)(t:TT):Prop :=
 ∀(pins:List (Addr×Obj)) (s:Shared) (σ : St) (H:Hp) (Q:Bool→Hp→Prop),Inv X pins σ H s→t σ H Q→wpAny (model X.prog X.w) X.A (isTrue e X.env (eval e X.env)) (TP X pins σ Q) X.xe s
def PW(X:Cx)(e:Expr)(t:TT):Prop :=
 ∀(whole:Sem Value) (pins:List (Addr×Obj)) (s:Shared) (σ : St) (H:Hp) (Q:Bool→Hp→Prop),Inv X pins σ H s→t σ H Q→wpAny (model X.prog X.w) X.A (isTrue e X.env whole) (TP X pins σ Q) X.xe s
theorem PW.pt{X:Cx}{e:Expr}{t:TT}(h:PW X e t):PT X e t:=h _
def PA(X:Cx)(es:List Expr)(t:TA):Prop :=
 ∀(pos:Pos) (pins:List (Addr×Obj)) (s:Shared) (σ : St) (H:Hp) (Q:List V→Hp→Prop),Inv X pins σ H s→t σ H Q→wpAny (model X.prog X.w) X.A (spliced (backTo pos (starEach es X.env))) (AP X pins σ Q) X.xe s
def PS(X:Cx)(st:Stmt)(t:TS):Prop :=
 ∀(pins:List (Addr×Obj)) (s:Shared) (σ : St) (H:Hp) (D:Ends),Inv X pins σ H s→t D σ H→wpAny (model X.prog X.w) X.A (exec st X.env) (SP X pins D) X.xe s
def PSs(X:Cx)(st:List Stmt)(t:TS):Prop :=
 ∀(pins:List (Addr×Obj)) (s:Shared) (σ : St) (H:Hp) (D:Ends),Inv X pins σ H s→t D σ H→wpAny (model X.prog X.w) X.A (execs st X.env) (SP X pins D) X.xe s
theorem thn{α : Type}{t:Sem α}{Q Q' : α→Shared→Prop}{M:Model}{A:Around}{E:Value→Shared→Prop}{s:Shared}(h:wpAny M A t Q E s)(hQ:∀a s,Q a s→Q' a s):wpAny M A t Q' E s:=wpAny_mono h hQ fun _ _ x=>x
end L2
namespace L2
open PySem PySem.Spec PyProof.Rows
section
variable{X:Cx}
def tVar(i:Nat):TE:=fun σ H Q=>∃v,σ[i]? = some (some v)∧Q v H
def tC(v:V):TE:=fun _ H Q=>Q v H
theorem pe_var {i:Nat} {x:Str} {pos:Pos} (hN:X.N[i]? = some x) (hv:Vis X.env.scope x) (hd:(x == ("__debug__" : Str))=false:=by decide) (hcd:(x == ("__classdict__" : Str))=false:=by decide):PE X (.Name x pos) (tVar i):=by
 intro pins s σ H Q I h
 obtain ⟨v,e,h⟩:=h
 obtain ⟨m,hn,hl⟩:=I.loc
 obtain ⟨u,r,l⟩:=hl i x v hN e hv
 have fin:EP X pins σ Q u s:=⟨v,H,I,r,h⟩
 rcases l with ⟨hk,hm⟩ | ⟨hk,c,hc,hcell⟩
 ·exact wpAny_Name (wpAny_loadName_local I.ok.kind hk hn hm fin) hd
 ·rcases hk with hk | hk
  ·exact wpAny_Name (wpAny_loadName_cell I.ok.kind hk hc hcell fin) hd
  ·exact wpAny_Name (wpAny_loadName_free I.ok.kind hk hc hcell fin hcd) hd
theorem pe_int{i j pos}:PE X (.Constant (.int i) j pos) (tC (.int i)):=fun _ _ _ H _ I h=>wpAny_Constant_int ⟨.int i,H,I.tok _,⟨_,rfl⟩,h⟩
theorem pe_bl{b j pos}:PE X (.Constant (.bool b) j pos) (tC (.bl b)):=fun _ _ _ H _ I h=>Constant_bool ⟨.bl b,H,I,rfl,h⟩
theorem pe_non{j pos}:PE X (.Constant .none j pos) (tC .non):=fun _ _ _ H _ I h=>Constant_none ⟨.non,H,I,rfl,h⟩
theorem pe_str{x j pos}:PE X (.Constant (.str x) j pos) (tC (.str x)):=fun _ _ _ H _ I h=>Calls.Constant_str ⟨.str x,H,I.tok _,⟨_,rfl⟩,h⟩
def Gl(X:Cx)(x:Str):Prop:=X.env.kindOf x=some .globalImplicit
theorem ld_glob{E:Value→Shared→Prop}{pins:List (Addr×Obj)}{s:Shared}{σ : St}{H:Hp}{x:Str}{u:Value}{pos:Pos}{Q:Value→Shared→Prop}(I:Inv X pins σ H s)(hg:Gl X x)(hm:X.mg x=some u)(h:Q u s)
  (hd:(x == ("__debug__" : Str))=false:=by decide):wpAny (model X.prog X.w) X.A (eval (.Name x pos) X.env) Q E s :=
 Calls.Name_function_global I.ok.kind hg (Calls.loadGlobal_global (by rw [I.ok.glob];exact I.mod.glob.keeps I.bk) hm h) hd
theorem ld_blt{E:Value→Shared→Prop}{pins:List (Addr×Obj)}{s:Shared}{σ : St}{H:Hp}{x:Str}{u:Value}{pos:Pos}{Q:Value→Shared→Prop}(I:Inv X pins σ H s)(hg:Gl X x)(hm:X.mg x=none)(hv:bootBuiltins x=some u)(h:Q u s)
  (hn:x≠"__name__":=by decide) (hd:(x == ("__debug__" : Str))=false:=by decide):wpAny (model X.prog X.w) X.A (eval (.Name x pos) X.env) Q E s:=by
 obtain ⟨mb,h1,h2⟩:=I.mod.blt
 exact Calls.Name_function_global I.ok.kind hg (Calls.loadGlobal_builtin (by rw [I.ok.glob];exact I.mod.glob.keeps I.bk) hm (by rw [I.ok.blt];exact h1.keeps I.bk) ((h2 x hn).trans hv) h) hd
theorem pe_glob {x:Str} {v:V} {u:Value} {pos:Pos} (hg:Gl X x) (hm:X.mg x=some u) (r:RelV v u) (hd:(x == ("__debug__" : Str))=false:=by decide):PE X (.Name x pos) (tC v) :=
 fun _ _ _ H _ I h=>ld_glob I hg hm ⟨v,H,I,r,h⟩ hd
theorem pe_bltn {x:Str} {v:V} {u:Value} {pos:Pos} (hg:Gl X x) (hm:X.mg x=none) (hv:bootBuiltins x=some u) (r:RelV v u) (hn:x≠"__name__":=by decide) (hd:(x == ("__debug__" : Str))=false:=by decide):PE X (.Name x pos) (tC v) :=
 fun _ _ _ H _ I h=>ld_blt I hg hm hv ⟨v,H,I,r,h⟩ hn hd
variable{a b:Expr}{ta tb:TE}{pos:Pos}
def PC(X:Cx)(op:CmpOp)(a b:Expr)(t:TE):Prop :=
 ∀(pins:List (Addr×Obj)) (s:Shared) (σ : St) (H:Hp) (Q:VK),Inv X pins σ H s→t σ H Q →
  wpAny (model X.prog X.w) X.A (eval a X.env) (fun v s₁=>wpAny (model X.prog X.w) X.A (eval b X.env) (fun u s₂=>wpAny (model X.prog X.w) X.A (compareOp op v u) (EP X pins σ Q) X.xe s₂) X.xe s₁) X.xe s
def tB(t:TE):TT:=fun σ H Q=>t σ H fun x H1=>∃c,x = .bl c∧Q c H1
theorem pt_cmp{op:CmpOp}{t:TE}(h:PC X op a b t)(h1:behindInMarks op b=false:=by first | exact nobehind _ (by decide) (by decide) | rfl):PT X (.Compare a [op] [b] pos) (tB t):=by
 intro pins s σ H Q I hw
 refine wpAny_isTrue_Compare1 (thn (h pins s σ H _ I hw) fun v s1 h1=>thn h1 fun u s2 h2=>thn h2 fun c s3 ⟨x,H1,I1,r1,q1⟩=>?_) h1
 obtain ⟨d,rfl,q⟩:=q1
 cases r1
 exact wpAny_truthy_bool ⟨H1,I1,q⟩
theorem pt_val{e:Expr}{t:TE}(h:PE X e t)(he:∀whole,isTrue e X.env whole=(do let v ← whole;standAt e.pos;holding [v] (truthy v)):=by intro _;rfl):PT X e (tB t):=by
 intro pins s σ H Q I hw
 refine isTrue_plain (thn (h pins s σ H _ I hw) fun v s1 ⟨x,H1,I1,r1,q1⟩=>?_) (he _)
 obtain ⟨d,rfl,q⟩:=q1
 cases r1
 exact wpAny_truthy_bool ⟨H1,I1,q⟩
variable{tA tB':TT}{rest:List Expr}
def tAnd(t u:TT):TT:=fun σ H Q=>t σ H fun c H1=>if c=true then u σ H1 Q else Q false H1
def tOr(t u:TT):TT:=fun σ H Q=>t σ H fun c H1=>if c=true then Q true H1 else u σ H1 Q
def tNot(t:TT):TT:=fun σ H Q=>t σ H fun c H1=>Q (!c) H1
theorem pw_and1(ha:PT X a tA):PW X (.BoolOp .And [a] pos) tA:=by
 intro wh pins s σ H Q I h
 refine isTrue_and (thn (ha pins s σ H Q I h) fun c s1 e=>?_)
 cases c with
 | true=>exact isTrue_and_nil e
 | false=>exact e
theorem pw_or1(ha:PT X a tA):PW X (.BoolOp .Or [a] pos) tA:=by
 intro wh pins s σ H Q I h
 refine isTrue_or (thn (ha pins s σ H Q I h) fun c s1 e=>?_)
 cases c with
 | false=>exact isTrue_or_nil e
 | true=>exact e
theorem pw_and(ha:PT X a tA)(hb:PW X (.BoolOp .And (b :: rest) pos) tB'):PW X (.BoolOp .And (a :: b :: rest) pos) (tAnd tA tB'):=by
 intro wh pins s σ H Q I h
 refine isTrue_and (thn (ha pins s σ H _ I h) fun c s1 ⟨H1,I1,q1⟩=>?_)
 cases c with
 | true=>exact hb wh pins s1 σ H1 Q I1 q1
 | false=>exact ⟨H1,I1,q1⟩
theorem pw_or(ha:PT X a tA)(hb:PW X (.BoolOp .Or (b :: rest) pos) tB'):PW X (.BoolOp .Or (a :: b :: rest) pos) (tOr tA tB'):=by
 intro wh pins s σ H Q I h
 refine isTrue_or (thn (ha pins s σ H _ I h) fun c s1 ⟨H1,I1,q1⟩=>?_)
 cases c with
 | true=>exact ⟨H1,I1,q1⟩
 | false=>exact hb wh pins s1 σ H1 Q I1 q1
theorem pt_not(ha:PT X a tA):PT X (.UnaryOp .Not a pos) (tNot tA):=by
 intro pins s σ H Q I h
 exact isTrue_not (ha pins s σ H (fun c H1=>Q (!c) H1) I h)
def tAndV(ta tb:TE):TE:=fun σ H Q=>ta σ H fun x H1=>∃c,x = .bl c∧if c=true then tb σ H1 Q else Q (.bl false) H1
def tNotV(ta:TE):TE:=fun σ H Q=>ta σ H fun x H1=>∃c,x = .bl c∧Q (.bl (!c)) H1
theorem pe_one{op}{t:TE}(h:PE X a t):PE X (.BoolOp op [a] pos) t:=fun pins s σ H Q I hw=>BoolOp_one (h pins s σ H Q I hw)
theorem pe_and(ha:PE X a ta)(hb:PE X (.BoolOp .And (b :: rest) pos) tb):PE X (.BoolOp .And (a :: b :: rest) pos) (tAndV ta tb):=by
 intro pins s σ H Q I h
 refine BoolOp_and (thn (ha pins s σ H _ I h) fun v s1 ⟨x,H1,I1,r1,q1⟩=>?_)
 obtain ⟨c,rfl,q1⟩:=q1
 cases r1
 refine wpAny_truthy_bool ?_
 cases c with
 | true=>exact hb pins s1 σ H1 Q I1 q1
 | false=>exact ⟨.bl false,H1,I1,rfl,q1⟩
theorem pe_not(ha:PE X a ta):PE X (.UnaryOp .Not a pos) (tNotV ta):=by
 intro pins s σ H Q I h
 refine UnaryOp_ (thn (ha pins s σ H _ I h) fun v s1 ⟨x,H1,I1,r1,q1⟩=>?_)
 obtain ⟨c,rfl,q1⟩:=q1
 cases r1
 exact not_of (wpAny_truthy_bool ⟨.bl (!c),H1,I1,rfl,q1⟩)
end
end L2
namespace L2
open PySem PySem.Spec PyProof.Rows
def SqL(K:PySem.W.Frag)(H:Hp)(a:Addr)(xs:List V):Prop :=
 Rd H a (.lst xs) ∨
  ∃(o:Obj) (its:Array Value) (n:Nat),K.lookup a=some o∧o.cls = .type "list"∧o.dict=none∧o.data = .seq its n∧its.size≤sizeLine∧Vals xs its.toList
def SqT(K:PySem.W.Frag)(H:Hp)(a:Addr)(xs:List V):Prop :=
 Rd H a (.tup xs) ∨
  ∃(o:Obj) (its:Array Value) (n:Nat),K.lookup a=some o∧o.cls = .type "tuple"∧o.data = .seq its n∧its.size≤sizeLine∧Vals xs its.toList
def absV:Value→Option V
 | .none=>some .non
 | .bool b=>some (.bl b)
 | .int i _=>some (.int i)
 | .str x _=>some (.str x)
 | .bytes b _=>some (.byt b)
 | .float b _=>some (.flt b)
 | .ref a=>some (.ref a)
 | .type n=>some (.ty n)
 | _=>none
theorem RelV.abs{x:V}{u:Value}(r:RelV x u):absV u=some x:=by
 cases x with
 | non=>cases r;rfl
 | bl _=>cases r;rfl
 | int _=>obtain ⟨t,rfl⟩:=r;rfl
 | str _=>obtain ⟨t,rfl⟩:=r;rfl
 | byt _=>obtain ⟨t,rfl⟩:=r;rfl
 | flt _=>obtain ⟨t,rfl⟩:=r;rfl
 | ref _=>cases r;rfl
 | ty _=>cases r;rfl
theorem RelV.inj{x y:V}{u:Value}(r:RelV x u)(q:RelV y u):x=y:=Option.some.inj (r.abs.symm.trans q.abs)
theorem Vals.inj:∀{xs ys:List V} {us:List Value},Vals xs us→Vals ys us→xs=ys
 | _,_,_,.nil,.nil=>rfl
 | _,_,_,.cons r t,.cons r' t'=>by rw [r.inj r',Vals.inj t t']
section
variable{X:Cx}{pins:List (Addr×Obj)}{σ : St}{H:Hp}{s:Shared}{a:Addr}{xs ys:List V}
theorem SqL.of{K:PySem.W.Frag}(h:H a=some (.lst xs)):SqL K H a xs:=.inl (.inl h)
theorem SqT.of{K:PySem.W.Frag}(h:H a=some (.tup xs)):SqT K H a xs:=.inl (.inl h)
theorem Inv.list(I:Inv X pins σ H s)(h:SqL X.K H a xs):∃its:List Value,Vals xs its∧PlainL s.heap a its.toArray∧xs.length≤sizeLine:=by
 rcases h with h | ⟨o,its,n,hk,hc,hd,hs,hz,r⟩
 ·obtain ⟨z,its,n,r,e⟩:=h.ok I.hok
  exact ⟨its,r,⟨_,n,e,rfl,rfl,rfl⟩,z⟩
 ·refine ⟨its.toList,r,⟨o,n,I.kIn a o hk,hc,hd,by simpa using hs⟩,?_⟩
  have e:=r.length
  simp only [Array.length_toList] at e
  omega
theorem Inv.tuple(I:Inv X pins σ H s)(h:SqT X.K H a xs):∃its:List Value,Vals xs its∧IsTup s.heap a its.toArray∧xs.length≤sizeLine:=by
 rcases h with h | ⟨o,its,n,hk,hc,hs,hz,r⟩
 ·obtain ⟨z,its,r,p⟩:=h.ok I.hok
  exact ⟨its,r,p,z⟩
 ·refine ⟨its.toList,r,⟨o,I.kIn a o hk,hc,n,by simpa using hs⟩,?_⟩
  have e:=r.length
  simp only [Array.length_toList] at e
  omega
theorem Inv.list_inj(I:Inv X pins σ H s)(h:SqL X.K H a xs)(h':SqL X.K H a ys):xs=ys:=by
 obtain ⟨its,r,⟨o,n,e,_,_,d⟩,_⟩:=I.list h
 obtain ⟨its',r',⟨o',n',e',_,_,d'⟩,_⟩:=I.list h'
 rw [e] at e';cases e'
 rw [d] at d'
 injection d' with d1 _
 have:its=its':=by simpa using congrArg Array.toList d1
 subst this
 exact r.inj r'
theorem Inv.tuple_inj(I:Inv X pins σ H s)(h:SqT X.K H a xs)(h':SqT X.K H a ys):xs=ys:=by
 obtain ⟨its,r,⟨o,e,_,n,d⟩,_⟩:=I.tuple h
 obtain ⟨its',r',⟨o',e',_,n',d'⟩,_⟩:=I.tuple h'
 rw [e] at e';cases e'
 rw [d] at d'
 injection d' with d1 _
 have:its=its':=by simpa using congrArg Array.toList d1
 subst this
 exact r.inj r'
end
abbrev Cx.wish(X:Cx)(E:Value→Shared→Prop):Cx:={ X with xe:=E }
abbrev Cx.nox(X:Cx):Cx:=X.wish fun _ _=>False
theorem Cx.Ok.wish{X:Cx}(ok:X.Ok)(E:Value→Shared→Prop):(X.wish E).Ok :=
 ⟨ok.mod,ok.kind,ok.glob,ok.blt,ok.above,ok.inj,ok.has,ok.cab,ok.hd,ok.frames,ok.stk,ok.exf,ok.bs,ok.bsz,ok.noex,ok.exfs,ok.funs,ok.frf⟩
theorem Cx.Ok.unwish{X:Cx}{E:Value→Shared→Prop}(ok:(X.wish E).Ok):X.Ok :=
 ⟨ok.mod,ok.kind,ok.glob,ok.blt,ok.above,ok.inj,ok.has,ok.cab,ok.hd,ok.frames,ok.stk,ok.exf,ok.bs,ok.bsz,ok.noex,ok.exfs,ok.funs,ok.frf⟩
section
variable{X:Cx}{pins:List (Addr×Obj)}{σ : St}{H:Hp}{s:Shared}{E:Value→Shared→Prop}
theorem Inv.wish(I:Inv X pins σ H s)(E:Value→Shared→Prop):Inv (X.wish E) pins σ H s:=⟨I.ok.wish E,I.os,I.bare,I.base,I.loc,I.cell,I.free,I.freeC,I.pin,I.hok,I.len⟩
theorem Inv.unwish(I:Inv (X.wish E) pins σ H s):Inv X pins σ H s:=⟨I.ok.unwish,I.os,I.bare,I.base,I.loc,I.cell,I.free,I.freeC,I.pin,I.hok,I.len⟩
theorem SP.unwish{D:Ends}{f:Flow}{s':Shared}(h:SP (X.wish E) pins D f s'):SP X pins D f s':=by
 cases f with
 | next=>obtain ⟨σ',H',I,q⟩:=h;exact ⟨σ',H',I.unwish,q⟩
 | brk=>obtain ⟨σ',H',I,q⟩:=h;exact ⟨σ',H',I.unwish,q⟩
 | cont=>obtain ⟨σ',H',I,q⟩:=h;exact ⟨σ',H',I.unwish,q⟩
 | ret u=>obtain ⟨v,σ',H',I,r,q⟩:=h;exact ⟨v,σ',H',I.unwish,r,q⟩
theorem PSs.nox{st:List Stmt}{t:TS}(h:PSs X.nox st t):PSs X st t:=fun pins s σ H D I hw =>
 wpAny_mono (h pins s σ H D (I.wish _) hw) (fun _ _ q=>q.unwish) fun _ _ z=>False.elim z
end
section
variable{X:Cx}{st:Stmt}{rest:List Stmt}{t u:TS}{e:Expr}{te:TE}{pos:Pos}
def tNext:TS:=fun D σ H=>D.nx σ H
def tSeq(t u:TS):TS:=fun D σ H=>t { D with nx:=u D } σ H
theorem pss_nil:PSs X [] tNext:=fun _ _ σ H _ I h=>wpAny_execs_nil ⟨σ,H,I,h⟩
theorem pss_cons(h1:PS X st t)(h2:PSs X rest u):PSs X (st :: rest) (tSeq t u):=by
 intro pins s σ H D I h
 refine wpAny_execs_cons (thn (h1 pins s σ H { D with nx:=u D } I h) fun f s1 q=>?_)
 cases f with
 | next =>
  obtain ⟨σ',H',I',q⟩:=q
  exact h2 pins s1 σ' H' D I' q
 | ret v=>exact q
 | brk=>exact q
 | cont=>exact q
theorem pss_one(h1:PS X st t):PSs X [st] t:=by
 intro pins s σ H D I h
 refine wpAny_execs_cons (thn (h1 pins s σ H D I h) fun f s1 q=>?_)
 cases f with
 | next=>exact wpAny_execs_nil q
 | ret v=>exact q
 | brk=>exact q
 | cont=>exact q
theorem Inv.quiet{pins:List (Addr×Obj)}{σ : St}{H:Hp}{s:Shared}(I:Inv X pins σ H s):interactive X.env=false:=by simp [interactive,I.ok.kind]
def tDrop(te:TE):TS:=fun D σ H=>te σ H fun _ H1=>D.nx σ H1
theorem ps_expr(he:PE X e te)(hs:swapsWith e none pos.line X.env=pure false:=by rfl):PS X (.Expr e pos) (tDrop te):=by
 intro pins s σ H D I h
 exact wpAny_Expr_any (thn (he pins s σ H _ I h) fun v s1 ⟨x,H1,I1,r1,q1⟩=>⟨σ,H1,I1,q1⟩) I.quiet hs
def tRet(te:TE):TS:=fun D σ H=>te σ H D.rt
theorem ps_ret(he:PE X e te):PS X (.Return (some e) pos) (tRet te):=by
 intro pins s σ H D I h
 exact wpAny_Return_some (thn (he pins s σ H _ I h) fun v s1 ⟨x,H1,I1,r1,q1⟩=>⟨x,σ,H1,I1,r1,q1⟩)
def tIfS(c:TT)(t u:TS):TS:=fun D σ H=>c σ H fun b H1=>if b=true then t D σ H1 else u D σ H1
theorem ps_if{c:Expr}{a b:List Stmt}{tc:TT}(hc:PT X c tc)(ha:PSs X a t)(hb:PSs X b u):PS X (.If c a b pos) (tIfS tc t u):=by
 intro pins s σ H D I h
 refine wpAny_If (thn (hc pins s σ H _ I h) fun d s1 ⟨H1,I1,q1⟩=>?_)
 cases d with
 | true=>exact ha pins s1 σ H1 D I1 q1
 | false=>exact hb pins s1 σ H1 D I1 q1
def tNever:TS:=fun _ _ _=>False
theorem pss_never{sts:List Stmt}:PSs X sts tNever:=fun _ _ _ _ _ _ h=>h.elim
end
abbrev TG:=V→St→Hp→(St→Hp→Prop)→Prop
abbrev TGs:=List V→St→Hp→(St→Hp→Prop)→Prop
def PG(X:Cx)(target:Expr)(t:TG):Prop :=
 ∀(pins:List (Addr×Obj)) (s:Shared) (σ : St) (H:Hp) (v:V) (u:Value) (Q:St→Hp→Prop),Inv X pins σ H s→RelV v u→t v σ H Q →
  wpAny (model X.prog X.w) X.A (assign target X.env u) (fun _ s'=>∃σ' H',Inv X pins σ' H' s'∧Q σ' H') X.xe s
def PGs(X:Cx)(ts:List Expr)(t:TGs):Prop :=
 ∀(pins:List (Addr×Obj)) (s:Shared) (σ : St) (H:Hp) (vs:List V) (us:List Value) (Q:St→Hp→Prop),Inv X pins σ H s→Vals vs us→t vs σ H Q →
  wpAny (model X.prog X.w) X.A (assignInOrder ((assignEach ts X.env).map (·.2)) us) (fun _ s'=>∃σ' H',Inv X pins σ' H' s'∧Q σ' H') X.xe s
abbrev TSet:=V→V→V→Hp→(Hp→Prop)→Prop
def PSet(X:Cx)(t:TSet):Prop :=
 ∀(pins:List (Addr×Obj)) (s:Shared) (σ : St) (H:Hp) (o i v:V) (ov iv u:Value) (Q:Hp→Prop),Inv X pins σ H s→RelV o ov→RelV i iv→RelV v u→t o i v H Q →
  wpAny (model X.prog X.w) X.A (setItem ov iv u) (fun _ s'=>∃H',Inv X pins σ H' s'∧Q H') X.xe s
section
variable{X:Cx}{pos:Pos}
def gName(i:Nat):TG:=fun v σ H Q=>Q (σ.set i (some v)) H
theorem pg_name{i:Nat}{x:Str}(hN:X.N.Nodup)(hi:X.N[i]? = some x)(hx:Loc X.env.scope x)(hf:X.fn x=true∨X.env.scope.names.lookup x=some .local:=by first | exact .inl rfl | exact .inr rfl | assumption):PG X (.Name x pos) (gName i):=by
 intro pins s σ H v u Q I r h
 exact wpAny_assign_Name (store_ok I hN hi hx r (fun s' I'=>⟨_,H,I',h⟩) hf)
def gNil:TGs:=fun vs σ H Q=>vs=[]∧Q σ H
def gCons(t:TG)(u:TGs):TGs:=fun vs σ H Q=>∃v r,vs=v :: r∧t v σ H fun σ' H'=>u r σ' H' Q
theorem pgs_nil:PGs X [] gNil:=by
 intro pins s σ H vs us Q I r h
 obtain ⟨e,h⟩:=h
 subst e
 cases r
 exact assignInOrder_nil ⟨σ,H,I,h⟩
theorem pgs_cons{e:Expr}{es:List Expr}{t:TG}{u:TGs}(h1:PG X e t)(h2:PGs X es u)
  (hs:(assignEach (e :: es) X.env).map (·.2)=assign e X.env :: (assignEach es X.env).map (·.2):=by rfl):PGs X (e :: es) (gCons t u):=by
 intro pins s σ H vs us Q I r h
 obtain ⟨v,vr,e1,h⟩:=h
 subst e1
 cases r with
 | cons r rr =>
  rw [hs]
  refine assignInOrder_cons (thn (h1 pins s σ H _ _ _ I r h) fun _ s1 ⟨σ1,H1,I1,q1⟩=>?_)
  exact h2 pins s1 σ1 H1 _ _ Q I1 rr q1
def gTup(K:PySem.W.Frag)(n:Nat)(t:TGs):TG:=fun v σ H Q=>∃a xs,v = .ref a∧SqT K H a xs∧xs.length=n∧t xs σ H Q
theorem pg_tup{es:List Expr}{k:Nat}{t:TGs}{n:Nat}(hc:X.calm=true)(h:PGs X es t)
  (hn:(assignEach es X.env).length=n:=by rfl) (hst:(assignEach es X.env).findIdx? (·.1)=none:=by rfl):PG X (.Tuple es k pos) (gTup X.K n t):=by
 intro pins s σ H v u Q I r hw
 obtain ⟨a,xs,e1,hq,hl,hw⟩:=hw
 subst e1
 cases r
 obtain ⟨its,rv,ht,hz⟩:=I.tuple hq
 refine assign_Tuple_tuple (I.ok.hd hc) ht (by simp [hn,← hl,rv.length]) hst fun h' hx=>?_
 have I1:Inv X pins σ H { s with heap:=h' }:=I.kept (t':=s.toks) fun b o e=>hx b o (Nat.ne_of_lt (Heap.lt_size e)) e
 exact h pins _ σ H xs _ Q I1 (by simpa using rv) hw
def gSub(to ti:TE)(t:TSet):TG:=fun v σ H Q=>to σ H fun o H1=>ti σ H1 fun i H2=>t o i v H2 fun H3=>Q σ H3
theorem pg_sub{o i:Expr}{to ti:TE}{t:TSet}(ho:PE X o to)(hi:PE X i ti)(hs:PSet X t)
  (ha:∀v,assign (.Subscript o i pos) X.env v=(do
   let ov ← holding [v] (eval o X.env)
   let iv ← holding [v,ov] (eval i X.env)
   standAt pos
   holding [v,ov,iv] (setItem ov iv v)
   release [v,ov,iv] []):=by intro _;rfl):PG X (.Subscript o i pos) (gSub to ti t):=by
 intro pins s σ H v u Q I r h
 rw [ha]
 refine wpAny_bind (wpAny_holding (thn (ho pins s σ H _ I h) fun ov s1 ⟨x,H1,I1,r1,q1⟩=>?_))
 refine wpAny_bind (wpAny_holding (thn (hi pins s1 σ H1 _ I1 q1) fun iv s2 ⟨y,H2,I2,r2,q2⟩=>?_))
 refine wpAny_bind (wpAny_standAt (wpAny_bind (wpAny_holding (thn (hs pins s2 σ H2 x y v ov iv u _ I2 r1 r2 r q2) fun _ s3 ⟨H3,I3,q3⟩=>?_))))
 exact wpAny_release ⟨σ,H3,I3,q3⟩
def tAsg(te:TE)(g:TG):TS:=fun D σ H=>te σ H fun x H1=>g x σ H1 D.nx
theorem ps_asg{tg e:Expr}{te:TE}{g:TG}(he:PE X e te)(hg:PG X tg g)(hs:swapsWithSole [tg] e pos.line X.env=pure false:=by rfl)(hw:swappedStores [tg] e X.env=pure none:=by rfl)
  (h1:(assignEach [tg] X.env).map (·.2)=[assign tg X.env]:=by rfl):PS X (.Assign [tg] e pos) (tAsg te g):=by
 intro pins s σ H D I h
 refine wpAny_Assign_stores (thn (he pins s σ H _ I h) fun v s1 ⟨x,H1,I1,r1,q1⟩=>?_) hs hw
 rw [h1]
 exact thn (hg pins s1 σ H1 x v _ I1 r1 q1) fun _ s2 q=>q
theorem ps_set{i:Nat}{x:Str}{e:Expr}{te:TE}{pos':Pos}(hN:X.N.Nodup)(hi:X.N[i]? = some x)(hx:Loc X.env.scope x)(he:PE X e te)(hs:swapsWith e (some (.Name x pos')) pos.line X.env=pure false:=by rfl)(hf:X.fn x=true∨X.env.scope.names.lookup x=some .local:=by first | exact .inl rfl | exact .inr rfl | assumption) :
  PS X (.Assign [.Name x pos'] e pos) (tAsg te (gName i)):=by
 intro pins s σ H D I h
 refine wpAny_Assign_Name (thn (he pins s σ H _ I h) fun v s1 ⟨y,H1,I1,r1,q1⟩=>?_) hs
 exact store_ok I1 hN hi hx r1 (fun s2 I2=>⟨_,H1,I2,q1⟩) hf
end
section
variable{X:Cx}{pos:Pos}
def tWhile(c:TT)(tb:TS):TS:=fun D σ H=>∃W:Nat→St→Hp→Prop,(∃m,W m σ H)∧∀m σ H,W m σ H →
 c σ H fun b H1=>if b=true then ∃N:St→Hp→Prop,(∀σ' H',N σ' H'→∃m',m' < m∧W m' σ' H')∧tb { D with nx:=N,ct:=N,bk:=D.nx } σ H1 else D.nx σ H1
theorem ps_while{c:Expr}{body:List Stmt}{tc:TT}{tb:TS}(hp:PassesOwn (model X.prog X.w) X.A X.env X.xe)(hc:PT X c tc)(hb:PSs X body tb):PS X (.While c body [] pos) (tWhile tc tb):=by
 intro pins s σ H D I h
 obtain ⟨W,⟨m0,w0⟩,turn⟩:=h
 refine wpAny_While (codeAny_whileLoop (fun n s'=>∃σ' H',Inv X pins σ' H' s'∧W n σ' H') ?_ m0 ⟨σ,H,I,w0⟩)
 rintro n s1 ⟨σ1,H1,I1,w1⟩
 refine wpAny_passesOwn hp (thn (hc pins s1 σ1 H1 _ I1 (turn n σ1 H1 w1)) fun b s2 ⟨H2,I2,q2⟩=>?_)
 cases b with
 | true =>
  obtain ⟨N,hN,q2⟩:=q2
  rw [if_pos rfl]
  refine wpAny_passesOwn hp (thn (hb pins s2 σ1 H2 _ I2 q2) fun f s3 q3=>?_)
  cases f with
  | next =>
   obtain ⟨σ3,H3,I3,n3⟩:=q3
   obtain ⟨m',hm,w3⟩:=hN σ3 H3 n3
   exact ⟨m',hm,σ3,H3,I3,w3⟩
  | cont =>
   obtain ⟨σ3,H3,I3,n3⟩:=q3
   obtain ⟨m',hm,w3⟩:=hN σ3 H3 n3
   exact ⟨m',hm,σ3,H3,I3,w3⟩
  | brk=>exact q3
  | ret v=>exact q3
 | false =>
  rw [if_neg Bool.false_ne_true]
  exact wpAny_execs_nil ⟨σ1,H2,I2,q2⟩
end
structure It where
 go:Nat→Hp→Prop
 yld:Nat→Hp→V→Hp→Prop
 stop:Nat→Hp→Prop
def FpOk(X:Cx)(pins:List (Addr×Obj))(H:Hp)(b:Addr):Prop :=
 H b=none∧b≠X.env.locals∧b∉X.fs∧(b∈X.ex∨X.s₀.heap.objs.size≤b)∧(∀x c,X.env.cells.lookup x=some c→c≠b)∧∀p∈X.pn++pins,p.1≠b
theorem Inv.fpOk{X:Cx}{pins:List (Addr×Obj)}{σ : St}{H H':Hp}{s:Shared}{b:Addr}(I:Inv X pins σ H s)(hb:s.heap.objs.size≤b)(hn:H' b=none):FpOk X pins H' b:=by
 refine ⟨hn,Nat.ne_of_gt (Nat.lt_of_lt_of_le I.lt hb),I.nofs hb,.inr (Nat.le_trans I.sz hb),fun x c e z=>?_,fun p hp z=>?_⟩
 ·obtain ⟨v,q⟩:=I.cell x c e
  exact absurd (Nat.lt_of_lt_of_le q.lt (by rw [z];exact hb)) (Nat.lt_irrefl _)
 ·exact absurd (Nat.lt_of_lt_of_le (Heap.lt_size (I.pin p hp).1) (by rw [z];exact hb)) (Nat.lt_irrefl _)
structure Turn (P:Program) (w:World) (K:PySem.W.Frag) (tg:Expr) (J:It) (fp:List Addr) (it:Addr) (tn:Nat→Heap→Prop):Prop where
 mem:it∈fp
 obj:∀i h,tn i h→∀b∈fp,∃o,h.get? b=some o∧∀v,o.data≠.cell v
 keep:∀i h h',tn i h→(∀b∈fp,∀o,h.get? b=some o→h'.get? b=some o)→tn i h'
 item:∀(X:Cx),X.prog=P→X.w=w→X.K=K→X.calm=true→∀(i:Nat) (pins:List (Addr×Obj)) (s:Shared) (σ : St) (H:Hp) (E:Value→Shared→Prop),Inv X pins σ H s→(∀b∈fp,FpOk X pins H b)→tn i s.heap→J.go i H →
  wpAny (model P w) X.A (pyNext (.ref it)) (fun r s1=>∃u,r=some u ∧
   wpAny (model P w) X.A (letOwnedTupleGo tg (.ref it) u) (fun _ s2=>∃x H',Inv X pins σ H' s2∧RelV x u∧J.yld i H x H'∧tn (i+1) s2.heap∧∀b∈fp,H' b=none) E s1) E s
 done:∀(X:Cx),X.prog=P→X.w=w→X.K=K→X.calm=true→∀(i:Nat) (pins:List (Addr×Obj)) (s:Shared) (σ : St) (H:Hp) (E:Value→Shared→Prop),Inv X pins σ H s→(∀b∈fp,FpOk X pins H b)→tn i s.heap→J.stop i H →
  wpAny (model P w) X.A (pyNext (.ref it)) (fun r s1=>r=none∧Inv X pins σ H s1) E s
 self:∀(A:Around) (i:Nat) (s:Shared) (Q:Value→Shared→Prop) (E:Value→Shared→Prop),tn i s.heap→Q (.ref it) s→wpAny (model P w) A (pyIter (.ref it)) Q E s
abbrev TI:=St→Hp→(It→Hp→Prop)→Prop
def PIE(X:Cx)(pins:List (Addr×Obj))(σ : St)(tg:Expr)(R:It→Hp→Prop)(itv:Value)(s2:Shared):Prop :=
 ∃(it:Addr) (fp:List Addr) (tn:Nat→Heap→Prop) (J:It) (H':Hp),itv = .ref it∧Inv X pins σ H' s2∧Turn X.prog X.w X.K tg J fp it tn∧tn 0 s2.heap∧(∀b∈fp,FpOk X pins H' b)∧R J H'
def PI(X:Cx)(tg iter:Expr)(wi:TI):Prop :=
 ∀(pins:List (Addr×Obj)) (s:Shared) (σ : St) (H:Hp) (R:It→Hp→Prop),Inv X pins σ H s→wi σ H R →
  wpAny (model X.prog X.w) X.A (eval iter X.env) (fun v s1=>wpAny (model X.prog X.w) X.A (pyIter v) (PIE X pins σ tg R) X.xe s1) X.xe s
theorem go_of {M : Model} {A : Around} {E : Value → Shared → Prop} {s : Shared} {tg : Expr} {it : Addr} {u : Value} {o : Obj} {n : String} {vs : Array Value} {Q : Unit → Shared → Prop} (ho : s.heap.get? it = some o) (hc : o.cls = .type n) (hd : o.data = .fields vs)
    (hn : ["enumerate", "zip", "dict_itemiterator", "dict_reverseitemiterator", "odict_iterator", "itertools.zip_longest", "itertools.pairwise"].contains n = false) (hQ : Q () s) : wpAny M A (letOwnedTupleGo tg (.ref it) u) Q E s := by
  unfold letOwnedTupleGo
  cases tg <;> first
    | exact wpAny_pure hQ
    | (cases u <;> first
        | exact wpAny_pure hQ
        | (refine wpAny_bind (wpAny_load ho ?_)
           rw [hc, hd]
           show wpAny M A (if (["enumerate", "zip", "dict_itemiterator", "dict_reverseitemiterator", "odict_iterator", "itertools.zip_longest", "itertools.pairwise"].contains n && vs[0]? == some (rawInt _)) = true then _ else _) Q E s
           rw [if_neg (by intro h; rw [hn, Bool.false_and] at h; cases h)]
           exact wpAny_pure hQ))
def Itl(K:PySem.W.Frag)(a:Addr):It :=
 ⟨fun i H=>∃xs x,SqL K H a xs∧xs[i]? = some x,fun i H x H'=>H'=H∧∀xs,SqL K H a xs→xs[i]? = some x,fun i H=>∃xs,SqL K H a xs∧xs.length≤i⟩
def Itr(lo:Int)(n:Nat):It:=⟨fun i _=>i < n,fun i H x H'=>H'=H∧x = .int (lo+i),fun i _=>n≤i⟩
theorem turn_list{P:Program}{w:World}{K:PySem.W.Frag}{tg:Expr}(a it:Addr):Turn P w K tg (Itl K a) [it] it (fun i h=>h.IsListIter it a i) where
 mem:=by simp
 obj:=fun i h st b hb=>by
  have e:b=it:=by simpa using hb
  subst e
  obtain ⟨o,e,c,d⟩:=st
  exact ⟨o,e,fun v z=>by rw [d] at z;cases z⟩
 keep:=fun i h h' st k=>st.at fun o e=>k it (by simp) o e
 item:=by
  intro X hP hw hK hc i pins s σ H E I hf st hg
  subst hP hw hK
  obtain ⟨xs,x,hq,hx⟩:=hg
  obtain ⟨its,rv,p,hz⟩:=I.list hq
  obtain ⟨u,hu,ru⟩:=rv.get hx
  obtain ⟨f0,f1,f2,f3,f4,f5⟩:=hf it (by simp)
  refine wpAny_pyNext_list_item st p.isList (x:=u) (by simpa using hu) fun h' st' sb=>?_
  have I1:Inv X pins σ H { s with heap:=h' }:=I.turned (t':=s.toks) (fun b o hb e=>(sb.2 b hb).trans e) f0 f1 f3 f4 f5
  obtain ⟨o,e,c,d⟩:=id st'
  exact ⟨u,rfl,go_of (s:={ s with heap:=h' }) e c d (by decide) ⟨x,H,I1,ru,⟨rfl,fun ys hy=>by rw [I.list_inj hy hq];exact hx⟩,st',fun b hb=>(hf b hb).1⟩⟩
 done:=by
  intro X hP hw hK hc i pins s σ H E I hf st hg
  subst hP hw hK
  obtain ⟨xs,hq,hx⟩:=hg
  obtain ⟨its,rv,p,hz⟩:=I.list hq
  obtain ⟨f0,f1,f2,f3,f4,f5⟩:=hf it (by simp)
  have hl:=rv.length
  exact wpAny_pyNext_list_end (I.ok.hd hc) st p.isList (by simp;omega) fun h' eb=>⟨rfl,I.turned (t':=s.toks) (fun b o hb e=>eb b o hb e) f0 f1 f3 f4 f5⟩
 self:=fun _ _ _ _ _ st h=>wpAny_pyIter_listiter st h
theorem turn_range{P:Program}{w:World}{K:PySem.W.Frag}{tg:Expr}(it:Addr)(lo:Int)(n:Nat):Turn P w K tg (Itr lo n) [it] it (fun i h=>IsRangeIter h it (lo+(i:Nat)*1) ((n:Int) - (i:Nat)) 1) where
 mem:=by simp
 obj:=fun i h st b hb=>by
  have e:b=it:=by simpa using hb
  subst e
  exact ⟨_,st,fun v z=>by
   have z':Data.fields _=Data.cell v:=z
   cases z'⟩
 keep:=fun i h h' st k=>k it (by simp) _ st
 item:=by
  intro X hP hw hK hc i pins s σ H E I hf st hg
  subst hP hw hK
  obtain ⟨f0,f1,f2,f3,f4,f5⟩:=hf it (by simp)
  have W:=Walks.range (prog:=X.prog) (w:=X.w) (I.ok.hd hc) it lo 1 n
  refine W.item i s _ _ hg st fun v h' tk hv st' kk=>?_
  obtain ⟨t,rfl⟩:=hv
  have I1:Inv X pins σ H { s with heap:=h',toks:=tk }:=I.turned (fun b o hb e=>kk b o (by simpa using hb) e) f0 f1 f3 f4 f5
  refine ⟨_,rfl,go_of (s:={ s with heap:=h',toks:=tk }) (n:="range_iterator") st' rfl rfl (by decide) ⟨.int (lo+i),H,I1,⟨t,?_⟩,⟨rfl,rfl⟩,st',fun b hb=>(hf b hb).1⟩⟩
  rw [Int.mul_one]
 done:=by
  intro X hP hw hK hc i pins s σ H E I hf st hg
  subst hP hw hK
  obtain ⟨f0,f1,f2,f3,f4,f5⟩:=hf it (by simp)
  exact wpAny_pyNext_range_end (I.ok.hd hc) st (by have:n≤i:=hg;omega) fun h' eb=>⟨rfl,I.turned (t':=s.toks) (fun b o hb e=>eb b o hb e) f0 f1 f3 f4 f5⟩
 self:=fun _ _ _ _ _ st h=>wpAny_pyIter_rangeiter st h
end L2
namespace L2
open PySem PySem.Spec PyProof.Rows
section
variable{X:Cx}{tg:Expr}
def iList(K:PySem.W.Frag)(tl:TE):TI:=fun σ H R=>tl σ H fun x H1=>∃a,x = .ref a∧(∃xs,SqL K H1 a xs)∧R (Itl K a) H1
theorem pi_list{l:Expr}{tl:TE}(hl:PE X l tl):PI X tg l (iList X.K tl):=by
 intro pins s σ H R I h
 refine thn (hl pins s σ H _ I h) fun v s1 ⟨x,H1,I1,r1,q1⟩=>?_
 obtain ⟨a,e,⟨xs,hq⟩,q⟩:=q1
 subst e
 cases r1
 obtain ⟨its,rv,p,hz⟩:=I1.list hq
 refine wpAny_pyIter_list p.isList ?_
 refine ⟨s1.heap.objs.size,[s1.heap.objs.size],_,_,H1,rfl,I1.kept (t':=s1.toks) fun b o e=>Heap.get?_push_of_some _ e,turn_list a _,⟨_,Heap.get?_push_size _ rfl,rfl,rfl⟩,fun b hb=>?_,q⟩
 have e:b=s1.heap.objs.size:=by simpa using hb
 subst e
 exact I1.fpOk (Nat.le_refl _) (I1.hok.fresh (Nat.le_refl _))
theorem range_it{pins:List (Addr×Obj)}{σ : St}{H:Hp}{s:Shared}{R:It→Hp→Prop}{E:Value→Shared→Prop}{lo hi:Int}{t u v:Tok}{tk:Nat}(I:Inv X pins σ H s)(h1 : -(2 ^ 62)≤lo)(h2:lo < 2 ^ 62)(h3 : -(2 ^ 62)≤hi)(h4:hi < 2 ^ 62)
  (q:R (Itr lo (hi - lo).toNat) H):wpAny (model X.prog X.w) X.A (pyIter (.ref s.heap.objs.size)) (PIE X pins σ tg R) E { s with heap:=s.heap.push { cls:=.type "range",data:=.fields #[.int lo t,.int hi u,.int 1 v] },toks:=tk }:=by
 refine wpAny_pyIter_range (IsRange.new ..) (small_one h1 h2 h3 h4) ?_
 have I1:Inv X pins σ H { s with heap:=s.heap.push { cls:=.type "range",data:=.fields #[.int lo t,.int hi u,.int 1 v] },toks:=tk }:=I.kept fun b o e=>Heap.get?_push_of_some _ e
 refine ⟨(s.heap.push { cls:=.type "range",data:=.fields #[.int lo t,.int hi u,.int 1 v] }).objs.size,[(s.heap.push { cls:=.type "range",data:=.fields #[.int lo t,.int hi u,.int 1 v] }).objs.size],_,_,H,rfl,
  I1.kept (t':=tk) fun b o e=>Heap.get?_push_of_some _ e,turn_range _ lo (hi - lo).toNat,?_,fun b hb=>?_,q⟩
 ·have e1:lo+((0:Nat):Int)*1=lo:=by simp
  have e2:(((hi - lo).toNat:Nat):Int) - ((0:Nat):Int)=Builtin.Range.rangeSize lo hi 1:=by rw [rangeSize_one];split <;> omega
  show IsRangeIter _ _ (lo+((0:Nat):Int)*1) ((((hi - lo).toNat:Nat):Int) - ((0:Nat):Int)) 1
  rw [e1,e2]
  exact Heap.get?_push_size _ rfl
 ·have e:b=(s.heap.push { cls:=.type "range",data:=.fields #[.int lo t,.int hi u,.int 1 v] }).objs.size:=by simpa using hb
  subst e
  exact I1.fpOk (Nat.le_refl _) (I1.hok.fresh (Nat.le_refl _))
def iRng1(ta:TA):TI:=fun σ H R=>ta σ H fun vs H1=>∃j:Int,vs=[.int j]∧-(2 ^ 62)≤j∧j < 2 ^ 62∧R (Itr 0 j.toNat) H1
theorem pi_range1 {a:Expr} {ta:TA} {p pos:Pos} (hg:Gl X "range") (hm:X.mg "range" = none) (ha:PA X [a] ta) (hs:starEach [a] X.env=[(false,eval a X.env)]:=by rfl):PI X tg (.Call (.Name "range" p) [a] [] pos) (iRng1 ta):=by
 intro pins s σ H R I h
 refine Call_ (ld_blt I hg hm boot_range (PyProof.Rows.callWith_type1 (thn (ha pos pins s σ H _ I h) fun us s1 ⟨vs,H1,I1,r1,q1⟩=>?_) hs rfl))
 obtain ⟨j,e,q1,q2,q⟩:=q1
 subst e
 cases r1 with
 | cons r rr =>
  cases rr
  obtain ⟨t,rfl⟩:=r
  exact call_range_1 (range_it I1 (by omega) (by omega) q1 q2 (by simpa using q))
def tFor(wi:TI)(g:TG)(tb:TS):TS:=fun D σ H=>wi σ H fun J H1=>∃W:Nat→Nat→St→Hp→Prop,(∃m,W 0 m σ H1)∧∀i m σ H,W i m σ H →
 (J.stop i H∧D.nx σ H)∨(J.go i H∧∃N:St→Hp→Prop,(∀σ' H',N σ' H'→∃m',m' < m∧W (i+1) m' σ' H')∧∀x H',J.yld i H x H'→g x σ H' fun σ2 H2=>tb { D with nx:=N,ct:=N,bk:=D.nx } σ2 H2)
def pinsAt(fp:List Addr)(h:Heap):List (Addr×Obj):=fp.filterMap fun b=>(h.get? b).map fun o=>(b,o)
theorem mem_pinsAt{fp:List Addr}{h:Heap}{b:Addr}{o:Obj}(hb:b∈fp)(e:h.get? b=some o):(b,o)∈pinsAt fp h:=List.mem_filterMap.mpr ⟨b,hb,by rw [e];rfl⟩
theorem of_pinsAt{fp:List Addr}{h:Heap}{p:Addr×Obj}(hp:p∈pinsAt fp h):p.1∈fp∧h.get? p.1=some p.2:=by
 obtain ⟨b,hb,e⟩:=List.mem_filterMap.mp hp
 cases q:h.get? b with
 | none=>rw [q] at e;cases e
 | some o =>
  rw [q] at e
  have e':(b,o)=p:=Option.some.inj e
  subst e'
  exact ⟨hb,q⟩
theorem Inv.pinned{pins:List (Addr×Obj)}{σ : St}{H:Hp}{s:Shared}{fp:List Addr}(I:Inv X pins σ H s)(hf:∀b∈fp,FpOk X pins H b)(ho:∀b∈fp,∃o,s.heap.get? b=some o∧∀v,o.data≠.cell v):Inv X (pins++pinsAt fp s.heap) σ H s :=
 I.pins_of fun p hp=>(List.mem_append.mp hp).elim (fun z=>I.pin p (List.mem_append_right _ z)) fun z=>by
  obtain ⟨hb,e⟩:=of_pinsAt z
  obtain ⟨f0,f1,f2,_⟩:=hf p.1 hb
  obtain ⟨o,e',d⟩:=ho p.1 hb
  rw [e] at e';cases e'
  exact ⟨e,f0,f1,f2,d⟩
theorem Inv.unpinned{pins pl:List (Addr×Obj)}{σ : St}{H:Hp}{s:Shared}(I:Inv X (pins++pl) σ H s):Inv X pins σ H s:=I.pins_of fun p hp=>I.pin p (List.mem_append_right _ (List.mem_append_left _ hp))
theorem ps_for{iter:Expr}{body:List Stmt}{wi:TI}{g:TG}{tb:TS}{pos:Pos}(hp:PassesOwn (model X.prog X.w) X.A X.env X.xe)(hc:X.calm=true)(hi:PI X tg iter wi)(hg:PG X tg g)(hb:PSs X body tb)
  (hs:∀x,foldedSetIterable iter X.env x=pure x:=by intro _;rfl):PS X (.For tg iter body [] pos) (tFor wi g tb):=by
 intro pins s σ H D I h
 refine wpAny_For (thn (hi pins s σ H _ I h) fun v s1 h1=>thn h1 fun itv s2 h2=>?_) hs
 obtain ⟨it,fp,tn,J,H2,e,I2,T,st2,f2,W,⟨m0,w0⟩,turn⟩:=h2
 subst e
 have stat:∀{H':Hp},(∀b∈fp,H' b=none)→∀b∈fp,FpOk X pins H' b:=fun hn b hb=>⟨hn b hb,(f2 b hb).2⟩
 refine codeAny_forLoop_any (fun n s'=>∃i σ' H',Inv X pins σ' H' s'∧tn i s'.heap∧(∀b∈fp,H' b=none)∧W i n σ' H') ?_ m0 ⟨0,σ,H2,I2,st2,fun b hb=>(f2 b hb).1,w0⟩
 rintro n s3 ⟨i,σ3,H3,I3,st3,fr3,w3⟩
 rcases turn i n σ3 H3 w3 with ⟨stop,qn⟩ | ⟨go,N,hN,step⟩
 ·refine wpAny_passesOwn hp (thn (T.done X rfl rfl rfl hc i pins s3 σ3 H3 X.xe I3 (stat fr3) st3 stop) fun r s4 ⟨hr,I4⟩=>?_)
  subst hr
  exact wpAny_execs_nil ⟨σ3,H3,I4,qn⟩
 ·refine wpAny_passesOwn hp (thn (T.item X rfl rfl rfl hc i pins s3 σ3 H3 X.xe I3 (stat fr3) st3 go) fun r s4 ⟨u,hr,h4⟩=>?_)
  subst hr
  refine wpAny_passesOwn hp (thn h4 fun _ s5 ⟨x,H5,I5,r5,y5,st5,fr5⟩=>?_)
  have I5':=I5.pinned (stat fr5) (T.obj _ _ st5)
  refine wpAny_passesOwn hp (thn (hg _ s5 σ3 H5 x u _ I5' r5 (step x H5 y5)) fun _ s6 ⟨σ6,H6,I6,q6⟩=>?_)
  refine wpAny_passesOwn hp (thn (hb _ s6 σ6 H6 _ I6 q6) fun f s7 q7=>?_)
  have again:∀{σ7:St} {H7:Hp},Inv X (pins++pinsAt fp s5.heap) σ7 H7 s7→N σ7 H7→∃m,m < n∧∃i σ' H',Inv X pins σ' H' s7∧tn i s7.heap∧(∀b∈fp,H' b=none)∧W i m σ' H':=fun {σ7 H7} I7 n7=>by
   obtain ⟨m',hm,w7⟩:=hN σ7 H7 n7
   refine ⟨m',hm,i+1,σ7,H7,I7.unpinned,T.keep _ _ _ st5 fun b hb o e=>(I7.pin (b,o) (List.mem_append_right _ (List.mem_append_right _ (mem_pinsAt hb e)))).1,fun b hb=>?_,w7⟩
   obtain ⟨o,e,d⟩:=T.obj _ _ st5 b hb
   exact (I7.pin (b,o) (List.mem_append_right _ (List.mem_append_right _ (mem_pinsAt hb e)))).2.1
  cases f with
  | next=>obtain ⟨σ7,H7,I7,n7⟩:=q7;exact again I7 n7
  | cont=>obtain ⟨σ7,H7,I7,n7⟩:=q7;exact again I7 n7
  | brk=>obtain ⟨σ7,H7,I7,q7⟩:=q7;exact ⟨σ7,H7,I7.unpinned,q7⟩
  | ret v=>obtain ⟨x7,σ7,H7,I7,r7,q7⟩:=q7;exact ⟨x7,σ7,H7,I7.unpinned,r7,q7⟩
end
theorem for_list{K:PySem.W.Frag}{a:Addr}{xs:List V}{g:TG}{tb:TS}{D:Ends}{σ : St}{H:Hp}(Pv:Nat→St→Hp→Prop)(h0:Pv 0 σ H)(hl:∀i σ H,i≤xs.length→Pv i σ H→SqL K H a xs)
  (hs:∀i x σ H,xs[i]? = some x→Pv i σ H→g x σ H fun σ2 H2=>tb { D with nx:=Pv (i+1),ct:=Pv (i+1),bk:=D.nx } σ2 H2) (hd:∀σ H,Pv xs.length σ H→D.nx σ H) :
  ∃W:Nat→Nat→St→Hp→Prop,(∃m,W 0 m σ H)∧∀i m σ H,W i m σ H →
   ((Itl K a).stop i H∧D.nx σ H)∨((Itl K a).go i H∧∃N:St→Hp→Prop,(∀σ' H',N σ' H'→∃m',m' < m∧W (i+1) m' σ' H')∧∀x H',(Itl K a).yld i H x H'→g x σ H' fun σ2 H2=>tb { D with nx:=N,ct:=N,bk:=D.nx } σ2 H2):=by
 refine ⟨fun i m σ H=>m=xs.length - i∧i≤xs.length∧Pv i σ H,⟨xs.length,by simp,Nat.zero_le _,h0⟩,?_⟩
 rintro i m σ H ⟨rfl,hi,p⟩
 have q:=hl i σ H hi p
 by_cases hlt:i < xs.length
 ·refine .inr ⟨⟨xs,xs[i],q,by simp [hlt]⟩,Pv (i+1),fun σ' H' p'=>⟨xs.length - (i+1),by omega,rfl,hlt,p'⟩,fun x H' y=>?_⟩
  obtain ⟨e,y⟩:=y
  subst e
  exact hs i x σ _ (y xs q) p
 ·have e:i=xs.length:=by omega
  subst e
  exact .inl ⟨⟨xs,q,Nat.le_refl _⟩,hd σ H p⟩
theorem for_range{lo:Int}{n:Nat}{g:TG}{tb:TS}{D:Ends}{σ : St}{H:Hp}(Pv:Nat→St→Hp→Prop)(h0:Pv 0 σ H)
  (hs:∀i σ H,i < n→Pv i σ H→g (.int (lo+i)) σ H fun σ2 H2=>tb { D with nx:=Pv (i+1),ct:=Pv (i+1),bk:=D.nx } σ2 H2) (hd:∀σ H,Pv n σ H→D.nx σ H) :
  ∃W:Nat→Nat→St→Hp→Prop,(∃m,W 0 m σ H)∧∀i m σ H,W i m σ H →
   ((Itr lo n).stop i H∧D.nx σ H)∨((Itr lo n).go i H∧∃N:St→Hp→Prop,(∀σ' H',N σ' H'→∃m',m' < m∧W (i+1) m' σ' H')∧∀x H',(Itr lo n).yld i H x H'→g x σ H' fun σ2 H2=>tb { D with nx:=N,ct:=N,bk:=D.nx } σ2 H2):=by
 refine ⟨fun i m σ H=>m=n - i∧i≤n∧Pv i σ H,⟨n,by simp,Nat.zero_le _,h0⟩,?_⟩
 rintro i m σ H ⟨rfl,hi,p⟩
 by_cases hlt:i < n
 ·refine .inr ⟨hlt,Pv (i+1),fun σ' H' p'=>⟨n - (i+1),by omega,rfl,hlt,p'⟩,fun x H' y=>?_⟩
  obtain ⟨e,y⟩:=y
  subst e y
  exact hs i σ _ hlt p
 ·have e:i=n:=by omega
  subst e
  exact .inl ⟨Nat.le_refl _,hd σ H p⟩
theorem while_by{c:TT}{tb:TS}{D:Ends}{σ : St}{H:Hp}(Pv:St→Hp→Prop)(μ : St→Hp→Nat)(h0:Pv σ H)
  (hs:∀σ H,Pv σ H→c σ H fun b H1=>if b=true then tb { D with nx:=fun σ' H'=>Pv σ' H'∧μ σ' H' < μ σ H,ct:=fun σ' H'=>Pv σ' H'∧μ σ' H' < μ σ H,bk:=D.nx } σ H1 else D.nx σ H1)
  (mono:∀σ H Q Q',(∀b H1,Q b H1→Q' b H1)→c σ H Q→c σ H Q'):tWhile c tb D σ H:=by
 refine ⟨fun m σ H=>m = μ σ H∧Pv σ H,⟨_,rfl,h0⟩,?_⟩
 rintro m σ H ⟨rfl,p⟩
 refine mono σ H _ _ (fun b H1 q=>?_) (hs σ H p)
 cases b with
 | true=>exact ⟨_,fun σ' H' ⟨p',l⟩=>⟨_,l,rfl,p'⟩,q⟩
 | false=>exact q
end L2
namespace L2
open PySem PySem.Spec PyProof.Rows
abbrev R2:=V→V→Hp→VK→Prop
def OpR(X:Cx)(f:Value→Value→Sem Value)(r:R2):Prop :=
 ∀(pins:List (Addr×Obj)) (s:Shared) (σ : St) (H:Hp) (x y:V) (v u:Value) (Q:VK),Inv X pins σ H s→RelV x v→RelV y u→r x y H Q →
  wpAny (model X.prog X.w) X.A (f v u) (EP X pins σ Q) X.xe s
def CallR(X:Cx)(f:Value)(r:List V→Hp→VK→Prop):Prop :=
 ∀(pins:List (Addr×Obj)) (s:Shared) (σ : St) (H:Hp) (xs:List V) (us:List Value) (Q:VK),Inv X pins σ H s→Vals xs us→r xs H Q →
  wpAny (model X.prog X.w) X.A (call f us) (EP X pins σ Q) X.xe s
def tOp(r:R2)(ta tb:TE):TE:=fun σ H Q=>ta σ H fun x H1=>tb σ H1 fun y H2=>r x y H2 Q
def rI(C:Int→Int→Prop)(g:Int→Int→V):R2:=fun x y H Q=>∃i j,x = .int i∧y = .int j∧C i j∧Q (g i j) H
def rI0(g:Int→Int→V):R2:=fun x y H Q=>∃i j,x = .int i∧y = .int j∧Q (g i j) H
section
variable{X:Cx}{a b c:Expr}{ta tb tc:TE}{pos:Pos}
theorem binT(ha:PE X a ta)(hb:PE X b tb){pins:List (Addr×Obj)}{s:Shared}{σ : St}{H:Hp}{R:V→V→Hp→Prop}(I:Inv X pins σ H s)
  (h:ta σ H fun x H1=>tb σ H1 fun y H2=>R x y H2) {Q:Value→Shared→Prop} {f:Value→Value→Sem Value}
  (hf:∀v u s2 x y H2,Inv X pins σ H2 s2→RelV x v→RelV y u→R x y H2→wpAny (model X.prog X.w) X.A (f v u) Q X.xe s2) :
  wpAny (model X.prog X.w) X.A (eval a X.env) (fun v s₁=>wpAny (model X.prog X.w) X.A (eval b X.env) (fun u s₂=>wpAny (model X.prog X.w) X.A (f v u) Q X.xe s₂) X.xe s₁) X.xe s:=by
 refine thn (ha pins s σ H _ I h) fun v s1 ⟨x,H1,I1,r1,q1⟩=>?_
 refine thn (hb pins s1 σ H1 _ I1 q1) fun u s2 ⟨y,H2,I2,r2,q2⟩=>?_
 exact hf v u s2 x y H2 I2 r1 r2 q2
theorem pe_op{op:Operator}{r:R2}(ho:OpR X (binaryOp op) r)(ha:PE X a ta)(hb:PE X b tb):PE X (.BinOp a op b pos) (tOp r ta tb):=by
 intro pins s σ H Q I h
 exact wpAny_BinOp (binT ha hb I h fun v u s2 x y H2 I2 rx ry q=>ho pins s2 σ H2 x y v u Q I2 rx ry q)
theorem opI{f:Value→Value→Sem Value}{C:Int→Int→Prop}{g:Int→Int→Int}
  (rule:∀(i j:Int) (t u:Tok) (s:Shared) (Q:Value→Shared→Prop) (E:Value→Shared→Prop),C i j→Q (.int (g i j) s.toks) { s with toks:=s.toks+1 }→wpAny (model X.prog X.w) X.A (f (.int i t) (.int j u)) Q E s) :
  OpR X f (rI C fun i j=>.int (g i j)):=by
 intro pins s σ H x y v u Q I rx ry h
 obtain ⟨i,j,rfl,rfl,hc,q⟩:=h
 obtain ⟨t,rfl⟩:=rx
 obtain ⟨t',rfl⟩:=ry
 exact rule i j t t' s _ _ hc ⟨.int (g i j),H,I.tok _,⟨_,rfl⟩,q⟩
theorem opI0{f:Value→Value→Sem Value}{g:Int→Int→Int}
  (rule:∀(i j:Int) (t u:Tok) (s:Shared) (Q:Value→Shared→Prop) (E:Value→Shared→Prop),Q (.int (g i j) s.toks) { s with toks:=s.toks+1 }→wpAny (model X.prog X.w) X.A (f (.int i t) (.int j u)) Q E s) :
  OpR X f (rI0 fun i j=>.int (g i j)):=by
 intro pins s σ H x y v u Q I rx ry h
 obtain ⟨i,j,rfl,rfl,q⟩:=h
 obtain ⟨t,rfl⟩:=rx
 obtain ⟨t',rfl⟩:=ry
 exact rule i j t t' s _ _ ⟨.int (g i j),H,I.tok _,⟨_,rfl⟩,q⟩
theorem opB0{f:Value→Value→Sem Value}{g:Int→Int→Bool}
  (rule:∀(i j:Int) (t u:Tok) (s:Shared) (Q:Value→Shared→Prop) (E:Value→Shared→Prop),Q (.bool (g i j)) s→wpAny (model X.prog X.w) X.A (f (.int i t) (.int j u)) Q E s) :
  OpR X f (rI0 fun i j=>.bl (g i j)):=by
 intro pins s σ H x y v u Q I rx ry h
 obtain ⟨i,j,rfl,rfl,q⟩:=h
 obtain ⟨t,rfl⟩:=rx
 obtain ⟨t',rfl⟩:=ry
 exact rule i j t t' s _ _ ⟨.bl (g i j),H,I,rfl,q⟩
def CDiv(i j:Int):Prop:=0 < j∧j < 1073741824
def CPow(i j:Int):Prop:=0≤j∧j≤1000000∧i.natAbs < 2 ^ 64
def CMul(i j:Int):Prop:=(-(2 ^ 64) < i∧i < 2 ^ 64)∨(-(2 ^ 64) < j∧j < 2 ^ 64)
theorem CMul.ok{i j:Int}(h:CMul i j):IntMulOk i j:=by
 rcases h with ⟨h1,h2⟩ | ⟨h1,h2⟩
 ·exact .of_left (intBits_le_64 h1 h2)
 ·exact .of_right (intBits_le_64 h1 h2)
theorem op_add:OpR X (binaryOp .Add) (rI0 fun i j=>.int (i+j)):=opI0 fun _ _ _ _ _ _ _ q=>add_int q
theorem op_sub:OpR X (binaryOp .Sub) (rI0 fun i j=>.int (i - j)):=opI0 fun _ _ _ _ _ _ _ q=>sub_int q
theorem op_mul:OpR X (binaryOp .Mult) (rI CMul fun i j=>.int (i*j)):=opI fun _ _ _ _ _ _ _ hc q=>mul_int q hc.ok
theorem op_fdiv:OpR X (binaryOp .FloorDiv) (rI CDiv fun i j=>.int (i / j)):=opI fun i j _ _ _ _ _ hc q=>by
 have h1:(0:Int) < j:=hc.1
 have h2:j < 1073741824:=hc.2
 exact floordiv_int (by omega) (by rw [Int.fdiv_eq_ediv_of_nonneg i (by omega)];exact q) (.inl (PyProof.noPylong_small (by omega)))
theorem op_mod:OpR X (binaryOp .Mod) (rI (fun _ j=>0 < j) fun i j=>.int (i % j)):=opI fun i j _ _ _ _ _ hc q=>by
 have h1:(0:Int) < j:=hc
 exact mod_int' (by omega) (by rw [Int.fmod_eq_emod_of_nonneg i (by omega)];exact q)
theorem op_modN:OpR X (binaryOp .Mod) (rI (fun _ j=>j≠0) fun i j=>.int (i.fmod j)):=opI fun _ _ _ _ _ _ _ hc q=>mod_int' hc q
theorem op_pow:OpR X (binaryOp .Pow) (rI CPow fun i j=>.int (i ^ j.toNat)):=opI fun _ _ _ _ _ _ _ hc q=>pow_int_small hc.1 hc.2.1 hc.2.2 q
end
def scal:V→V→Bool
 | .non,.non=>true | .non,.int _=>true | .int _,.non=>true | .non,.bl _=>true | .bl _,.non=>true | .non,.str _=>true | .str _,.non=>true
 | .int _,.int _=>true | .bl _,.bl _=>true | .str _,.str _=>true | .byt _,.byt _=>true
 | .int _,.str _=>true | .str _,.int _=>true | .bl _,.str _=>true | .str _,.bl _=>true
 | _,_=>false
def rEq:R2:=fun x y H Q=>scal x y=true∧Q (.bl (decide (x=y))) H
def rNe:R2:=fun x y H Q=>scal x y=true∧Q (.bl (!decide (x=y))) H
theorem dec_int{i j:Int}:decide (V.int i=V.int j)=(i == j):=by
 rw [Bool.eq_iff_iff]
 simp
theorem dec_bl{i j:Bool}:decide (V.bl i=V.bl j)=(i == j):=by
 rw [Bool.eq_iff_iff]
 simp
theorem dec_str{i j:Str}:decide (V.str i=V.str j)=(i == j):=by
 rw [Bool.eq_iff_iff]
 simp
theorem dec_byt{i j:Array UInt8}:decide (V.byt i=V.byt j)=(i.toList == j.toList):=by
 rw [Bool.eq_iff_iff]
 cases i
 cases j
 simp
section
variable{X:Cx}{a b c:Expr}{ta tb tc:TE}{pos:Pos}
theorem fin_bl{pins:List (Addr×Obj)}{σ : St}{H:Hp}{s:Shared}{Q:VK}{k k':Bool}(I:Inv X pins σ H s)(q:Q (.bl k) H)(e:k=k'):EP X pins σ Q (.bool k') s:=by
 subst e
 exact ⟨.bl k,H,I,rfl,q⟩
theorem op_eq:OpR X (compareOp .Eq) rEq:=by
 intro pins s σ H x y v u Q I rx ry h
 obtain ⟨hs,q⟩:=h
 cases x with
 | non =>
  cases rx
  cases y with
  | non=>cases ry;exact PySem.EqNone.eq_none_none (fin_bl I q (by simp))
  | bl j=>cases ry;exact PySem.EqNone.eq_none_bool (fin_bl I q (by simp))
  | int j=>obtain ⟨t',rfl⟩:=ry;exact PySem.EqNone.eq_none_int (fin_bl I q (by simp))
  | str j=>obtain ⟨t',rfl⟩:=ry;exact PySem.EqNone.eq_none_str (fin_bl I q (by simp))
  | _=>exact absurd (show false=true from hs) Bool.false_ne_true
 | bl i =>
  cases rx
  cases y with
  | non=>cases ry;exact PySem.EqNone.eq_bool_none (fin_bl I q (by simp))
  | bl j=>cases ry;exact eq_bool (fin_bl I q dec_bl)
  | str j=>obtain ⟨t',rfl⟩:=ry;exact PySem.EqMixed.eq_bool_str (fin_bl I q (by simp))
  | _=>exact absurd (show false=true from hs) Bool.false_ne_true
 | int i =>
  obtain ⟨t,rfl⟩:=rx
  cases y with
  | non=>cases ry;exact PySem.EqNone.eq_int_none (fin_bl I q (by simp))
  | int j=>obtain ⟨t',rfl⟩:=ry;exact eq_int (fin_bl I q dec_int)
  | str j=>obtain ⟨t',rfl⟩:=ry;exact PySem.EqMixed.eq_int_str (fin_bl I q (by simp))
  | _=>exact absurd (show false=true from hs) Bool.false_ne_true
 | str i =>
  obtain ⟨t,rfl⟩:=rx
  cases y with
  | non=>cases ry;exact PySem.EqNone.eq_str_none (fin_bl I q (by simp))
  | bl j=>cases ry;exact PySem.EqMixed.eq_str_bool (fin_bl I q (by simp))
  | int j=>obtain ⟨t',rfl⟩:=ry;exact PySem.EqMixed.eq_str_int (fin_bl I q (by simp))
  | str j=>obtain ⟨t',rfl⟩:=ry;exact eq_str (fin_bl I q dec_str)
  | _=>exact absurd (show false=true from hs) Bool.false_ne_true
 | byt i =>
  obtain ⟨t,rfl⟩:=rx
  cases y with
  | byt j=>obtain ⟨t',rfl⟩:=ry;exact PySem.W.eq_bytes (fin_bl I q dec_byt)
  | _=>exact absurd (show false=true from hs) Bool.false_ne_true
 | _=>cases y <;> exact absurd (show false=true from hs) Bool.false_ne_true
theorem op_ne:OpR X (compareOp .NotEq) rNe:=by
 intro pins s σ H x y v u Q I rx ry h
 obtain ⟨hs,q⟩:=h
 cases x with
 | non =>
  cases rx
  cases y with
  | non=>cases ry;exact PySem.EqNone.ne_none_none (fin_bl I q (by simp))
  | bl j=>cases ry;exact PySem.EqNone.ne_none_bool (fin_bl I q (by simp))
  | int j=>obtain ⟨t',rfl⟩:=ry;exact PySem.EqNone.ne_none_int (fin_bl I q (by simp))
  | str j=>obtain ⟨t',rfl⟩:=ry;exact PySem.EqNone.ne_none_str (fin_bl I q (by simp))
  | _=>exact absurd (show false=true from hs) Bool.false_ne_true
 | bl i =>
  cases rx
  cases y with
  | non=>cases ry;exact PySem.EqNone.ne_bool_none (fin_bl I q (by simp))
  | bl j=>cases ry;exact ne_bool (fin_bl I q (congrArg not dec_bl))
  | str j=>obtain ⟨t',rfl⟩:=ry;exact PySem.EqMixed.ne_bool_str (fin_bl I q (by simp))
  | _=>exact absurd (show false=true from hs) Bool.false_ne_true
 | int i =>
  obtain ⟨t,rfl⟩:=rx
  cases y with
  | non=>cases ry;exact PySem.EqNone.ne_int_none (fin_bl I q (by simp))
  | int j=>obtain ⟨t',rfl⟩:=ry;exact ne_int (fin_bl I q (congrArg not dec_int))
  | str j=>obtain ⟨t',rfl⟩:=ry;exact PySem.EqMixed.ne_int_str (fin_bl I q (by simp))
  | _=>exact absurd (show false=true from hs) Bool.false_ne_true
 | str i =>
  obtain ⟨t,rfl⟩:=rx
  cases y with
  | non=>cases ry;exact PySem.EqNone.ne_str_none (fin_bl I q (by simp))
  | bl j=>cases ry;exact PySem.EqMixed.ne_str_bool (fin_bl I q (by simp))
  | int j=>obtain ⟨t',rfl⟩:=ry;exact PySem.EqMixed.ne_str_int (fin_bl I q (by simp))
  | str j=>obtain ⟨t',rfl⟩:=ry;exact ne_str (fin_bl I q (congrArg not dec_str))
  | _=>exact absurd (show false=true from hs) Bool.false_ne_true
 | byt i =>
  obtain ⟨t,rfl⟩:=rx
  cases y with
  | byt j=>obtain ⟨t',rfl⟩:=ry;exact PySem.W.ne_bytes (fin_bl I q (congrArg not dec_byt))
  | _=>exact absurd (show false=true from hs) Bool.false_ne_true
 | _=>cases y <;> exact absurd (show false=true from hs) Bool.false_ne_true
theorem op_lt:OpR X (compareOp .Lt) (rI0 fun i j=>.bl (decide (i < j))):=opB0 fun _ _ _ _ _ _ _ q=>lt_int q
theorem op_le:OpR X (compareOp .LtE) (rI0 fun i j=>.bl (decide (i≤j))):=opB0 fun _ _ _ _ _ _ _ q=>le_int q
theorem op_gt:OpR X (compareOp .Gt) (rI0 fun i j=>.bl (decide (j < i))):=opB0 fun _ _ _ _ _ _ _ q=>gt_int q
theorem op_ge:OpR X (compareOp .GtE) (rI0 fun i j=>.bl (decide (j≤i))):=opB0 fun _ _ _ _ _ _ _ q=>ge_int q
theorem op_isN:OpR X (compareOp .Is) (fun x y H Q=>y = .non∧Q (.bl (decide (x = .non))) H):=by
 intro pins s σ H x y v u Q I rx ry h
 obtain ⟨rfl,q⟩:=h
 cases ry
 refine is_none_gen (fin_bl I q ?_)
 cases x <;> first
  | (cases rx;rfl)
  | (obtain ⟨t,rfl⟩:=rx;rfl)
theorem op_notN:OpR X (compareOp .IsNot) (fun x y H Q=>y = .non∧Q (.bl (!decide (x = .non))) H):=by
 intro pins s σ H x y v u Q I rx ry h
 obtain ⟨rfl,q⟩:=h
 cases ry
 refine isnot_none_gen (fin_bl I q ?_)
 cases x <;> first
  | (cases rx;rfl)
  | (obtain ⟨t,rfl⟩:=rx;rfl)
theorem nomark(b:Expr){op:CmpOp}(h:op≠.In:=by decide)(h2:op≠.NotIn:=by decide):behindInMarks op b=false:=by
 have e1:(op == CmpOp.In)=false:=by cases op <;> first | rfl | exact absurd rfl h
 have e2:(op == CmpOp.NotIn)=false:=by cases op <;> first | rfl | exact absurd rfl h2
 cases b <;> simp [behindInMarks,e1,e2]
theorem pe_cmpR{op:CmpOp}{r:R2}(ho:OpR X (compareOp op) r)(ha:PE X a ta)(hb:PE X b tb)(hm:behindInMarks op b=false):PE X (.Compare a [op] [b] pos) (tOp r ta tb):=by
 intro pins s σ H Q I h
 exact wpAny_Compare1 (binT ha hb I h fun v u s2 x y H2 I2 rx ry q=>ho pins s2 σ H2 x y v u Q I2 rx ry q) hm
def tTest(t:TE):TT:=fun σ H Q=>t σ H fun x H'=>∃k,x = .bl k∧Q k H'
theorem pt_cmpR{op:CmpOp}{r:R2}(ho:OpR X (compareOp op) r)(ha:PE X a ta)(hb:PE X b tb)(hm:behindInMarks op b=false):PT X (.Compare a [op] [b] pos) (tTest (tOp r ta tb)):=by
 intro pins s σ H Q I h
 refine wpAny_isTrue_Compare1 (thn (ha pins s σ H _ I h) fun v s1 ⟨x,H1,I1,r1,q1⟩=>thn (hb pins s1 σ H1 _ I1 q1) fun u s2 ⟨y,H2,I2,r2,q2⟩ =>
  thn (ho pins s2 σ H2 x y v u _ I2 r1 r2 q2) fun c s3 ⟨z,H3,I3,r3,k,e,q3⟩=>?_) hm
 subst e
 cases r3
 exact wpAny_truthy_bool ⟨H3,I3,q3⟩
theorem line63:(sizeLine:Nat) < 2 ^ 63:=by rw [sizeLine_eq];decide
theorem op_add_str:OpR X (binaryOp .Add) (fun x y H Q=>∃i j,x = .str i∧y = .str j∧i.length+j.length≤sizeLine∧Q (.str (i++j)) H):=by
 intro pins s σ H x y v u Q I rx ry h
 obtain ⟨i,j,rfl,rfl,hz,q⟩:=h
 obtain ⟨t,rfl⟩:=rx
 obtain ⟨t',rfl⟩:=ry
 exact add_str (fun t' tk=>⟨.str (i++j),H,I.tok _,⟨_,rfl⟩,q⟩) hz
theorem vals1{x:V}{us:List Value}(r:Vals [x] us):∃u,us=[u]∧RelV x u:=by
 cases r with
 | cons r1 r2=>cases r2;exact ⟨_,rfl,r1⟩
theorem vals2{x y:V}{us:List Value}(r:Vals [x,y] us):∃u w',us=[u,w']∧RelV x u∧RelV y w':=by
 cases r with
 | cons r1 r2 =>
  cases r2 with
  | cons r3 r4=>cases r4;exact ⟨_,_,rfl,r1,r3⟩
theorem call_abs:CallR X (.builtin "abs") (fun xs H Q=>∃i,xs=[.int i]∧Q (.int (if i < 0 then -i else i)) H):=by
 intro pins s σ H xs us Q I r h
 obtain ⟨i,rfl,q⟩:=h
 obtain ⟨u,rfl,t,rfl⟩:=vals1 r
 exact call_abs_int fun u tk=>⟨.int (if i < 0 then -i else i),H,I.tok _,⟨_,rfl⟩,q⟩
theorem call_int1:CallR X (.type "int") (fun xs H Q=>(∃i,xs=[.int i]∧Q (.int i) H)∨∃k,xs=[.bl k]∧Q (.int (if k then 1 else 0)) H):=by
 intro pins s σ H xs us Q I r h
 rcases h with ⟨i,rfl,q⟩ | ⟨k,rfl,q⟩
 ·obtain ⟨u,rfl,t,rfl⟩:=vals1 r
  exact call_int_int ⟨.int i,H,I,⟨_,rfl⟩,q⟩
 ·obtain ⟨u,rfl,r1⟩:=vals1 r
  cases r1
  exact call_int_bool ⟨.int (if k then 1 else 0),H,I.tok _,⟨_,rfl⟩,q⟩
end
end L2
namespace L2
open PySem PySem.Spec PyProof.Rows
structure ObjM (h:Heap) (x dx C:Addr) (mA:Str→Option Value):Prop where
 obj:h.get? x=some (PySem.W.instObj C dx)
 ns:h.Ns1 dx mA
 ne:dx≠x
theorem lookIn_ns{h:Heap}{dx:Addr}{mA:Str→Option Value}(n:h.Ns1 dx mA):∃od,h.get? dx=some od∧∀name,PySem.W.lookIn name od=some (mA name):=by
 obtain ⟨o,es,ep,ho,hd,hk,_,hm⟩:=n
 refine ⟨o,ho,fun name=>?_⟩
 have e:=hm name
 unfold nsFind findBy at e
 rw [← Array.find?_toList] at e
 unfold PySem.W.lookIn
 rw [hd]
 dsimp only
 split
 ·rename_i y q
  rw [q] at e
  exact congrArg some e
 ·rename_i q
  rw [q] at e
  have a:es.toList.any (·.refKey)=false:=by
   rw [List.any_eq_false]
   intro y hy
   obtain ⟨z,t,hkey⟩:=hk y (Array.mem_toList_iff.mp hy)
   simp [DictEntry.refKey,hkey]
  have a' : ¬ es.toList.any (·.refKey)=true:=by rw [a];exact Bool.false_ne_true
  rw [if_neg a']
  exact congrArg some e
theorem ObjM.look{h:Heap}{x dx C:Addr}{mA:Str→Option Value}(I:ObjM h x dx C mA):∃od,PySem.W.InstAt h x (PySem.W.instObj C dx) C (some od)∧∀name,PySem.W.lookIn name od=some (mA name) :=
 let ⟨od,ho,hl⟩:=lookIn_ns I.ns
 ⟨od,⟨I.obj,rfl,rfl,ho⟩,hl⟩
section
variable{prog:Program}{w:World}{A:Around}{E:Value→Shared→Prop}{s:Shared}{K:PySem.W.Frag}{x dx C f:Addr}{mA:Str→Option Value}{name:Str}{v:Value}
end
theorem RelO.some_of{v:V}{o:Option Value}(r:RelO (some v) o):∃u,o=some u∧RelV v u:=by
 cases o with
 | none=>exact (show False from r).elim
 | some u=>exact ⟨u,rfl,r⟩
theorem handed_of{v:V}{u:Value}(r:RelV v u):PySem.W.handedIn u=true:=by
 cases v with
 | non=>cases (show u=Value.none from r);rfl
 | bl b=>cases (show u=Value.bool b from r);rfl
 | int i=>obtain ⟨t,e⟩:=(show ∃t,u=Value.int i t from r);cases e;rfl
 | str x=>obtain ⟨t,e⟩:=(show ∃t,u=Value.str x t from r);cases e;rfl
 | byt b=>obtain ⟨t,e⟩:=(show ∃t,u=Value.bytes b t from r);cases e;rfl
 | flt b=>obtain ⟨t,e⟩:=(show ∃t,u=Value.float b t from r);cases e;rfl
 | ref a=>cases (show u=Value.ref a from r);rfl
 | ty n=>cases (show u=Value.type n from r);rfl
section
variable{P:Program}{w:World}{H H':Hp}{h h':Heap}{a C dx:Addr}{fs fs':List (Str×V)}
theorem ins_get(hok:HOk P w H h)(e:H a=some (.ins C dx fs)):∃mA,ObjM h a dx C mA∧(∀f,RelO (fs.lookup f) (mA f))∧PySem.Within mA (fs.map (·.1))∧fs.length≤1000∧H dx=some (.own a):=by
 obtain ⟨d,z,ne,ob,mA,n,r,q⟩:=(show ObjOk P w H h a (.ins C dx fs) from hok a _ e)
 exact ⟨mA,⟨ob,n,ne⟩,r,q,z,d⟩
end
structure Cls (K:PySem.W.Frag) (C:Addr):Prop where
 pg:PySem.W.plainGet K C Str.empty=true
 hd:PySem.W.hasDictIn K C=true
 po:PySem.W.plainOver K C=true
 sa:PySem.W.findIn K (.ref C) "__setattr__" = some (some (.builtin "object.__setattr__"))
theorem Cls.get{K:PySem.W.Frag}{C:Addr}(c:Cls K C)(f:Str):PySem.W.plainGet K C f=true:=c.pg
section
variable{X:Cx}{pins:List (Addr×Obj)}{σ : St}{H:Hp}{s:Shared}{a C dx:Addr}{fs:List (Str×V)}{f:Str}{v:V}{A:Around}{E:Value→Shared→Prop}
theorem attr_of{prog:Program}{w:World}{env:Env}{e:Expr}{f:Str}{pos:Pos}{s:Shared}{Q:Value→Shared→Prop}(hb:attributeBase e f env (eval e env)=eval e env)
  (h:wpAny (model prog w) A (eval e env) (fun o s₁=>wpAny (model prog w) A (getAttr o f true) Q E s₁) E s):wpAny (model prog w) A (eval (.Attribute e f pos) env) Q E s :=
 Attribute_any_ h (by rw [arm_eval_Attribute,hb])
end
section
variable{X:Cx}{o e value:Expr}{f:Str}{pos pos' tpos:Pos}{ta tv:TE}
end
section
variable{X:Cx}{pins:List (Addr×Obj)}{σ : St}{H:Hp}{s:Shared}{A:Around}{E:Value→Shared→Prop}{Q:Value→Shared→Prop}{c:Value}{b:Bool}
inductive TyOf (K:PySem.W.Frag) (H:Hp):V→Value→Prop where
 | non:TyOf K H .non (.type "NoneType")
 | bl (x:Bool):TyOf K H (.bl x) (.type "bool")
 | int (i:Int):TyOf K H (.int i) (.type "int")
 | str (x:Str):TyOf K H (.str x) (.type "str")
 | flt (x:UInt64):TyOf K H (.flt x) (.type "float")
 | lst {a:Addr} {xs:List V} (e:H a=some (.lst xs)):TyOf K H (.ref a) (.type "list")
 | frz {a:Addr} {o:Obj} {xs:List V} (e:H a=some (.frz o (.lst xs))):TyOf K H (.ref a) (.type "list")
 | tup {a:Addr} {xs:List V} (e:H a=some (.tup xs)):TyOf K H (.ref a) (.type "tuple")
 | dK {a:Addr} {kvs:List (Key×V)} (e:H a=some (.dK kvs)):TyOf K H (.ref a) (.type "dict")
 | dT {a:Addr} {kvs:List (List Key×V)} (e:H a=some (.dT kvs)):TyOf K H (.ref a) (.type "dict")
 | ins {a C dx:Addr} {fs:List (Str×V)} (e:H a=some (.ins C dx fs)) (cl:Cls K C) (ha:PySem.W.findIn K (.ref C) "__class__" = some (some (.builtin "object.__class__")))
   (hn:PySem.W.specialIn K (.builtin "object.__class__") "__get__" = some (some (.builtin "getset_descriptor.__get__"))) (htk:PySem.W.takesIn K (.builtin "object.__class__")=some true)
   (hm:PySem.W.mroIn K C (.type "object")=some true):TyOf K H (.ref a) (.ref C)
theorem isinst_ok{x:V}{u t:Value}(I:Inv X pins σ H s)(rx:RelV x u)(ty:TyOf X.K H x t)(e:PySem.W.kitOne X.K t c=some b)(h:∀tk,Q (.bool b) { s with toks:=tk }) :
  wpAny (model X.prog X.w) A (call (.builtin "isinstance") [u,c]) Q E s:=by
 cases ty with
 | non=>cases (show u=Value.none from rx);exact PySem.W.kia_one PySem.W.kitx_none I.kIn True.intro e (fun z=>nomatch z) h
 | bl y=>cases (show u=Value.bool y from rx);exact PySem.W.kia_one PySem.W.kitx_bool I.kIn True.intro e (fun z=>nomatch z) h
 | int i=>obtain ⟨t,q⟩:=(show ∃t,u=Value.int i t from rx);cases q;exact PySem.W.kia_one PySem.W.kitx_int I.kIn True.intro e (fun z=>nomatch z) h
 | str y=>obtain ⟨t,q⟩:=(show ∃t,u=Value.str y t from rx);cases q;exact PySem.W.kia_one PySem.W.kitx_str I.kIn True.intro e (fun z=>nomatch z) h
 | flt y=>obtain ⟨t,q⟩:=(show ∃t,u=Value.float y t from rx);cases q;exact PySem.W.kia_one PySem.W.kitx_float I.kIn True.intro e (fun z=>nomatch z) h
 | @lst a xs ea =>
  cases (show u=Value.ref a from rx)
  obtain ⟨_,_,n,_,h1⟩:=(show ObjOk X.prog X.w H s.heap a (.lst xs) from I.hok a _ ea)
  exact PySem.W.kia_one PySem.W.kitx_list I.kIn ⟨_,h1,rfl⟩ e (fun z=>nomatch z) h
 | @frz a ob xs ea =>
  cases (show u=Value.ref a from rx)
  obtain ⟨_,_,_,n,_,h1⟩:=(show ObjOk X.prog X.w H s.heap a (.frz ob (.lst xs)) from I.hok a _ ea)
  exact PySem.W.kia_one PySem.W.kitx_list I.kIn ⟨_,h1,rfl⟩ e (fun z=>nomatch z) h
 | @tup a xs ea =>
  cases (show u=Value.ref a from rx)
  obtain ⟨_,_,_,p⟩:=(show ObjOk X.prog X.w H s.heap a (.tup xs) from I.hok a _ ea)
  obtain ⟨o,h1,h2,_⟩:=p
  exact PySem.W.kia_one PySem.W.kitx_tuple I.kIn ⟨o,h1,h2⟩ e (fun z=>nomatch z) h
 | @dK a kvs ea =>
  cases (show u=Value.ref a from rx)
  obtain ⟨_,_,vs,_,p⟩:=(show ObjOk X.prog X.w H s.heap a (.dK kvs) from I.hok a _ ea)
  obtain ⟨o,es,ep,h1,h2,_⟩:=p
  exact PySem.W.kia_one PySem.W.kitx_dict I.kIn ⟨o,h1,h2.1⟩ e (fun z=>nomatch z) h
 | @dT a kvs ea =>
  cases (show u=Value.ref a from rx)
  obtain ⟨_,_,xs,_,o,es,ep,h1,h2,_⟩:=(show ObjOk X.prog X.w H s.heap a (.dT kvs) from I.hok a _ ea)
  exact PySem.W.kia_one PySem.W.kitx_dict I.kIn ⟨o,h1,h2.1⟩ e (fun z=>nomatch z) h
 | @ins a C dx fs ea cl ha hn htk hm =>
  cases (show u=Value.ref a from rx)
  obtain ⟨mA,O,_⟩:=ins_get I.hok ea
  obtain ⟨od,J,_⟩:=O.look
  exact PySem.W.kia_one (PySem.W.kitx_own (cl.get _) cl.hd ha hn htk hm) I.kIn J e (fun z=>nomatch z) h
end
end L2
namespace L2
open PySem PySem.Spec PyProof.Rows
structure Room (k:Nat) (A:Around):Prop where
 hd:A.handled=none
 dp:A.depth+3*k+5 < recursionLimit
 un:A.units+16*k+200 < cLine
theorem Room.mono{j k:Nat}{A:Around}(r:Room k A)(h:j≤k):Room j A:=⟨r.hd,by have:=r.dp;omega,by have:=r.un;omega⟩
theorem Room.deeper{k:Nat}{A:Around}(r:Room (k+1) A)(env:Env):Room k (A.deeper env) :=
 ⟨r.hd,by have:=r.dp;show A.depth+1+3*k+5 < _;omega,by have:=r.un;show A.units+3+16*k+200 < _;omega⟩
theorem make_depth {A:Around} {C:Addr} {us:List Value} {kw:List (Str×Value)}:(A.under (.builtin "type.__call__" ⟨.ref C :: us,kw⟩)).depth=A.depth+1:=by
 first | rfl | simp [Around.under,Code.weight,Code.isCreation,Code.isGuard,Code.isCaller,Code.frames,Code.isFrame,guardIds]
theorem make_units {A:Around} {C:Addr} {us:List Value} {kw:List (Str×Value)}:(A.under (.builtin "type.__call__" ⟨.ref C :: us,kw⟩)).units=A.units+1:=by
 first | rfl | simp [Around.under,Code.cUnits,Code.frames,Code.isFrame]
theorem Room.make {k:Nat} {A:Around} (r:Room (k+1) A) (C:Addr) (us:List Value) (kw:List (Str×Value)):Room k (A.under (.builtin "type.__call__" ⟨.ref C :: us,kw⟩)) :=
 ⟨r.hd,by have:=r.dp;rw [make_depth];omega,by have:=r.un;rw [make_units];omega⟩
theorem Room.depth{k:Nat}{A:Around}(r:Room k A):A.depth < recursionLimit:=by have:=r.dp;omega
theorem Room.units{k:Nat}{A:Around}(r:Room k A):A.units+64 < cLine:=by have:=r.un;omega
def tNil:TA:=fun _ H Q=>Q [] H
def tCons(ta:TE)(tr:TA):TA:=fun σ H Q=>ta σ H fun x H1=>tr σ H1 fun xs H2=>Q (x :: xs) H2
section
variable{X:Cx}{e:Expr}{es:List Expr}{te:TE}{t:TA}{pos:Pos}
theorem pa_nil:PA X [] tNil:=fun _ _ _ _ H Q I h=>Calls.spliced_nil ⟨[],H,I,.nil,h⟩
theorem pa_cons(ha:PE X e te)(hr:PA X es t)(hs:starEach (e :: es) X.env=(false,eval e X.env) :: starEach es X.env:=by rfl):PA X (e :: es) (tCons te t):=by
 intro pos pins s σ H Q I h
 rw [hs]
 show wpAny _ _ (spliced ((false,eval e X.env) :: backTo pos (starEach es X.env))) _ _ s
 refine Calls.spliced_cons (thn (ha pins s σ H _ I h) fun u s1 ⟨x,H1,I1,r1,q1⟩=>?_)
 exact thn (hr pos pins s1 σ H1 _ I1 q1) fun us s2 ⟨xs,H2,I2,r2,q2⟩=>⟨x :: xs,H2,I2,.cons r1 r2,q2⟩
def tTup(t:TA):TE:=fun σ H Q=>t σ H fun xs H1=>xs.length≤sizeLine∧∀p,H1 p=none→Q (.ref p) (upd H1 p (.tup xs))
def tLst(t:TA):TE:=fun σ H Q=>t σ H fun xs H1=>xs.length≤sizeLine∧∀p,H1 p=none→Q (.ref p) (upd H1 p (.lst xs))
theorem pe_tup{x1}(h:PA X es t):PE X (.Tuple es x1 pos) (tTup t):=by
 intro pins s σ H Q I hq
 refine wpAny_Tuple_spliced (thn (h pos pins s σ H _ I hq) fun us s1 ⟨xs,H1,I1,r,z,q⟩=>⟨by rw [← r.length];exact z,?_⟩)
 have hf:H1 s1.heap.objs.size=none:=I1.hok.fresh (Nat.le_refl _)
 refine ⟨.ref s1.heap.objs.size,upd H1 s1.heap.objs.size (.tup xs),I1.laid (t':=s1.toks) (fun b u e=>Heap.get?_push_of_some _ e) (Nat.le_refl _) ?_,rfl,q _ hf⟩
 exact ⟨z,us,r,⟨_,Heap.get?_push_size _ rfl,rfl,_,rfl⟩⟩
theorem pe_lst(h:PA X es t):PE X (.List es pos) (tLst t):=by
 intro pins s σ H Q I hq
 refine wpAny_List_spliced (thn (h pos pins s σ H _ I hq) fun us s1 ⟨xs,H1,I1,r,z,q⟩=>⟨by rw [← r.length];exact z,?_⟩)
 have hf:H1 s1.heap.objs.size=none:=I1.hok.fresh (Nat.le_refl _)
 refine ⟨.ref s1.heap.objs.size,upd H1 s1.heap.objs.size (.lst xs),I1.laid (t':=s1.toks) (fun b u e=>Heap.get?_push_of_some _ e) (Nat.le_refl _) ?_,rfl,q _ hf⟩
 exact ⟨z,us,0,r,Heap.get?_push_size _ rfl⟩
end
abbrev Sp:=List V→Hp→VK→XK→Prop
abbrev CXT:=List Env→Hp→Shared→XK→Value→Shared→Prop
structure Env0 (P:Program) (w:World) (K:PySem.W.Frag) (mg:Str→Option Value) (base:Heap) (A:Around) (outer:List Env) (s:Shared) (H:Hp):Prop where
 frames:A.frames=some outer
 mod:Mod K mg base
 bs:∀b o,base.get? b=some o→s.heap.get? b=some o∧H b=none
 bsz:base.objs.size≤s.heap.objs.size
 funs:s.heap.FunFrames base outer
 frf:∀b∈frs outer,H b=none
 hok:HOk P w H s.heap
 bare:AllBare s.gens
def CE(outer:List Env)(P:Program)(w:World)(H:Hp)(s:Shared)(Q:VK)(u:Value)(s':Shared):Prop :=
 ∃v H',s'.os=s.os∧AllBare s'.gens∧Un (frs outer) [] H H' s.heap s'.heap∧HOk P w H' s'.heap∧RelV v u∧Q v H'
def CR(CX:CXT)(outer:List Env)(P:Program)(w:World)(H:Hp)(s:Shared)(Q:VK)(E:XK)(r:Result)(s':Shared):Prop :=
 match r with
 | .ok (.ret u)=>CE outer P w H s Q u s'
 | .ok _=>False
 | .error e=>CX outer H s E e s'
structure FnOk (P:Program) (w:World) (K:PySem.W.Frag) (mg:Str→Option Value) (base:Heap) (CX:CXT) (k:Nat) (f:Addr) (fd:FuncData) (ps:List Str) (sp:Sp):Prop where
 len:∀vs H Q E,sp vs H Q E→vs.length=ps.length
 run:∀(A:Around) (outer:List Env) (s:Shared) (H:Hp) (args:Args) (us:List Value) (vs:List V) (Q:VK) (E:XK),Room k A→Env0 P w K mg base A outer s H→BindsTo s fd args (ps.zip us)→Vals vs us→sp vs H Q E →
  codeAny (model P w) A (.call (.ref f) args) (CR CX outer P w H s Q E) s
theorem FnOk.mono{P:Program}{w:World}{K:PySem.W.Frag}{mg:Str→Option Value}{base:Heap}{CX:CXT}{j k:Nat}{f:Addr}{fd:FuncData}{ps:List Str}{sp:Sp}(F:FnOk P w K mg base CX j f fd ps sp)(h:j≤k) :
  FnOk P w K mg base CX k f fd ps sp:=⟨F.len,fun A outer s H args us vs Q E hr=>F.run A outer s H args us vs Q E (hr.mono h)⟩
theorem Env0.make{P:Program}{w:World}{K:PySem.W.Frag}{mg:Str→Option Value}{base:Heap}{A:Around}{outer:List Env}{s:Shared}{H:Hp}(e:Env0 P w K mg base A outer s H)(C:Addr)(us:List Value)(kw:List (Str×Value)) :
  Env0 P w K mg base (A.under (.builtin "type.__call__" ⟨.ref C :: us,kw⟩)) outer s H:=⟨by first | exact e.frames | (simpa [Around.under,Code.envs,Code.isFrame,pushEnvs] using e.frames),e.mod,e.bs,e.bsz,e.funs,e.frf,e.hok,e.bare⟩
section
variable{X:Cx}{pins:List (Addr×Obj)}{σ : St}{H:Hp}{s s':Shared}
theorem Inv.env0(I:Inv X pins σ H s):Env0 X.prog X.w X.K X.mg X.base X.A X.stack s H :=
 ⟨I.ok.frames,I.ok.mod,I.bs,Nat.le_trans I.ok.bsz I.sz,I.stack,I.stkFree,I.hok,I.bare⟩
theorem Inv.after{Q:VK}{u:Value}(I:Inv X pins σ H s)(h:CE X.stack X.prog X.w H s Q u s'):EP X pins σ Q u s':=by
 obtain ⟨v,H',os,bare,un,hok,r,q⟩:=h
 obtain ⟨hh,g,d,t,os'⟩:=s'
 obtain rfl:os'=s.os:=os
 exact ⟨v,H',I.call (h':=hh) (g':=g) (d':=d) (t':=t) (ch:=[]) un hok bare (fun b z=>absurd z (by simp)),r,q⟩
end
def tCall(sp:Sp)(dvs:List V)(E:XK)(t:TA):TE:=fun σ H Q=>t σ H fun vs H1=>sp (vs++dvs) H1 Q E
def Binds(K:PySem.W.Frag)(fd:FuncData)(ps:List Str)(ds:List Value):Prop :=
 ∀(s:Shared) (us:List Value),K.In s.heap→(us++ds).length=ps.length→BindsTo s fd ⟨us,[]⟩ (ps.zip (us++ds))
theorem Binds.all{K:PySem.W.Frag}{fd:FuncData}{ps:List Str}(h:∀us:List Value,us.length=ps.length→bindArgs fd ⟨us,[]⟩=pure (ps.zip us)):Binds K fd ps []:=fun s us _ hl=>by
 rw [List.append_nil] at hl ⊢
 exact .of_eq (h us hl)
def Passes(CX:CXT)(X:Cx)(E:XK):Prop:=∀(pins:List (Addr×Obj)) (σ : St) (H:Hp) (s:Shared) (e:Value) (s':Shared),Inv X pins σ H s→CX X.stack H s E e s'→X.xe e s'
section
variable{X:Cx}{CX:CXT}{k:Nat}{f C:Addr}{fd:FuncData}{ps:List Str}{sp:Sp}{dvs:List V}{ds:List Value}{E:XK}{x m:Str}{p pos apos:Pos}{e o:Expr}{es:List Expr}{ta:TE}{t:TA}
theorem run_fn{pins:List (Addr×Obj)}{σ : St}{H:Hp}{s:Shared}{Q:VK}{us:List Value}{vs:List V}(F:FnOk X.prog X.w X.K X.mg X.base CX k f fd ps sp)(hr:Room k X.A)(hb:Binds X.K fd ps ds)(hd:Vals dvs ds)(hx:Passes CX X E)
  (I:Inv X pins σ H s) (r:Vals vs us) (h:sp (vs++dvs) H Q E):wpAny (model X.prog X.w) X.A (call (.ref f) us) (EP X pins σ Q) X.xe s:=by
 have r2:Vals (vs++dvs) (us++ds):=r.append hd
 have hl:(us++ds).length=ps.length:=by rw [← r2.length];exact F.len _ _ _ _ h
 refine wpAny_call (codeAny_mono (F.run X.A X.stack s H ⟨us,[]⟩ (us++ds) (vs++dvs) Q E hr I.env0 (hb s us I.kIn hl) r2 h) fun r s' hq=>?_)
 cases r with
 | error e=>exact hx pins σ H s e s' I hq
 | ok fl =>
  cases fl with
  | ret u=>exact I.after hq
  | next=>exact False.elim hq
  | brk=>exact False.elim hq
  | cont=>exact False.elim hq
theorem pe_call(F:FnOk X.prog X.w X.K X.mg X.base CX k f fd ps sp)(hr:Room k X.A)(hg:Gl X x)(hm:X.mg x=some (.ref f))(hk:PySem.W.keepIn X.K (.ref f)=true)(hb:Binds X.K fd ps ds)(hd:Vals dvs ds)(hx:Passes CX X E)
  (ha:PA X (e :: es) t) (hdb:(x == ("__debug__" : Str))=false:=by decide) (he:starEach (e :: es) X.env=(false,eval e X.env) :: starEach es X.env:=by rfl) (hpl:(backTo pos (starEach es X.env)).any (·.1)=false:=by rfl) :
  PE X (.Call (.Name x p) (e :: es) [] pos) (tCall sp dvs E t):=by
 intro pins s σ H Q I h
 refine wpAny_Call_Name_kw (ld_glob I hg hm ?_ hdb)
 refine PySem.W.callWith_K (h₀:=X.base) I.ok.mod.kin hk (thn (ha pos pins s σ H _ I h) fun us s1 ⟨vs,H1,I1,r,q⟩=>⟨I1.kIn,?_⟩) he hpl
 exact run_fn F hr hb hd hx I1 r q
end
section
variable{X:Cx}{CX:CXT}{k:Nat}{f C:Addr}{fd:FuncData}{ps ks:List Str}{sp:Sp}{E:XK}{x m:Str}{p pos apos kpos:Pos}{e o:Expr}{es:List Expr}{kws:List Keyword}{te ta:TE}{t tk:TA}{nm:Option Str}
variable{g:List Value→List Value→List Value}{gV:List V→List V→List V}
end
structure FnScope (N P:List Str) (sc:Scope):Prop where
 kind:sc.kind = .function
 co:sc.isCoroutine=false
 gen:sc.isGenerator=false
 nd:N.Nodup
 pre:N.take P.length=P
 par:∀x∈P,sc.names.lookup x=some .local∨sc.names.lookup x=some .cell
 nofree:∀y∈sc.names,y.2≠.free
theorem bindL_out{kindOf:Str→Option NameKind}{x:Str}:∀{binds:List (Str×Value)} {m:Str→Option Value},(∀v,(x,v)∉binds)→bindL kindOf binds m x=m x
 | [],_,_=>rfl
 | (n,v) :: r,m,h=>by
  unfold bindL
  rw [bindL_out fun w hw=>h w (List.mem_cons_of_mem _ hw)]
  split
  ·have:x≠n:=by rintro rfl;exact h v List.mem_cons_self
   simp [this]
  ·rfl
theorem bindC_out{kindOf:Str→Option NameKind}{x:Str}:∀{binds:List (Str×Value)} {m:Str→Option Value},(∀v,(x,v)∉binds)→bindC kindOf binds m x=m x
 | [],_,_=>rfl
 | (n,v) :: r,m,h=>by
  unfold bindC
  rw [bindC_out fun w hw=>h w (List.mem_cons_of_mem _ hw)]
  split
  ·rfl
  ·have:x≠n:=by rintro rfl;exact h v List.mem_cons_self
   simp [this]
theorem bindL_get{kindOf:Str→Option NameKind}{x:Str}{v:Value}:∀{P:List Str} {vs:List Value} {i:Nat} {m:Str→Option Value},P.Nodup→P[i]? = some x→vs[i]? = some v→kindOf x=some .local →
  bindL kindOf (P.zip vs) m x=some v
 | [],_,_,_,_,h,_,_=>by simp at h
 | _ :: _,[],_,_,_,_,h,_=>by simp at h
 | p :: P,w :: vs,0,m,nd,h1,h2,hk=>by
  simp at h1 h2;subst h1;subst h2
  show bindL kindOf ((p,w) :: P.zip vs) m p=_
  unfold bindL
  rw [bindL_out fun v hv=>(List.nodup_cons.mp nd).1 (List.of_mem_zip hv).1,if_pos hk]
  simp
 | p :: P,w :: vs,i+1,m,nd,h1,h2,hk=>by
  show bindL kindOf ((p,w) :: P.zip vs) m x=_
  unfold bindL
  exact bindL_get (i:=i) (List.nodup_cons.mp nd).2 (by simpa using h1) (by simpa using h2) hk
theorem bindC_get{kindOf:Str→Option NameKind}{x:Str}{v:Value}:∀{P:List Str} {vs:List Value} {i:Nat} {m:Str→Option Value},P.Nodup→P[i]? = some x→vs[i]? = some v→kindOf x≠some .local →
  bindC kindOf (P.zip vs) m x=some v
 | [],_,_,_,_,h,_,_=>by simp at h
 | _ :: _,[],_,_,_,_,h,_=>by simp at h
 | p :: P,w :: vs,0,m,nd,h1,h2,hk=>by
  simp at h1 h2;subst h1;subst h2
  show bindC kindOf ((p,w) :: P.zip vs) m p=_
  unfold bindC
  rw [bindC_out fun v hv=>(List.nodup_cons.mp nd).1 (List.of_mem_zip hv).1,if_neg hk]
  simp
 | p :: P,w :: vs,i+1,m,nd,h1,h2,hk=>by
  show bindC kindOf ((p,w) :: P.zip vs) m x=_
  unfold bindC
  exact bindC_get (i:=i) (List.nodup_cons.mp nd).2 (by simpa using h1) (by simpa using h2) hk
def start(N:List Str)(vs:List V):St:=vs.map some++List.replicate (N.length - vs.length) none
def cxOf(CX:CXT)(P:Program)(w:World)(K:PySem.W.Frag)(mg:Str→Option Value)(base:Heap)(N:List Str)(qual:Str)(scope:Scope)(f:Addr)(cd:Value)(A:Around)(outer:List Env)(s:Shared)(H:Hp)(E:XK):Cx where
 prog:=P
 w:=w
 K:=K
 mg:=mg
 base:=base
 A:=A.deeper (envOfC qual scope s.heap.objs.size f cd)
 N:=N
 s₀:=s
 H₀:=H
 env:=envOfC qual scope s.heap.objs.size f cd
 outer:=outer
 stack:=envOfC qual scope s.heap.objs.size f cd :: outer
 ex:=[]
 calm:=true
 fn:=fun _=>true
 pn:=[]
 xe:=fun e s'=>wpAny (model P w) (A.deeper (envOfC qual scope s.heap.objs.size f cd)) (leaving (envOfC qual scope s.heap.objs.size f cd) e) (fun _ s''=>CX outer H s E e s'') (fun e' s''=>CX outer H s E e' s'') s'
theorem cell_has{sc:Scope}{n:Nat}{x:Str}(h:sc.names.lookup x=some .cell):∃c,(cellsFrom n sc.names []).lookup x=some c:=by
 have q:=PySem.W.cellsFrom_some sc.names n [] (.inl h)
 exact Option.isSome_iff_exists.mp q
theorem inv_start{CX:CXT}{P:Program}{w:World}{K:PySem.W.Frag}{mg:Str→Option Value}{base:Heap}{N ps:List Str}{qual:Str}{scope:Scope}{f:Addr}{cd:Value}{A:Around}{outer:List Env}{s s1:Shared}{H:Hp}{E:XK}{us:List Value}{vs:List V}
  (S:FnScope N ps scope) (hd:A.handled=none) (e0:Env0 P w K mg base A outer s H) (hl:vs.length=ps.length) (r:Vals vs us)
  (x:InCallC s s.heap.objs.size (bindL (envOfC qual scope s.heap.objs.size f cd).kindOf (ps.zip us) fun _=>none) (cellsFrom (s.heap.objs.size+1) scope.names []) (bindC (envOfC qual scope s.heap.objs.size f cd).kindOf (ps.zip us) fun _=>none) s1) :
  Inv (cxOf CX P w K mg base N qual scope f cd A outer s H E) [] (start N vs) H s1:=by
 have hpl:ps.length≤N.length:=by have:=congrArg List.length S.pre;rw [List.length_take] at this;omega
 obtain ⟨h1,tk,rfl,hk⟩:=x.done
 have noA:∀b:Addr,b∉(cxOf CX P w K mg base N qual scope f cd A outer s H E).ex:=fun b z=>absurd (show b∈([]:List Addr) from z) (by simp)
 refine ⟨⟨e0.mod,S.kind,rfl,rfl,Nat.le_refl _,fun y z c h1 h2=>?_,fun y hy=>?_,fun y c _ h=>?_,fun _=>hd,Around.frames_deeper e0.frames,.inr ⟨rfl,rfl⟩,fun b z=>absurd z (noA b),e0.bs,e0.bsz,fun b _ _=>noA b,fun b z=>absurd z (noA b),e0.funs,e0.frf⟩,
  rfl,e0.bare,Un.kept hk,⟨_,x.toInCall.ns,fun i y v h1 h2 h3=>?_⟩,fun y c h=>⟨_,x.cell y c h⟩,e0.hok.fresh (Nat.le_refl _),fun y c h=>?_,fun p hp=>absurd (show p∈([]:List (Addr×Obj)) from hp) (by simp),e0.hok.kept hk,?_⟩
 ·exact name_of_addr x.apart (PySem.mem_of_lookup h1) (PySem.mem_of_lookup h2)
 ·have hy:scope.names.lookup y=some .cell∨scope.names.lookup y=some .free:=hy
  rcases hy with hy | hy
  ·exact cell_has hy
  ·exact absurd rfl (S.nofree _ (PySem.mem_of_lookup hy))
 ·exact Nat.le_of_lt (x.above y c (PySem.mem_of_lookup h))
 ·have hi:i < vs.length:=by
   unfold start at h2
   by_cases hi:i < vs.length
   ·exact hi
   ·rw [List.getElem?_append_right (by simpa using hi)] at h2
    rw [List.getElem?_replicate] at h2
    split at h2 <;> cases h2
  have ha:vs[i]? = some v:=by
   unfold start at h2
   rw [List.getElem?_append_left (by simpa using hi),List.getElem?_map] at h2
   cases e:vs[i]? with
   | none=>rw [e] at h2;cases h2
   | some a=>rw [e] at h2;cases h2;rfl
  obtain ⟨u,hu,rv⟩:=r.get ha
  have hp:ps[i]? = some y:=by
   rw [← S.pre,List.getElem?_take_of_lt (by omega)];exact h1
  have ndP:ps.Nodup:=by rw [← S.pre];exact S.nd.sublist (List.take_sublist _ _)
  refine ⟨u,rv,?_⟩
  rcases S.par y (List.mem_of_getElem? hp) with k | k
  ·exact .inl ⟨k,bindL_get ndP hp hu k⟩
  ·obtain ⟨c,e⟩:=cell_has (n:=s.heap.objs.size+1) k
   refine .inr ⟨.inl k,c,e,?_⟩
   have q:=x.cell y c e
   rw [bindC_get ndP hp hu (by show scope.names.lookup y≠_;rw [k];decide)] at q
   exact q
 ·exact e0.hok.fresh (Nat.le_of_lt (x.above y c (PySem.mem_of_lookup h)))
 ·unfold start
  show _=N.length
  rw [List.length_append,List.length_map,List.length_replicate]
  omega
theorem fn_of{CX:CXT}{P:Program}{w:World}{K:PySem.W.Frag}{mg:Str→Option Value}{base:Heap}{k:Nat}{f:Addr}{name qual:Str}{params:Arguments}{body:List Stmt}{scope:Scope}{dV kV doc pm cdv ct oc:Value}{an od:Option Addr}
  {osl:Array (Option Value)} {N ps:List Str} {sp:Sp} (lk:K.lookup f=some ⟨oc,od,.func (PySem.W.fnOf name qual params body scope dV kV doc pm an cdv ct),osl⟩) (hcd:PySem.W.codeIn K cdv qual=true) (S:FnScope N ps scope)
  (len:∀vs H Q E,sp vs H Q E→vs.length=ps.length)
  (hbody:∀(A:Around) (outer:List Env) (s:Shared) (H:Hp) (vs:List V) (Q:VK) (E:XK),Room k (A.deeper (envOfC qual scope s.heap.objs.size f cdv))→sp vs H Q E →
   ∃t,PSs (cxOf CX P w K mg base N qual scope f cdv A outer s H E) body t∧t { nx:=fun _ H'=>Q .non H',rt:=Q } (start N vs) H) :
  FnOk P w K mg base CX (k+1) f (PySem.W.fnOf name qual params body scope dV kV doc pm an cdv ct) ps sp:=by
 refine ⟨len,fun A outer s H args us vs Q E hr e0 hb r hsp=>?_⟩
 have hl:=len _ _ _ _ hsp
 have KX:K.In s.heap:=e0.mod.kin.keeps fun b o e=>(e0.bs b o e).1
 have lim:s.heap.NoLimit:=e0.mod.nolimit.keeps fun b o e=>(e0.bs b o e).1
 have hkind:∀y∈ps.zip us,scope.names.lookup y.1=some .local∨(scope.names.lookup y.1=some .cell∧((cellsFrom (s.heap.objs.size+1) scope.names []).lookup y.1).isSome=true):=fun ⟨n,v⟩ hy=>by
  rcases S.par n (List.of_mem_zip hy).1 with q | q
  ·exact .inl q
  ·exact .inr ⟨q,PySem.W.cellsFrom_some _ _ _ (.inl q)⟩
 refine codeAny_call_function hr.depth (KX _ _ lk) rfl S.co S.gen rfl (PySem.W.codeRec_of KX hcd) (hb _ _ _ _ ?_)
 refine wpAny_newFunctionEnv_cells S.kind hkind fun env he s1 x=>?_
 subst he
 refine ⟨lim.keeps x.toInCall.keep,codeAny_func ?_⟩
 obtain ⟨t,ht,hq⟩:=hbody A outer s H vs Q E (hr.deeper _) hsp
 have I:Inv (cxOf CX P w K mg base N qual scope f cdv A outer s H E) [] (start N vs) H s1:=inv_start S hr.hd e0 hl r x
 refine wpAny_mono (ht [] s1 (start N vs) H _ I hq) (fun fl s' hs=>?_) fun e s' hs=>hs
 have fin:∀{σ':St} {H':Hp} {v:V} {u:Value},Inv (cxOf CX P w K mg base N qual scope f cdv A outer s H E) [] σ' H' s'→RelV v u→Q v H'→CE outer P w H s Q u s' :=
  fun {σ' H' v u} J rv q=>⟨v,H',J.os,J.bare,J.base,J.hok,rv,q⟩
 cases fl with
 | ret u =>
  obtain ⟨v,σ',H',J,rv,q⟩:=hs
  exact fin J rv q
 | next =>
  obtain ⟨σ',H',J,q⟩:=hs
  exact fin (v:=V.non) (u:=Value.none) J rfl q
 | brk =>
  obtain ⟨_,_,_,q⟩:=hs
  exact False.elim q
 | cont =>
  obtain ⟨_,_,_,q⟩:=hs
  exact False.elim q
end L2
namespace L2
open PySem PySem.Spec PyProof.Rows
section
variable{X:Cx}{x:Str}{p pos:Pos}{e:Expr}{es:List Expr}{t:TA}{id T:String}{r:List V→Hp→VK→Prop}
def tCB(r:List V→Hp→VK→Prop)(t:TA):TE:=fun σ H Q=>t σ H fun vs H1=>r vs H1 Q
theorem pe_callB (hc:CallR X (.builtin id) r) (hg:Gl X x) (hm:X.mg x=none) (hv:bootBuiltins x=some (.builtin id)) (ha:PA X (e :: es) t) (hn:x≠"__name__":=by decide) (hdb:(x == ("__debug__" : Str))=false:=by decide)
  (he:starEach (e :: es) X.env=(false,eval e X.env) :: starEach es X.env:=by rfl) (hpl:(backTo pos (starEach es X.env)).any (·.1)=false:=by rfl):PE X (.Call (.Name x p) (e :: es) [] pos) (tCB r t):=by
 intro pins s σ H Q I h
 refine wpAny_Call_Name_kw (ld_blt I hg hm hv ?_ hn hdb)
 exact PyProof.Rows.callWith_builtin1 (thn (ha pos pins s σ H _ I h) fun us s1 ⟨vs,H1,I1,r1,q1⟩=>hc pins s1 σ H1 vs us Q I1 r1 q1) he hpl
theorem pe_callTy (hc:CallR X (.type T) r) (hg:Gl X x) (hm:X.mg x=none) (hv:bootBuiltins x=some (.type T)) (ha:PA X (e :: es) t) (hn:x≠"__name__":=by decide) (hdb:(x == ("__debug__" : Str))=false:=by decide)
  (he:starEach (e :: es) X.env=(false,eval e X.env) :: starEach es X.env:=by rfl) (hpl:(backTo pos (starEach es X.env)).any (·.1)=false:=by rfl):PE X (.Call (.Name x p) (e :: es) [] pos) (tCB r t):=by
 intro pins s σ H Q I h
 refine wpAny_Call_Name_kw (ld_blt I hg hm hv ?_ hn hdb)
 exact PyProof.Rows.callWith_type1 (thn (ha pos pins s σ H _ I h) fun us s1 ⟨vs,H1,I1,r1,q1⟩=>hc pins s1 σ H1 vs us Q I1 r1 q1) he hpl
end
end L2
namespace HT
open PySem PyProof.Rows
section
open PySem.SeqAt
open PySem.AutoSeq1 (wpAny_loadPart')
open PySem.MeetsSeq PySem.MeetsSeq2 PySem.MeetsSeq3
end
section
variable{prog:Program}{w:World}{A:Around}{E:Value→Shared→Prop}{s:Shared}
def sIx(n d:Nat):Option Int→Nat
 | none=>d
 | some v=>if v < 0 then (v+(n:Int)).toNat else min v.toNat n
end
end HT
namespace L2
open PySem PySem.Spec PyProof.Rows
abbrev TO:=St→Hp→(Option Int→Hp→Prop)→Prop
def PO(X:Cx)(e:Option Expr)(t:TO):Prop :=
 ∀(pins:List (Addr×Obj)) (s:Shared) (σ : St) (H:Hp) (Q:Option Int→Hp→Prop),Inv X pins σ H s→t σ H Q →
  wpAny (model X.prog X.w) X.A (evalPart e X.env) (fun u s'=>∃o H',Inv X pins σ H' s'∧IsPart u o∧Q o H') X.xe s
def tNoPart:TO:=fun _ H Q=>Q none H
def tPart(t:TE):TO:=fun σ H Q=>t σ H fun x H1=>∃i,x = .int i∧Q (some i) H1
section
variable{X:Cx}{e:Expr}{te:TE}{lo hi:Option Expr}{tl th:TO}{pos p2:Pos}
theorem po_none:PO X none tNoPart:=by
 intro pins s σ H Q I h
 rw [evalPart_none]
 exact wpAny_pure ⟨none,H,I,.none,h⟩
theorem po_some(h:PE X e te):PO X (some e) (tPart te):=by
 intro pins s σ H Q I hw
 rw [evalPart_some]
 refine thn (h pins s σ H _ I hw) fun u s1 ⟨x,H1,I1,r1,q1⟩=>?_
 obtain ⟨i,rfl,q⟩:=q1
 obtain ⟨t,rfl⟩:=r1
 exact ⟨some i,H1,I1,.int i t,q⟩
def SlR(X:Cx)(r:V→Option Int→Option Int→Hp→VK→Prop):Prop :=
 ∀(pins:List (Addr×Obj)) (s:Shared) (σ : St) (H:Hp) (x:V) (v vl vu:Value) (lo hi:Option Int) (sl:Addr) (Q:VK),Inv X pins σ H s→RelV x v→s.heap.IsSliceOf sl vl vu .none→IsPart vl lo→IsPart vu hi→r x lo hi H Q →
  ∃T id,typeLookup (.type T) "__getitem__" = pure (some (.builtin id))∧s.TypeIs v T∧wpAny (model X.prog X.w) X.A (getItem v (.ref sl)) (EP X pins σ Q) X.xe s
def tSl(r:V→Option Int→Option Int→Hp→VK→Prop)(te:TE)(tl th:TO):TE:=fun σ H Q=>te σ H fun x H1=>tl σ H1 fun l H2=>th σ H2 fun u H3=>r x l u H3 Q
theorem pe_slice{r:V→Option Int→Option Int→Hp→VK→Prop}(hr:SlR X r)(he:PE X e te)(hl:PO X lo tl)(hu:PO X hi th):PE X (.Subscript e (.Slice lo hi none p2) pos) (tSl r te tl th):=by
 intro pins s σ H Q I h
 refine Subscript_ (thn (he pins s σ H _ I h) fun v s1 ⟨x,H1,I1,r1,q1⟩=>?_)
 refine wpAny_Slice (thn (hl pins s1 σ H1 _ I1 q1) fun vl s2 ⟨l,H2,I2,pl,q2⟩=>thn (hu pins s2 σ H2 _ I2 q2) fun vu s3 ⟨u,H3,I3,pu,q3⟩=>?_)
 rw [evalPart_none]
 refine wpAny_pure ?_
 have I4:Inv X pins σ H3 { s3 with heap:=s3.heap.push { cls:=.type "slice",data:=.fields #[vl,vu,.none] } }:=I3.kept (t':=s3.toks) fun b ob q=>Heap.get?_push_of_some _ q
 obtain ⟨T,id,hT,ht,hg⟩:=hr pins { s3 with heap:=s3.heap.push { cls:=.type "slice",data:=.fields #[vl,vu,.none] } } σ H3 x v vl vu l u s3.heap.objs.size Q I4 r1 (Heap.IsSliceOf.new ..) pl pu q3
 show wpAny (model X.prog X.w) X.A (subscriptTail e (.Slice lo hi none p2) v (.ref s3.heap.objs.size)) (EP X pins σ Q) X.xe { s3 with heap:=s3.heap.push { cls:=.type "slice",data:=.fields #[vl,vu,.none] } }
 exact tail_any (ops:=[.ref s3.heap.objs.size,v]) ht hT hg (by with_unfolding_all rfl)
def cutV(xs:List V)(lo hi:Option Int):List V:=(xs.drop (HT.sIx xs.length 0 lo)).take (HT.sIx xs.length xs.length hi - HT.sIx xs.length 0 lo)
theorem cutV_length(xs:List V)(lo hi:Option Int):(cutV xs lo hi).length≤xs.length:=by
 unfold cutV
 rw [List.length_take,List.length_drop]
 omega
end
end L2
namespace L2
open PySem PySem.Spec PyProof.Rows
def ixN(n:Nat)(i:Int):Option Nat:=if 0≤i then (if i < n then some i.toNat else none) else if -(n:Int)≤i then some (i+n).toNat else none
def atI{α : Type}(xs:List α)(i:Int):Option α:=(ixN xs.length i).bind fun j=>xs[j]?
theorem ixN_seq{n:Nat}{i:Int}{j:Nat}(h:ixN n i=some j):seqIndex? i n=some j∧j < n∧-(n:Int)≤i∧i < n:=by
 unfold ixN at h
 by_cases h0:0≤i
 ·rw [if_pos h0] at h
  by_cases h1:i < n
  ·rw [if_pos h1] at h
   have e:i.toNat=j:=Option.some.inj h
   exact ⟨by rw [seqIndex_of h0 h1,e],by omega,by omega,h1⟩
  ·rw [if_neg h1] at h;cases h
 ·rw [if_neg h0] at h
  by_cases h1 : -(n:Int)≤i
  ·rw [if_pos h1] at h
   have e:(i+n).toNat=j:=Option.some.inj h
   exact ⟨by rw [seqIndex_neg (by omega) h1,e],by omega,h1,by omega⟩
  ·rw [if_neg h1] at h;cases h
theorem atI_get{α : Type}{xs:List α}{i:Int}{v : α}(h:atI xs i=some v):∃j,seqIndex? i xs.length=some j∧xs[j]? = some v∧j < xs.length∧-(xs.length:Int)≤i∧i < xs.length:=by
 unfold atI at h
 cases e:ixN xs.length i with
 | none=>rw [e] at h;cases h
 | some j =>
  rw [e] at h
  obtain ⟨h1,h2,h3,h4⟩:=ixN_seq e
  exact ⟨j,h1,h,h2,h3,h4⟩
theorem atI_nat{α : Type}{xs:List α}{j:Nat}{v : α}(h:xs[j]? = some v):atI xs (j:Int)=some v:=by
 have hj:j < xs.length:=(List.getElem?_eq_some_iff.mp h).1
 have e:ixN xs.length (j:Int)=some j:=by
  unfold ixN
  rw [if_pos (by omega),if_pos (by omega)];simp
 unfold atI;rw [e];exact h
def PlainIx(b:Expr):Prop:=∀o i,subscripted b false o i=operate [o,i] (getItem o i)
def IxR(X:Cx)(r:R2):Prop :=
 ∀(value slice:Expr) (pins:List (Addr×Obj)) (s:Shared) (σ : St) (H:Hp) (x y:V) (v u:Value) (Q:VK),Inv X pins σ H s→RelV x v→RelV y u→r x y H Q →
  subscripted slice false v u=operate [v,u] (getItem v u)→wpAny (model X.prog X.w) X.A (subscriptTail value slice v u) (EP X pins σ Q) X.xe s
def MtR(X:Cx)(id:String)(r:V→List V→Hp→VK→Prop):Prop :=
 ∀(pins:List (Addr×Obj)) (s:Shared) (σ : St) (H:Hp) (x:V) (xs:List V) (v:Value) (us:List Value) (Q:VK),Inv X pins σ H s→RelV x v→Vals xs us→r x xs H Q →
  wpAny (model X.prog X.w) X.A (call (.builtin id) (v :: us)) (EP X pins σ Q) X.xe s
section
variable{X:Cx}{a b:Expr}{ta tb:TE}{pos:Pos}
theorem IxR.or{r r':R2}(h:IxR X r)(h':IxR X r'):IxR X (fun x y H Q=>r x y H Q∨r' x y H Q):=by
 intro value slice pins s σ H x y v u Q I rx ry q hs
 rcases q with q | q
 ·exact h value slice pins s σ H x y v u Q I rx ry q hs
 ·exact h' value slice pins s σ H x y v u Q I rx ry q hs
theorem pe_ix{r:R2}(hr:IxR X r)(ha:PE X a ta)(hb:PE X b tb)(hs:PlainIx b):PE X (.Subscript a b pos) (tOp r ta tb):=by
 intro pins s σ H Q I h
 exact Subscript_ (binT ha hb I h fun v u s2 x y H2 I2 rx ry q=>hr a b pins s2 σ H2 x y v u Q I2 rx ry q (hs _ _))
def rIxL(K:PySem.W.Frag):R2:=fun x y H Q=>∃p xs i v,x = .ref p∧y = .int i∧SqL K H p xs∧atI xs i=some v∧Q v H
def rIxT(K:PySem.W.Frag):R2:=fun x y H Q=>∃p xs i v,x = .ref p∧y = .int i∧SqT K H p xs∧atI xs i=some v∧Q v H
def rIxS:R2:=fun x y H Q=>∃z i c,x = .str z∧y = .int i∧z.length≤sizeLine∧atI z.cps.toList i=some c∧Q (.str ⟨#[c]⟩) H
theorem ix_list:IxR X (rIxL X.K):=by
 intro value slice pins s σ H x y v u Q I rx ry h hs
 obtain ⟨p,xs,i,z,rfl,rfl,hq,he,q⟩:=h
 cases rx
 obtain ⟨t,rfl⟩:=ry
 obtain ⟨its,r,pl,hz⟩:=I.list hq
 obtain ⟨j,h1,h2,h3,h4,h5⟩:=atI_get he
 obtain ⟨w,ew,rw'⟩:=r.get h2
 have hl:=r.length
 have hn:=line63
 have fin:EP X pins σ Q w s:=⟨z,H,I,rw',q⟩
 by_cases h0:0≤i
 ·have hj:i.toNat=j:=by
   rw [seqIndex_of h0 h5] at h1
   exact Option.some.inj h1
  exact item_listR pl.isList h0 (by omega) (by rw [hj];simpa using ew) fin hs
 ·have hj:(i+(its.toArray.size:Int)).toNat=j:=by
   rw [seqIndex_neg (by omega) h4] at h1
   rw [List.size_toArray,← hl]
   exact Option.some.inj h1
  exact subscriptTail_builtinR (x:=w) pl.isList.typeIs slot_list_getitem.lookup
   (wpAny_getItem_list_neg (Q:=fun r s'=>r=w∧EP X pins σ Q r s') pl.isList (by omega) (by rw [List.size_toArray] <;> omega) (by omega) (by rw [hj];simpa using ew) ⟨rfl,fin⟩) hs
theorem ix_tup:IxR X (rIxT X.K):=by
 intro value slice pins s σ H x y v u Q I rx ry h hs
 obtain ⟨p,xs,i,z,rfl,rfl,hq,he,q⟩:=h
 cases rx
 obtain ⟨t,rfl⟩:=ry
 obtain ⟨its,r,pl,hz⟩:=I.tuple hq
 obtain ⟨j,h1,h2,h3,h4,h5⟩:=atI_get he
 obtain ⟨w,ew,rw'⟩:=r.get h2
 have hl:=r.length
 have hn:=line63
 have fin:EP X pins σ Q w s:=⟨z,H,I,rw',q⟩
 exact subscriptTail_builtinR (x:=w) pl.typeIs slot_tuple_getitem.lookup
  (getItem_tuple (j:=j) (Q:=fun r s'=>r=w∧EP X pins σ Q r s') pl (by omega) (by omega) (by rw [List.size_toArray,← hl];exact h1) (by simpa using ew) ⟨rfl,fin⟩) hs
theorem ix_str:IxR X rIxS:=by
 intro value slice pins s σ H x y v u Q I rx ry h hs
 obtain ⟨z,i,c,rfl,rfl,hz,he,q⟩:=h
 obtain ⟨t,rfl⟩:=rx
 obtain ⟨t',rfl⟩:=ry
 obtain ⟨j,h1,h2,h3,h4,h5⟩:=atI_get he
 have hl:z.cps.toList.length=z.length:=by simp [Str.length]
 rw [hl] at h1 h4 h5
 have hn:=line63
 exact tail_any (typeIs_str s z t) slot_str_getitem.lookup (getItem_str (c:=c) (by
  have e1:decide (i < -(2 ^ 63:Int))=false:=decide_eq_false (by omega)
  have e2:decide (i≥2 ^ 63)=false:=decide_eq_false (by omega)
  rw [e1,e2,Bool.or_false]) (by rw [h1];simpa using h2) ⟨.str ⟨#[c]⟩,H,I.tok _,⟨_,rfl⟩,q⟩) hs
def rIx(K:PySem.W.Frag):R2:=fun x y H Q=>rIxL K x y H Q∨rIxT K x y H Q∨rIxS x y H Q
theorem ix_seq:IxR X (rIx X.K):=ix_list.or (ix_tup.or ix_str)
theorem mapSeq_set (its:List Value) (n j:Nat) (u:Value):Obj.mapSeq (·.setIfInBounds j u) { cls:=.type "list",data:=.seq its.toArray n } = { cls:=.type "list",data:=.seq (its.set j u).toArray n }:=by
 simp [Obj.mapSeq]
theorem Inv.lst{pins:List (Addr×Obj)}{σ : St}{H:Hp}{s:Shared}{p:Addr}{xs:List V}(I:Inv X pins σ H s)(h:H p=some (.lst xs)) :
  ∃(its:List Value) (n:Nat),Vals xs its∧s.heap.get? p=some { cls:=.type "list",data:=.seq its.toArray n }∧xs.length≤sizeLine:=by
 obtain ⟨z,its,n,r,e⟩:=I.hok p _ h
 exact ⟨its,n,r,e,z⟩
theorem Inv.lstUpd{pins:List (Addr×Obj)}{σ : St}{H:Hp}{s:Shared}{p:Addr}{xs ys:List V}{its its':List Value}{n n':Nat}{f:Obj→Obj}(I:Inv X pins σ H s)(h:H p=some (.lst xs))
  (ho:s.heap.get? p=some { cls:=.type "list",data:=.seq its.toArray n }) (hf:f { cls:=.type "list",data:=.seq its.toArray n } = { cls:=.type "list",data:=.seq its'.toArray n' }) (r:Vals ys its') (hz:ys.length≤sizeLine) (t:Nat) :
  Inv X pins σ (upd H p (.lst ys)) { s with heap:=s.heap.update p f,toks:=t }:=by
 have e:(s.heap.update p f).get? p=some { cls:=.type "list",data:=.seq its'.toArray n' }:=by
  rw [Heap.get?_update_self f ho (by rw [hf] <;> rfl),hf]
 refine I.write (x:=p) (e:=p) (by rw [h];trivial) (.inl rfl) (fun b u hb q=>(Heap.get?_update_other _ _ (Ne.symm hb)).trans q) ⟨_,e⟩ ?_
 exact ⟨hz,its',n',r,e⟩
def rSetL:V→V→V→Hp→(Hp→Prop)→Prop:=fun o i v H Q=>∃p xs k j,o = .ref p∧i = .int k∧H p=some (.lst xs)∧ixN xs.length k=some j∧Q (upd H p (.lst (xs.set j v)))
theorem set_list:PSet X rSetL:=by
 intro pins s σ H o i v ov iv u Q I ro ri rv h
 obtain ⟨p,xs,k,j,rfl,rfl,hp,hj,q⟩:=h
 cases ro
 obtain ⟨t,rfl⟩:=ri
 obtain ⟨its,n,r,ho,hz⟩:=I.lst hp
 obtain ⟨h1,h2,h3,h4⟩:=ixN_seq hj
 have hl:=r.length
 have hn:=line63
 have I':Inv X pins σ (upd H p (.lst (xs.set j v))) { s with heap:=s.heap.update p (Obj.mapSeq (·.setIfInBounds j u)) } :=
  I.lstUpd hp ho (mapSeq_set its n j u) (r.set rv j) (by rw [List.length_set];exact hz) s.toks
 by_cases h0:0≤k
 ·have hk:k.toNat=j:=by
   rw [seqIndex_of h0 h4] at h1
   exact Option.some.inj h1
  exact PySem.W.ki_setAt ho h0 (by omega) (by rw [List.size_toArray,← hl];exact h4) (by rw [hk];exact ⟨_,I',q⟩)
 ·have hk:(k+(its.toArray.size:Int)).toNat=j:=by
   rw [seqIndex_neg (by omega) h3] at h1
   rw [List.size_toArray,← hl]
   exact Option.some.inj h1
  exact PySem.W.ki_setBack ho (by omega) (by rw [List.size_toArray,← hl];exact h3) (by omega) (by rw [hk];exact ⟨_,I',q⟩)
theorem slice_bounds(lo hi:Option Int)(n:Nat):(sliceBounds lo hi none n).1=((HT.sIx n 0 lo:Nat):Int)∧(sliceBounds lo hi none n).2.1=((HT.sIx n n hi:Nat):Int)∧(sliceBounds lo hi none n).2.2=1:=by
 refine ⟨?_,?_,rfl⟩
 ·cases lo with
  | none=>simp [sliceBounds,HT.sIx]
  | some i =>
   simp only [sliceBounds,HT.sIx,Option.getD_none,show (1:Int) > 0 by decide,if_true]
   by_cases h:i < 0
   ·simp only [h,if_true] <;> omega
   ·simp only [h,if_false] <;> omega
 ·cases hi with
  | none=>simp [sliceBounds,HT.sIx]
  | some i =>
   simp only [sliceBounds,HT.sIx,Option.getD_none,show (1:Int) > 0 by decide,if_true]
   by_cases h:i < 0
   ·simp only [h,if_true] <;> omega
   ·simp only [h,if_false] <;> omega
theorem slicePick_cut(its:List Value)(lo hi:Option Int):slicePick its.toArray lo hi none=((its.drop (HT.sIx its.length 0 lo)).take (HT.sIx its.length its.length hi - HT.sIx its.length 0 lo)).toArray:=by
 obtain ⟨h1,h2,h3⟩:=slice_bounds lo hi its.toArray.size
 unfold slicePick
 rw [h1,h2,h3]
 simp only [sliceRange_one,pick_run,List.size_toArray] <;> rfl
def rSlL(K:PySem.W.Frag):V→Option Int→Option Int→Hp→VK→Prop:=fun x lo hi H Q=>∃a xs,x = .ref a∧SqL K H a xs∧∀p,H p=none→Q (.ref p) (upd H p (.lst (cutV xs lo hi)))
theorem sl_list:SlR X (rSlL X.K):=by
 intro pins s σ H x v vl vu lo hi sl Q I rx hs pl pu h
 obtain ⟨a,xs,rfl,hx,q⟩:=h
 cases rx
 obtain ⟨its,r,ht,hz⟩:=I.list hx
 have hlen:=r.length
 refine ⟨"list",_,slot_list_getitem.lookup,ht.isList.typeIs,?_⟩
 refine wpAny_getItem_list_slice ht.isList hs pl pu .none (by simp) ?_ (by rw [List.size_toArray] <;> omega)
 rw [slicePick_cut,← hlen]
 refine ⟨.ref s.heap.objs.size,_,I.laid (t':=s.toks) (o:=.lst (cutV xs lo hi)) (fun b ob q=>Heap.get?_push_of_some _ q) (Nat.le_refl _) ?_,rfl,q _ (I.hok.fresh (Nat.le_refl _))⟩
 exact ⟨Nat.le_trans (cutV_length xs lo hi) hz,_,0,(r.drop (HT.sIx xs.length 0 lo)).take (HT.sIx xs.length xs.length hi - HT.sIx xs.length 0 lo),Heap.get?_push_size _ rfl⟩
theorem call_len_seq:CallR X (.builtin "len") (fun xs H Q=>∃p ys,xs=[.ref p]∧(SqL X.K H p ys∨SqT X.K H p ys)∧Q (.int ys.length) H):=by
 intro pins s σ H xs us Q I r h
 obtain ⟨p,ys,rfl,hq,q⟩:=h
 obtain ⟨u,rfl,rx⟩:=vals1 r
 cases rx
 have hn:=line63
 rcases hq with hq | hq
 ·obtain ⟨its,r',pl,hz⟩:=I.list hq
  have hlen:=r'.length
  exact Calls.call_len_list pl.isList (by simp only [List.size_toArray] <;> omega) ⟨.int ys.length,H,I.tok _,⟨s.toks+1,by rw [List.size_toArray,hlen]⟩,q⟩
 ·obtain ⟨its,r',pl,hz⟩:=I.tuple hq
  have hlen:=r'.length
  exact len_tuple pl (by simp only [List.size_toArray] <;> omega) ⟨.int ys.length,H,I.tok _,⟨s.toks+1,by rw [List.size_toArray,hlen]⟩,q⟩
theorem call_list_of:CallR X (.type "list") (fun xs H Q=>∃p ys,xs=[.ref p]∧(SqL X.K H p ys∨SqT X.K H p ys)∧∀l,H l=none→Q (.ref l) (upd H l (.lst ys))):=by
 intro pins s σ H xs us Q I r h
 obtain ⟨p,ys,rfl,hq,q⟩:=h
 obtain ⟨u,rfl,rx⟩:=vals1 r
 cases rx
 have fin:∀(its:List Value),Vals ys its→ys.length≤sizeLine→∀(h':Heap) (c':Nat),(∀b o',s.heap.get? b=some o'→h'.get? b=some o') →
   h'.get? s.heap.objs.size=some { cls:=.type "list",dict:=none,data:=.seq its.toArray c',slots:=#[] }→EP X pins σ Q (.ref s.heap.objs.size) { s with heap:=h' }:=fun its r' hz h' c' kp e =>
  ⟨.ref s.heap.objs.size,_,I.laid (t':=s.toks) kp (Nat.le_refl _) (show ObjOk X.prog X.w _ h' _ (.lst ys) from ⟨hz,its,c',r',e⟩),rfl,q _ (I.hok.fresh (Nat.le_refl _))⟩
 rcases hq with hq | hq
 ·obtain ⟨its,r',pl,hz⟩:=I.list hq
  have hlen:=r'.length
  obtain ⟨o,ho,hc,n,hd⟩:=pl.isList
  exact call_list_seq p (.inl rfl) ho hc hd (fun h' c' kp e=>fin its r' hz h' c' kp e) (by simp only [List.size_toArray] <;> omega)
 ·obtain ⟨its,r',pl,hz⟩:=I.tuple hq
  have hlen:=r'.length
  obtain ⟨o,ho,hc,n,hd⟩:=pl
  exact call_list_seq p (.inr rfl) ho hc hd (fun h' c' kp e=>fin its r' hz h' c' kp e) (by simp only [List.size_toArray] <;> omega)
theorem call_tuple_of:CallR X (.type "tuple") (fun xs H Q=>∃p ys,xs=[.ref p]∧((SqL X.K H p ys∧∀l,H l=none→Q (.ref l) (upd H l (.tup ys)))∨(SqT X.K H p ys∧Q (.ref p) H))):=by
 intro pins s σ H xs us Q I r h
 obtain ⟨p,ys,rfl,h⟩:=h
 obtain ⟨u,rfl,rx⟩:=vals1 r
 cases rx
 rcases h with ⟨hq,q⟩ | ⟨hq,q⟩
 ·obtain ⟨its,r',pl,hz⟩:=I.list hq
  have hlen:=r'.length
  refine call_tuple_list pl.isList (fun h' kp=>?_) (by simp only [List.size_toArray] <;> omega)
  have I1:Inv X pins σ H { s with heap:=h' }:=I.kept (t':=s.toks) kp
  have I2:Inv X pins σ (upd H h'.objs.size (.tup ys)) { s with heap:=h'.push { cls:=.type "tuple",data:=.seq its.toArray } } :=
   I1.laid (t':=s.toks) (fun b o e=>Heap.get?_push_of_some _ e) (Nat.le_refl _) (show ObjOk X.prog X.w _ _ _ (.tup ys) from ⟨hz,its,r',IsTup.new _ _⟩)
  exact ⟨.ref h'.objs.size,_,I2,rfl,q _ (I1.hok.fresh (Nat.le_refl _))⟩
 ·obtain ⟨its,r',pl,hz⟩:=I.tuple hq
  exact call_tuple_same pl ⟨.ref p,H,I,rfl,q⟩
def tyV(K:PySem.W.Frag)(T:String)(x:V)(H:Hp):Prop:=match x with
 | .str _=>T = "str"
 | .int _=>T = "int"
 | .ref p=>(T = "list"∧∃xs,SqL K H p xs)∨(T = "tuple"∧∃o,K.lookup p=some o∧o.cls = .type "tuple"∧o.dict=none) ∨
   (T = "dict"∧((∃kvs,H p=some (.dK kvs))∨∃kvs,H p=some (.dT kvs)))∨(T = "set"∧∃S n,H p=some (.set S n))
 | _=>False
theorem tyV_is{pins:List (Addr×Obj)}{σ : St}{H:Hp}{s:Shared}{T:String}{x:V}{v:Value}(I:Inv X pins σ H s)(r:RelV x v)(ty:tyV X.K T x H) :
  s.TypeIs v T∧∀a,v = .ref a→∃ob,s.heap.get? a=some ob∧ob.dict=none:=by
 cases x with
 | str z =>
  obtain ⟨t,rfl⟩:=r
  cases (show T = "str" from ty)
  exact ⟨typeIs_str s z t,fun _ e=>nomatch e⟩
 | int i =>
  obtain ⟨t,rfl⟩:=r
  cases (show T = "int" from ty)
  exact ⟨typeIs_int s i t,fun _ e=>nomatch e⟩
 | ref p =>
  cases r
  rcases ty with ⟨rfl,xs,hq⟩ | ⟨rfl,o,hk,hc,hd⟩ | ⟨rfl,hk⟩ | ⟨rfl,S,n,hk⟩
  ·obtain ⟨its,_,pl,_⟩:=I.list hq
   refine ⟨pl.isList.typeIs,fun a e=>?_⟩
   cases e
   obtain ⟨o,n,e,c,hd,_⟩:=pl
   exact ⟨o,e,hd⟩
  ·refine ⟨⟨o,I.kIn p o hk,hc⟩,fun a e=>?_⟩
   cases e
   exact ⟨o,I.kIn _ o hk,hd⟩
  ·have z:∃o,s.heap.get? p=some o∧o.ExactDict:=by
    rcases hk with ⟨kvs,hk⟩ | ⟨kvs,hk⟩
    ·obtain ⟨_,_,_,_,o,_,_,e,ex,_⟩:=I.hok p _ hk
     exact ⟨o,e,ex⟩
    ·obtain ⟨_,_,_,_,o,_,_,e,ex,_⟩:=I.hok p _ hk
     exact ⟨o,e,ex⟩
   obtain ⟨o,e,ex⟩:=z
   refine ⟨⟨o,e,ex.1⟩,fun a e2=>?_⟩
   cases e2
   exact ⟨o,e,ex.2.1⟩
  ·obtain ⟨o,_,_,_,e,ex,_⟩:=I.hok p _ hk
   refine ⟨⟨o,e,ex.1⟩,fun a e2=>?_⟩
   cases e2
   exact ⟨o,e,ex.2.1⟩
 | _=>exact False.elim ty
def tBM0(K:PySem.W.Frag)(T:String)(r:V→List V→Hp→VK→Prop)(to:TE):TE:=fun σ H Q=>to σ H fun x H1=>tyV K T x H1∧r x [] H1 Q
def tBM(K:PySem.W.Frag)(T:String)(r:V→List V→Hp→VK→Prop)(to:TE)(t:TA):TE:=fun σ H Q=>to σ H fun x H1=>tyV K T x H1∧t σ H1 fun xs H2=>r x xs H2 Q
variable{o e:Expr}{es:List Expr}{to:TE}{t:TA}{name:Str}{apos cpos:Pos}{T id:String}{r:V→List V→Hp→VK→Prop}
theorem pe_bm0 (pa:PlainAttrs T) (slot:Slot T name id) (hty:typeOf (.builtin id)=pure (.type "method_descriptor")) (hm:MtR X id r) (ho:PE X o to)
  (hbase:attributeBase o name X.env (eval o X.env)=eval o X.env:=by rfl) (hline:(apos.endLine == cpos.line)=true:=by rfl):PE X (.Call (.Attribute o name apos) [] [] cpos) (tBM0 X.K T r to):=by
 intro pins s σ H Q I h
 refine wpAny_Call_method0_late hbase hline (thn (ho pins s σ H _ I h) fun v s1 ⟨x,H1,I1,r1,ty,q1⟩=>?_)
 obtain ⟨h1,h2⟩:=tyV_is I1 r1 ty
 exact ⟨T,id,pa,slot,hty,h1,h2,Calls.callWith_builtin rfl (PySem.evalArgs_none (hm pins s1 σ H1 x [] v [] Q I1 r1 .nil q1))⟩
theorem pe_bm (pa:PlainAttrs T) (slot:Slot T name id) (hty:typeOf (.builtin id)=pure (.type "method_descriptor")) (hm:MtR X id r) (ho:PE X o to) (ha:PA X (e :: es) t)
  (hbase:attributeBase o name X.env (eval o X.env)=eval o X.env:=by rfl)
  (hfew:((backTo cpos (starEach (e :: es) X.env)).all (fun x=>!x.1) && (backToKw cpos (keywordEach [] X.env)).all (fun x=>x.1.isSome)
   && decide ((e :: es).length+([]:List Keyword).length+(if ([]:List Keyword).isEmpty then 0 else 1) < 30))=true:=by rfl)
  (hline:(apos.endLine == cpos.line)=true:=by rfl) (hs:starEach (e :: es) X.env=(false,eval e X.env) :: starEach es X.env:=by rfl) (hplain:(backTo cpos (starEach es X.env)).any (·.1)=false:=by rfl) :
  PE X (.Call (.Attribute o name apos) (e :: es) [] cpos) (tBM X.K T r to t):=by
 intro pins s σ H Q I h
 refine wpAny_Call_method_late hbase hfew hline rfl (thn (ho pins s σ H _ I h) fun v s1 ⟨x,H1,I1,r1,ty,q1⟩=>?_)
 obtain ⟨h1,h2⟩:=tyV_is I1 r1 ty
 refine ⟨T,id,pa,slot,hty,h1,h2,?_⟩
 have hA:=ha cpos pins s1 σ H1 _ I1 q1
 rw [hs] at hA ⊢
 refine Calls.callWith_builtin (by show (false || (backTo cpos (starEach es X.env)).any (·.1))=false;rw [hplain] <;> rfl) (Calls.evalArgs_plain ?_)
 exact thn hA fun us s2 ⟨vs,H2,I2,r2,q2⟩=>hm pins s2 σ H2 x vs v us Q I2 r1 r2 q2
end
end L2
namespace L2
open PySem PySem.Spec PyProof.Rows
def MtM(X:Cx)(id:String)(r:V→List V→Hp→VK→Prop):Prop :=
 ∀(pins:List (Addr×Obj)) (s:Shared) (σ : St) (H:Hp) (x:V) (xs:List V) (v:Value) (us:List Value) (Q:VK),Inv X pins σ H s→RelV x v→Vals xs us→r x xs H Q →
  wpAny (model X.prog X.w) X.A (call (.builtin id) (v :: us)) (EP X pins σ Q) X.xe s
theorem Vals.one:∀{x:V} {us:List Value},Vals [x] us→∃u,us=[u]∧RelV x u
 | _,_,.cons r .nil=>⟨_,rfl,r⟩
theorem Vals.zero:∀{us:List Value},Vals [] us→us=[]
 | _,.nil=>rfl
section
variable{X:Cx}{pins:List (Addr×Obj)}{σ : St}{H:Hp}{s:Shared}{l b:Addr}{xs ys zs:List V}
theorem Inv.lset{its its':List Value}{n:Nat}{f:Array Value→Array Value}{t':Nat}(I:Inv X pins σ H s)(hH:H l=some (.lst xs))
  (e:s.heap.get? l=some { cls:=.type "list",data:=.seq its.toArray n }) (hf:f its.toArray=its'.toArray) (hv:Vals ys its') (hz:ys.length≤sizeLine) :
  Inv X pins σ (upd H l (.lst ys)) { s with heap:=s.heap.update l (Obj.mapSeq f),toks:=t' }:=by
 have q:=PySem.IsL.update e f
 rw [hf] at q
 refine I.write (x:=l) (e:=l) (by rw [hH];exact trivial) (.inl rfl) (fun b' u hb hu=>(Heap.get?_update_other s.heap (Obj.mapSeq f) (Ne.symm hb)).trans hu) ⟨_,q⟩ ?_
 exact ⟨hz,its',_,hv,q⟩
theorem Inv.lnew{its:List Value}{t':Nat}(I:Inv X pins σ H s)(hv:Vals ys its)(hz:ys.length≤sizeLine) :
  Inv X pins σ (upd H s.heap.objs.size (.lst ys)) { s with heap:=s.heap.push { cls:=.type "list",data:=.seq its.toArray },toks:=t' } :=
 I.laid (fun _ _ q=>Heap.get?_push_of_some _ q) (Nat.le_refl _) ⟨hz,its,0,hv,Heap.get?_push_size _ rfl⟩
theorem Inv.fresh(I:Inv X pins σ H s):H s.heap.objs.size=none:=I.hok.fresh (Nat.le_refl _)
theorem Inv.lstM (I:Inv X pins σ H s) (hH:H l=some (.lst xs)):xs.length≤sizeLine∧∃(its:List Value) (n:Nat),Vals xs its∧xs.length=its.length∧s.heap.get? l=some { cls:=.type "list",data:=.seq its.toArray n }:=by
 obtain ⟨z,its,n,r,e⟩:=I.hok l _ hH
 exact ⟨z,its,n,r,r.length,e⟩
end
section
variable{X:Cx}
def rAppend:V→List V→Hp→VK→Prop:=fun x vs H Q=>∃l xs y,x = .ref l∧vs=[y]∧H l=some (.lst xs)∧xs.length < sizeLine∧Q .non (upd H l (.lst (xs++[y])))
theorem mt_append:MtM X "list.append" rAppend:=by
 intro pins s σ H x vs v us Q I rx rv h
 obtain ⟨l,xs,y,rfl,rfl,hH,hz,q⟩:=h
 cases rx
 obtain ⟨u,rfl,ru⟩:=rv.one
 obtain ⟨z,its,n,r,hl,e⟩:=I.lstM hH
 refine call_meets F.slot_list_append ⟨_,e,rfl⟩ F.entry_list_append (F.args_list_append_2 _ _) (PySem.list_append l its.toArray n u (by rw [List.size_toArray];omega)) ⟨e,?_⟩
 refine ⟨.non,_,I.lset (its':=its++[u]) hH e (by simp) (r.append (.cons ru .nil)) ?_,rfl,q⟩
 rw [List.length_append,List.length_singleton]
 omega
def rClear:V→List V→Hp→VK→Prop:=fun x vs H Q=>∃l xs,x = .ref l∧vs=[]∧H l=some (.lst xs)∧Q .non (upd H l (.lst []))
theorem mt_clear:MtM X "list.clear" rClear:=by
 intro pins s σ H x vs v us Q I rx rv h
 obtain ⟨l,xs,rfl,rfl,hH,q⟩:=h
 cases rx
 have hus:=rv.zero
 subst hus
 obtain ⟨z,its,n,r,hl,e⟩:=I.lstM hH
 refine call_meets F.slot_list_clear ⟨_,e,rfl⟩ F.entry_list_clear (F.args_list_clear_1 _) (AutoSeq1.list_clear_list_0 l its.toArray n (by rw [List.size_toArray];omega)) ⟨e,?_⟩
 exact ⟨.non,_,I.lset (its':=[]) (ys:=[]) hH e rfl .nil (Nat.zero_le _),rfl,q⟩
def rCat:R2:=fun x y H Q=>∃l b xs zs,x = .ref l∧y = .ref b∧H l=some (.lst xs)∧H b=some (.lst zs)∧xs.length+zs.length≤sizeLine∧∀p,H p=none→Q (.ref p) (upd H p (.lst (xs++zs)))
theorem op_cat:OpR X (binaryOp .Add) rCat:=by
 intro pins s σ H x y v u Q I rx ry h
 obtain ⟨l,b,xs,zs,rfl,rfl,hH,hB,hz,q⟩:=h
 cases rx
 cases ry
 obtain ⟨z,its,n,r,hl,e⟩:=I.lstM hH
 obtain ⟨z2,its2,n2,r2,hl2,e2⟩:=I.lstM hB
 refine PySem.P.add_list e e2 ?_ (by rw [List.size_toArray,List.size_toArray];omega)
 have ea:its.toArray++its2.toArray=(its++its2).toArray:=by simp
 rw [ea]
 exact ⟨.ref _,_,I.lnew (t':=s.toks) (r.append r2) (by rw [List.length_append];omega),rfl,q _ I.fresh⟩
end
section
variable{prog:Program}{w:World}{A:Around}{E:Value→Shared→Prop}{s:Shared}
end
section
variable{X:Cx}
end
end L2
namespace Att
open PySem PySem.W PySem.Calls PyProof.Rows
theorem ints_of_wellAll{P:Params}{h:Heap}:∀(ns:List Int) (vs:List Value),WellAll P h vs (ns.map WData.int)→IntsAre vs ns:=by
 intro ns
 induction ns with
 | nil =>
  intro vs w
  rw [List.map_nil] at w
  cases w
  exact .nil
 | cons n ns ih =>
  intro vs w
  rw [List.map_cons] at w
  cases w with
  | cons a b =>
   cases a
   exact .cons _ _ (ih _ b)
theorem script_of{l:OpenLaw}{n:Nat}(hn:l.most=some n){P:Params}{h:Heap}{args:List WData}{vals:List Value}
  (hpre:l.row.toRowW.claim.pre args=true) (hwl:WellAll P h vals args) :
  ∃a vs ns,vals=[Value.ref a]∧args=[WData.list (ns.map WData.int)]∧h.get? a=some { cls:=.type "list",data:=.seq vs.toArray }∧IntsAre vs ns∧ns.length≤n:=by
 have hsh:WShape.hasAll [] args [.list .int]=true:=(pre_splitW hpre).1
 have hc:l.pre.holds [] { args:=args } = true:=(pre_splitW hpre).2
 obtain ⟨d,r,rfl,h1,h2⟩:=hasAllW_cons hsh
 obtain rfl:=hasAllW_nil h2
 obtain ⟨xs,rfl,h3⟩:=hasW_list h1
 obtain ⟨ns,rfl⟩:=items_int h3
 have hlen:ns.length≤n:=by
  unfold OpenLaw.pre at hc
  have h4:(WTm.not (.lt (.lit (.int (n:Int))) (.len (.arg 0)))).holds [] { args:=[.list (ns.map .int)] } = true:=by
   have h4:=(holds_andW hc).1
   rw [hn] at h4
   exact h4
  have h5:=condW_of h4 (w_not (w_lt w_lit (w_len_list (w_arg rfl))))
  rw [List.length_map] at h5
  refine Nat.le_of_not_lt fun q=>?_
  have q':(n:Int) < ((ns.length:Nat):Int):=by omega
  first
   | (rw [decide_eq_true q'] at h5;exact absurd h5 (by decide))
   | (simp at h5;omega)
 cases hwl with
 | cons w1 w2 =>
  cases w2
  cases w1 with
  | list ho hall=>exact ⟨_,_,ns,rfl,rfl,ho,ints_of_wellAll ns _ hall,hlen⟩
theorem post_true(l:OpenLaw)(args:List WData):l.row.toRowW.claim.post args (.bool true) args=true :=
 postW_of (r:=l.row.toRowW) (X:=(true == true))
  (show WShape.has [] (.bool true) .bool=true by first | rfl | decide | simp [WShape.has,WShape.arms,WShape.armsAll])
  (show (WTm.eq .res (.lit (.bool true))).value [] { args:=args,res:=some (.bool true),after:=args } = some (.bool (true == true)) from w_eq_bool (w_res rfl) w_lit) rfl
theorem attach_call{l:OpenLaw}{n:Nat}{q:Program}{loose:List Str}{XP:(Str→Option Value)→Heap→Prop}{YP:World→Heap→Prop}{d:DefRec}
  (hn:l.most=some n) (hdf:d.params.defaults=[])
  (call:∀(w:World) (s₀ s₁ : Shared) (mg mb:Str→Option Value) (fa:Addr) (o:Obj) (pm cd doc:Value) (a:Addr) (vs:List Value) (ns:List Int),
   Ground q loose [] XP w s₀ mg mb s₁.heap→YP w s₁.heap →
   s₁.heap.get? fa=some o→o.data = .func (docDef d.name d.params d.body d.scope pm cd doc)→s₁.heap.CodeRec cd d.name→mg d.name=some (.ref fa) →
   s₁.heap.get? a=some { cls:=.type "list",data:=.seq vs.toArray }→IntsAre vs ns→ns.length≤n→s₁.gens = #[] →
   codeAny (model l.prog w) callerA (.call (.ref fa) ⟨[.ref a],[]⟩) (fun r s'=>r = .ok (.ret (.bool true))∧OldK s₁.heap s'.heap∧s'.os=s₁.os∧AllBare s'.gens) s₁) :
  WalkO q loose XP YP l.row.toRowW d [] (fun f vs=>PySem.call f vs):=by
 intro w s₀ s₁ mg mb G Y fa o pm cd doc dV kV ho hd hcd hD hmg hg args vals as hpre hlay hrd hwl hlo
 obtain rfl:dV = .none:=Dflts.none hD hdf
 obtain rfl:kV = .none:=Dflts.noKw hD
 obtain ⟨a,vs,ns,rfl,rfl,hobj,hints,hlen⟩:=script_of hn hpre hwl
 refine enter_call (codeAny_mono (call w s₀ s₁ mg mb fa o pm cd doc a vs ns G Y ho (fd_plain hd) hcd hmg hobj hints hlen hg) fun r s' hq=>?_)
 obtain ⟨rfl,h2,h3,h4⟩:=hq
 exact ⟨.inl ⟨.bool true,.bool true,[],rfl,fun _=>rfl,.bool true,post_true l _,fun _=>⟨List.Pairwise.nil,fun _ hm=>(nomatch hm)⟩⟩,h2,h3,h4⟩
section
variable{prog:Program}{w:World}{A:Around}{E:Value→Shared→Prop}{s:Shared}{K:Frag}
end
end Att
namespace L2
open PySem PySem.Spec PyProof.Rows
theorem vals_ints:∀{vs:List Value} {ns:List Int},IntsAre vs ns→Vals (ns.map V.int) vs
 | _,_,.nil=>.nil
 | _,_,.cons n t h=>.cons ⟨t,rfl⟩ (vals_ints h)
def Only(H:Hp):Prop:=∀b,H b=none∨∃o xs,H b=some (.frz o (.lst xs))
theorem law_call{P:Program}{w:World}{K:PySem.W.Frag}{mg mb:Str→Option Value}{CX:CXT}{k:Nat}{fa a:Addr}{fd:FuncData}{x:Str}{sp:Sp}{s₁ : Shared}{vs:List Value}{ns:List Int}
  (KX:K.In s₁.heap) (hns:s₁.heap.Ns mainGlobals mg) (hb:s₁.heap.Ns builtinsNs mb) (hbb:∀x:Str,x≠"__name__"→mb x=bootBuiltins x) (hlim:s₁.heap.NoLimit) (hg:s₁.gens = #[])
  (ha:s₁.heap.get? a=some { cls:=.type "list",data:=.seq vs.toArray }) (hi:IntsAre vs ns) (hl:ns.length≤sizeLine) (hr:Room k callerA)
  (F:∀base:Heap,K.In base→base.Ns mainGlobals mg→FnOk P w K mg base CX k fa fd [x] sp) (hbind:∀(s:Shared) (u:Value),BindsTo s fd ⟨[u],[]⟩ [(x,u)])
  (hsp:∀H:Hp,Only H→SqL K H a (ns.map V.int)→sp [.ref a] H (fun v _=>v = .bl true) fun _ _ _=>False)
  (hCX:∀H e s',CX [] H s₁ (fun _ _ _=>False) e s'→False) :
  codeAny (model P w) callerA (.call (.ref fa) ⟨[.ref a],[]⟩) (fun r s'=>r = .ok (.ret (.bool true))∧OldK s₁.heap s'.heap∧s'.os=s₁.os∧AllBare s'.gens) s₁:=by
 have rv:=vals_ints hi
 have lenV:=hi.length
 have core:∀H:Hp,Only H→SqL K H a (ns.map V.int)→HOk P w H s₁.heap→(∀b,H b≠none→b=a)→(H a≠none→K.lookup a=none) →
   codeAny (model P w) callerA (.call (.ref fa) ⟨[.ref a],[]⟩) (fun r s'=>r = .ok (.ret (.bool true))∧OldK s₁.heap s'.heap∧s'.os=s₁.os∧AllBare s'.gens) s₁:=by
  intro H hO hS hok hA hK
  have base_of:∀{b:Addr} {o:Obj},s₁.heap.get? b=some o→H b=none→(hidT s₁.heap H).get? b=some o:=fun e n=>hidT_get e n
  have noA:∀{b:Addr} {o:Obj} {es:Array DictEntry} {ep:Nat},s₁.heap.get? b=some o→o.data = .dict es ep→H b=none:=fun {b o es ep} e d=>by
   cases q:H b with
   | none=>rfl
   | some u =>
    have e':b=a:=hA b (by rw [q];simp)
    subst e'
    rw [ha] at e;cases e
    have d':Data.seq vs.toArray _=Data.dict es ep:=d
    cases d'
  have nsK:∀{b:Addr} {m:Str→Option Value},s₁.heap.Ns b m→(hidT s₁.heap H).Ns b m:=fun {b m} ⟨o,es,ep,e,d,r⟩=>⟨o,es,ep,base_of e (noA e d),d,r⟩
  have hKb:K.In (hidT s₁.heap H):=fun b o e=>base_of (KX b o e) (by
   cases q:H b with
   | none=>rfl
   | some u =>
    have e':b=a:=hA b (by rw [q];simp)
    subst e'
    rw [hK (by rw [q];simp)] at e;cases e)
  have hM:Mod K mg (hidT s₁.heap H):=⟨hKb,nsK hns,⟨mb,nsK hb,hbb⟩,let ⟨mc,h1,h2⟩:=hlim;⟨mc,nsK h1,h2⟩⟩
  have e0:Env0 P w K mg (hidT s₁.heap H) callerA [] s₁ H:=⟨rfl,hM,fun b o e=>of_hidT e,Nat.le_of_eq (hidT_size _ _),trivial,fun b hb=>absurd (show b∈([]:List Addr) from hb) (by simp),hok,.of_eq hg⟩
  refine codeAny_mono ((F _ hKb (nsK hns)).run callerA [] s₁ H ⟨[.ref a],[]⟩ [.ref a] [.ref a] _ _ hr e0 (hbind s₁ (.ref a)) (.cons rfl .nil) (hsp H hO hS)) fun r s' h=>?_
  cases r with
  | error e=>exact (hCX H e s' h).elim
  | ok fl =>
   cases fl with
   | next=>exact False.elim h
   | brk=>exact False.elim h
   | cont=>exact False.elim h
   | ret u =>
    obtain ⟨v,H',os,bare,un,hok',r',q⟩:=h
    have q':v = .bl true:=q
    subst q'
    obtain rfl:u=Value.bool true:=r'
    refine ⟨rfl,OldK.of_keep fun b o e=>?_,os,bare⟩
    cases q:H b with
    | none=>exact un.keep b o e q (by intro z;exact absurd (show b∈([]:List Addr) from z) (by simp)) (by simp)
    | some u =>
     rcases hO b with z | ⟨ob,xs,z⟩
     ·rw [q] at z;cases z
     ·have z2:=un.frzs b ob _ z
      obtain ⟨e1,_⟩:=hok b _ z
      obtain ⟨e2,_⟩:=hok' b _ z2
      rw [e] at e1;cases e1
      exact e2
 cases hk:K.lookup a with
 | some o =>
  have e:=KX a o hk
  rw [ha] at e
  cases e
  refine core (fun _=>none) (fun _=>.inl rfl) (.inr ⟨_,vs.toArray,_,hk,rfl,rfl,rfl,by rw [List.size_toArray,lenV];exact hl,by simpa using rv⟩) (fun b u z=>by have z':(none:Option HO)=some u:=z;cases z') (fun b z=>absurd rfl z) fun z=>absurd rfl z
 | none =>
  refine core (fun b=>if b=a then some (.frz { cls:=.type "list",data:=.seq vs.toArray } (.lst (ns.map V.int))) else none) (fun b=>?_) (.inl (.inr ⟨{ cls:=.type "list",data:=.seq vs.toArray },if_pos rfl⟩)) (fun b u z=>?_) (fun b z=>?_) fun _=>hk
  ·by_cases hb:b=a
   ·exact .inr ⟨_,_,if_pos hb⟩
   ·exact .inl (if_neg hb)
  ·by_cases hb:b=a
   ·have z':=(if_pos hb).symm.trans z
    cases z'
    subst hb
    exact ⟨ha,by rw [List.length_map];exact hl,vs,_,rv,ha⟩
   ·have z':=(if_neg hb).symm.trans z
    cases z'
  ·by_cases hb:b=a
   ·exact hb
   ·exact absurd (if_neg hb) z
end L2
namespace L2
open PySem PySem.Spec PyProof.Rows
theorem walk_of{l:PySem.W.OpenLaw}{n k:Nat}{q:Program}{loose:List Str}{XP:(Str→Option Value)→Heap→Prop}{YP:World→Heap→Prop}{d:DefRec}{K:Params→PySem.W.Frag}{CX:World→CXT}{sp:World→Sp}{x:Str}
  (hn:l.most=some n) (hn2:n≤sizeLine) (hdf:d.params.defaults=[]) (hr:Room k callerA)
  (hY:∀(w:World) (h:Heap),YP w h→(K w.params).In h)
  (F:∀(w:World) (mg:Str→Option Value) (fa:Addr) (h:Heap),(K w.params).In h→h.Ns mainGlobals mg→mg d.name=some (.ref fa) →
   ∃fd:FuncData,(∀(s:Shared) (u:Value),BindsTo s fd ⟨[u],[]⟩ [(x,u)]) ∧
    ∀base:Heap,(K w.params).In base→base.Ns mainGlobals mg→FnOk l.prog w (K w.params) mg base (CX w) k fa fd [x] (sp w))
  (hsp:∀(w:World) (H:Hp) (a:Addr) (ns:List Int),ns.length≤n→Only H→SqL (K w.params) H a (ns.map V.int)→sp w [.ref a] H (fun v _=>v = .bl true) fun _ _ _=>False)
  (hCX:∀(w:World) (H:Hp) (s:Shared) (e:Value) (s':Shared),CX w [] H s (fun _ _ _=>False) e s'→False) :
  PySem.W.WalkO q loose XP YP l.row.toRowW d [] (fun f vs=>PySem.call f vs):=by
 refine Att.attach_call hn hdf fun w s₀ s₁ mg mb fa o pm cd doc a vs ns G Y ho hd hcd hmg hobj hints hlen hg=>?_
 have KX:=hY w _ Y
 obtain ⟨fd,hb,hF⟩:=F w mg fa _ KX G.T.g hmg
 exact law_call KX G.T.g G.T.b G.T.builtins G.T.nolimit hg hobj hints (Nat.le_trans hlen hn2) hr hF hb (fun H hO hS=>hsp w H a ns hlen hO hS) fun H e s'=>hCX w H s₁ e s'
end L2
namespace L2
open PySem PySem.Spec PyProof.Rows
def defArgs(s:Stmt):Arguments:=match s with
 | .FunctionDef _ a _ _ _ _ _ _ _ _=>a
 | _=>{ posonlyargs:=[],args:=[],vararg:=none,kwonlyargs:=[],kw_defaults:=[],kwarg:=none,defaults:=[] }
def defBody(s:Stmt):List Stmt:=match s with
 | .FunctionDef _ _ b _ _ _ _ _ _ _=>b
 | _=>[]
def defScope(s:Stmt):Scope:=match s with
 | .FunctionDef _ _ _ _ _ _ sc _ _ _=>sc
 | _=>{ kind:=.function,names:=[],isGenerator:=false,isCoroutine:=false }
abbrev CX0:CXT:=fun _ _ _ _ _ _=>False
abbrev E0:XK:=fun _ _ _=>False
theorem pass0{X:Cx}:Passes CX0 X E0:=fun _ _ _ _ _ _ _ h=>h.elim
structure Fun (K:PySem.W.Frag) (x qual:Str) (st:Stmt) (f:Addr) (fd:FuncData):Prop where
 ex:∃(oc:Value) (od:Option Addr) (kV doc pm:Value) (an:Option Addr) (cdv ct:Value) (osl:Array (Option Value)),
  fd=PySem.W.fnOf x qual (defArgs st) (defBody st) (defScope st) .none kV doc pm an cdv ct∧K.lookup f=some ⟨oc,od,.func fd,osl⟩∧PySem.W.codeIn K cdv qual=true
 kp:PySem.W.keepIn K (.ref f)=true
section
variable{P:Program}{w:World}{K:PySem.W.Frag}{mg:Str→Option Value}{base:Heap}
theorem Fun.ok{x qual:Str}{st:Stmt}{f:Addr}{fd:FuncData}{N ps:List Str}{k:Nat}{sp:Sp}(F:Fun K x qual st f fd)(S:FnScope N ps (defScope st))(len:∀vs H Q E,sp vs H Q E→vs.length=ps.length)
  (hbody:∀(cdv:Value) (A:Around) (outer:List Env) (s:Shared) (H:Hp) (vs:List V) (Q:VK) (E:XK),Room k (A.deeper (envOfC qual (defScope st) s.heap.objs.size f cdv))→sp vs H Q E →
   ∃t,PSs (cxOf CX0 P w K mg base N qual (defScope st) f cdv A outer s H E).nox (defBody st) t∧t { nx:=fun _ H'=>Q .non H',rt:=Q } (start N vs) H):FnOk P w K mg base CX0 (k+1) f fd ps sp:=by
 obtain ⟨oc,od,kV,doc,pm,an,cdv,ct,osl,rfl,lk,hcd⟩:=F.ex
 refine fn_of lk hcd S len fun A outer s H vs Q E hr hsp=>?_
 obtain ⟨t,h,q⟩:=hbody cdv A outer s H vs Q E hr hsp
 exact ⟨t,h.nox,q⟩
theorem Fun.binds{x qual:Str}{st:Stmt}{f:Addr}{fd:FuncData}{ps:List Str}(F:Fun K x qual st f fd)
  (h:∀(kV doc pm:Value) (an:Option Addr) (cdv ct:Value) (us:List Value),us.length=ps.length→bindArgs (PySem.W.fnOf x qual (defArgs st) (defBody st) (defScope st) .none kV doc pm an cdv ct) ⟨us,[]⟩=pure (ps.zip us)):Binds K fd ps []:=by
 obtain ⟨oc,od,kV,doc,pm,an,cdv,ct,osl,rfl,lk,hcd⟩:=F.ex
 exact .all (h kV doc pm an cdv ct)
theorem fun_mk{x qual:Str}{st:Stmt}{f:Addr}{oc:Value}{od an:Option Addr}{osl:Array (Option Value)}{kV doc pm cdv ct:Value}(l:K.lookup f=some ⟨oc,od,.func (PySem.W.fnOf x qual (defArgs st) (defBody st) (defScope st) .none kV doc pm an cdv ct),osl⟩)
  (c:PySem.W.codeIn K cdv qual=true) (k:PySem.W.keepIn K (.ref f)=true):Fun K x qual st f (PySem.W.fnOf x qual (defArgs st) (defBody st) (defScope st) .none kV doc pm an cdv ct):=⟨⟨oc,od,kV,doc,pm,an,cdv,ct,osl,rfl,l,c⟩,k⟩
end
theorem small1000{n:Nat}(h:n≤1000):n < sizeLine:=Nat.lt_of_le_of_lt h (by decide)
section
variable{X:Cx}
theorem pv (i:Nat) {x:Str} {pos:Pos} (hN:X.N[i]? = some x:=by rfl) (hv:Vis X.env.scope x:=by first | exact Or.inl rfl | exact Or.inr (Or.inl rfl) | exact Or.inr (Or.inr rfl)) (hd:(x == ("__debug__" : Str))=false:=by decide)
  (hcd:(x == ("__classdict__" : Str))=false:=by decide):PE X (.Name x pos) (tVar i):=pe_var hN hv hd hcd
end
theorem iteF{A B:Prop}(h:B):if false=true then A else B:=by
 rw [if_neg Bool.false_ne_true]
 exact h
theorem iteT{A B:Prop}(h:A):if true=true then A else B:=by
 rw [if_pos rfl]
 exact h
def Same(H H':Hp):Prop:=∀b o,H b=some o→H' b=some o
theorem Same.refl(H:Hp):Same H H:=fun _ _ h=>h
theorem Same.trans{H H1 H2:Hp}(a:Same H H1)(b:Same H1 H2):Same H H2:=fun c o h=>b c o (a c o h)
theorem Same.free{H H':Hp}(e:Same H H'){l:Addr}(h:H' l=Option.none):H l=Option.none:=by
 cases q:H l with
 | none=>rfl
 | some o =>
  rw [e l o q] at h
  cases h
theorem Same.seq{K:PySem.W.Frag}{H H':Hp}{a:Addr}{xs:List V}(e:Same H H')(h:SqL K H a xs):SqL K H' a xs:=by
 rcases h with (h | ⟨o,h⟩) | h
 ·exact .inl (.inl (e _ _ h))
 ·exact .inl (.inr ⟨o,e _ _ h⟩)
 ·exact .inr h
end L2
namespace L2
open PySem PySem.Spec PyProof.Rows
section
variable{κ : Type}[DecidableEq κ]
def valV(kvs:List (κ×V))(k : κ):Option V:=(kvs.find? fun kv=>decide (kv.1=k)).map (·.2)
def putK(kvs:List (κ×V))(k : κ)(v:V):List (κ×V) :=
 if (kvs.any fun kv=>decide (kv.1=k))=true then kvs.map (fun kv=>if kv.1=k then (kv.1,v) else kv) else kvs++[(k,v)]
theorem valV_pos{p : κ×V}{r:List (κ×V)}{k : κ}(e:p.1=k):valV (p :: r) k=some p.2:=by simp [valV,List.find?_cons,e]
theorem valV_neg{p : κ×V}{r:List (κ×V)}{k : κ}(e : ¬ p.1=k):valV (p :: r) k=valV r k:=by simp [valV,List.find?_cons,e]
theorem valV_any(k : κ):∀kvs:List (κ×V),(kvs.any fun kv=>decide (kv.1=k))=(valV kvs k).isSome
 | []=>rfl
 | p :: r=>by
  rw [List.any_cons]
  by_cases e:p.1=k
  ·simp only [valV_pos e,decide_eq_true e,Bool.true_or,Option.isSome_some]
  ·rw [valV_neg e,decide_eq_false e,Bool.false_or];exact valV_any k r
theorem valV_map(k j : κ)(y:V):∀kvs:List (κ×V),valV (kvs.map fun kv=>if kv.1=k then (kv.1,y) else kv) j=(valV kvs j).map fun x=>if j=k then y else x
 | []=>rfl
 | p :: r=>by
  have ih:=valV_map k j y r
  rw [List.map_cons]
  by_cases h:p.1=k
  ·rw [if_pos h]
   by_cases e:p.1=j
   ·rw [valV_pos (p:=(p.1,y)) e,valV_pos e,Option.map_some,if_pos (e.symm.trans h)]
   ·rw [valV_neg (p:=(p.1,y)) e,valV_neg e,ih]
  ·rw [if_neg h]
   by_cases e:p.1=j
   ·rw [valV_pos (p:=p) e,valV_pos e,Option.map_some,if_neg (fun z=>h (e.trans z))]
   ·rw [valV_neg (p:=p) e,valV_neg e,ih]
theorem valV_snoc(k j : κ)(y:V):∀kvs:List (κ×V),valV kvs k=none→valV (kvs++[(k,y)]) j=if j=k then some y else valV kvs j
 | [],_=>by
  by_cases e:k=j
  ·rw [if_pos e.symm];exact valV_pos (p:=(k,y)) e
  ·rw [if_neg (fun z=>e z.symm)];exact valV_neg (p:=(k,y)) e
 | p :: r,hn=>by
  rw [List.cons_append]
  have hk : ¬ p.1=k:=fun z=>by rw [valV_pos z] at hn;cases hn
  rw [valV_neg hk] at hn
  have ih:=valV_snoc k j y r hn
  by_cases e:p.1=j
  ·rw [valV_pos e,valV_pos e,if_neg (fun z=>hk (e.trans z))]
  ·rw [valV_neg e,valV_neg e,ih]
theorem valV_put(kvs:List (κ×V))(k j : κ)(y:V):valV (putK kvs k y) j=if j=k then some y else valV kvs j:=by
 unfold putK
 by_cases a:(kvs.any fun kv=>decide (kv.1=k))=true
 ·rw [if_pos a,valV_map]
  rw [valV_any] at a
  by_cases e:j=k
  ·obtain ⟨x,hx⟩:=Option.isSome_iff_exists.mp a
   rw [if_pos e,e,hx,Option.map_some,if_pos rfl]
  ·rw [if_neg e]
   cases valV kvs j with
   | none=>rfl
   | some x=>rw [Option.map_some,if_neg e]
 ·rw [if_neg a]
  refine valV_snoc k j y kvs ?_
  rw [valV_any] at a
  cases q:valV kvs k with
  | none=>rfl
  | some x=>rw [q] at a;exact (a rfl).elim
theorem length_putK(kvs:List (κ×V))(k : κ)(v:V):(putK kvs k v).length≤kvs.length+1:=by
 unfold putK
 split
 ·rw [List.length_map];omega
 ·rw [List.length_append,List.length_cons,List.length_nil];omega
theorem RelO.isSome_eq{o:Option V}{u:Option Value}(r:RelO o u):o.isSome=u.isSome:=by
 cases o with
 | none=>cases u with
  | none=>rfl
  | some _=>exact (show False from r).elim
 | some _=>cases u with
  | none=>exact (show False from r).elim
  | some _=>rfl
theorem KV.val{kvs:List (κ×V)}{vs:List (κ×Value)}(r:KV kvs vs)(k : κ):RelO (valV kvs k) (valueAt vs k):=by
 unfold KV at r
 induction r with
 | nil=>exact True.intro
 | @cons p q ps qs h t ih =>
  obtain ⟨h1,h2⟩:=h
  by_cases e:p.1=k
  ·have e':q.1=k:=h1.symm.trans e
   have b:valueAt (q :: qs) k=some q.2:=by simp [valueAt,List.find?_cons,e']
   rw [valV_pos e,b];exact h2
  ·have e' : ¬ q.1=k:=fun z=>e (h1.trans z)
   have b:valueAt (q :: qs) k=valueAt qs k:=by simp [valueAt,List.find?_cons,e']
   rw [valV_neg e,b];exact ih
theorem KV.any{kvs:List (κ×V)}{vs:List (κ×Value)}(r:KV kvs vs)(k : κ):(kvs.any fun kv=>decide (kv.1=k))=vs.any fun kv=>decide (kv.1=k):=by
 unfold KV at r
 induction r with
 | nil=>rfl
 | cons h t ih=>rw [List.any_cons,List.any_cons,ih,h.1]
theorem KV.repl{kvs:List (κ×V)}{vs:List (κ×Value)}(r:KV kvs vs)(k : κ){y:V}{u:Value}(ry:RelV y u) :
  KV (kvs.map fun kv=>if kv.1=k then (kv.1,y) else kv) (vs.map fun kv=>if kv.1=k then (kv.1,u) else kv):=by
 unfold KV at r ⊢
 induction r with
 | nil=>exact .nil
 | @cons p q ps qs h t ih =>
  rw [List.map_cons,List.map_cons]
  refine .cons ?_ ih
  obtain ⟨h1,h2⟩:=h
  by_cases e:p.1=k
  ·rw [if_pos e,if_pos (h1.symm.trans e)];exact ⟨h1,ry⟩
  ·rw [if_neg e,if_neg (fun z=>e (h1.trans z))];exact ⟨h1,h2⟩
theorem KV.put{kvs:List (κ×V)}{vs:List (κ×Value)}(r:KV kvs vs)(k : κ){y:V}{u:Value}(ry:RelV y u):KV (putK kvs k y) (stored vs k u):=by
 unfold putK stored
 rw [r.any k]
 by_cases e:(vs.any fun kv=>decide (kv.1=k))=true
 ·rw [if_pos e,if_pos e];exact r.repl k ry
 ·rw [if_neg e,if_neg e];exact Paired.snoc r ⟨rfl,ry⟩
theorem KV.length{kvs:List (κ×V)}{vs:List (κ×Value)}(r:KV kvs vs):kvs.length=vs.length:=Paired.length r
end
theorem kV_is{P:Program}{w:World}{k:Key}{u:Value}(r:RelV (kV k) u):(mixKind P w).is k u=true:=by
 cases k with
 | inl i=>obtain ⟨t,e⟩:=(show ∃t,u=Value.int i t from r);subst e;exact mixKind_int P w i t
 | inr x=>obtain ⟨t,e⟩:=(show ∃t,u=Value.str x t from r);subst e;exact mixKind_str P w x t
theorem items_are{P:Program}{w:World}:∀{ks:List Key} {us:List Value},Vals (ks.map kV) us→ItemsAre (mixKind P w) ks us
 | [],_,r=>by rw [List.map_nil] at r;cases r;exact .nil
 | k :: ks,_,r=>by
  rw [List.map_cons] at r
  cases r with
  | cons h t=>exact .cons (kV_is h) (items_are t)
abbrev KT(H:Hp):List (List Key×V)→List (List Key×Addr×Value)→Prop:=Paired fun p q=>p.1=q.1∧H q.2.1=some (.tup (p.1.map kV))∧RelV p.2 q.2.2
theorem KT.val{H:Hp}{kvs:List (List Key×V)}{xs:List (List Key×Addr×Value)}(r:KT H kvs xs)(k:List Key):RelO (valV kvs k) ((atKey xs k).map (·.2)):=by
 induction r with
 | nil=>exact True.intro
 | @cons p q ps qs h t ih =>
  obtain ⟨h1,_,h2⟩:=h
  by_cases e:p.1=k
  ·have e':q.1=k:=h1.symm.trans e
   have b:atKey (q :: qs) k=some q.2:=by simp [atKey,List.find?_cons,e']
   rw [valV_pos e,b];exact h2
  ·have e' : ¬ q.1=k:=fun z=>e (h1.trans z)
   have b:atKey (q :: qs) k=atKey qs k:=by simp [atKey,List.find?_cons,e']
   rw [valV_neg e,b];exact ih
theorem KT.repl{H:Hp}{kvs:List (List Key×V)}{xs:List (List Key×Addr×Value)}(r:KT H kvs xs)(k:List Key){y:V}{u:Value}(ry:RelV y u) :
  KT H (kvs.map fun kv=>if kv.1=k then (kv.1,y) else kv) (xs.map (putAt k u)):=by
 induction r with
 | nil=>exact .nil
 | @cons p q ps qs h t ih =>
  rw [List.map_cons,List.map_cons]
  refine .cons ?_ ih
  obtain ⟨h1,h2,h3⟩:=h
  unfold putAt
  by_cases e:p.1=k
  ·rw [if_pos e,if_pos (h1.symm.trans e)];exact ⟨h1,h2,ry⟩
  ·rw [if_neg e,if_neg (fun z=>e (h1.trans z))];exact ⟨h1,h2,h3⟩
theorem KT.put{H:Hp}{kvs:List (List Key×V)}{xs:List (List Key×Addr×Value)}(r:KT H kvs xs)(k:List Key){b:Addr}{y:V}{u:Value}(hb:H b=some (.tup (k.map kV)))(ry:RelV y u) :
  KT H (putK kvs k y) (storedH xs k b u):=by
 have e:(kvs.any fun kv=>decide (kv.1=k))=(atKey xs k).isSome:=by
  rw [valV_any,(r.val k).isSome_eq,Option.isSome_map]
 unfold putK storedH
 rw [e]
 by_cases q:(atKey xs k).isSome=true
 ·rw [if_pos q,if_pos q];exact r.repl k ry
 ·rw [if_neg q,if_neg q];exact Paired.snoc r ⟨rfl,hb,ry⟩
theorem KT.keeps{H H':Hp}{kvs:List (List Key×V)}{xs:List (List Key×Addr×Value)}(r:KT H kvs xs)(ht:∀b ys,H b=some (.tup ys)→H' b=some (.tup ys)):KT H' kvs xs :=
 Paired.mapP r fun _ _ z=>⟨z.1,ht _ _ z.2.1,z.2.2⟩
section
variable{P:Program}{w:World}{H:Hp}{h:Heap}{a:Addr}
theorem rd_of{u:HO}(ok:HOk P w H h)(e:Rd H a u):ObjOk P w H h a u:=e.ok ok
theorem dk_rd{kvs:List (Key×V)}(ok:HOk P w H h)(e:Rd H a (.dK kvs)):kvs.length≤sizeLine∧(a == sysModules)=false∧∃vs,KV kvs vs∧h.DictOf (mixKind P w) a vs :=
 show ObjOk P w H h a (.dK kvs) from rd_of ok e
theorem dk_of{kvs:List (Key×V)}(ok:HOk P w H h)(e:H a=some (.dK kvs)):kvs.length≤sizeLine∧(a == sysModules)=false∧∃vs,KV kvs vs∧h.DictOf (mixKind P w) a vs:=dk_rd ok (.inl e)
theorem key_of{ks:List Key}(ok:HOk P w H h)(e:H a=some (.tup (ks.map kV))):(tupleKind (mixKind P w)).is h ks a:=by
 obtain ⟨_,its,r,o,h1,h2,n,h3⟩:=(show ObjOk P w H h a (.tup (ks.map kV)) from ok a _ e)
 exact ⟨o,its.toArray,n,h1,h2,h3,by simpa using items_are r⟩
theorem dt_rd{kvs:List (List Key×V)}(ok:HOk P w H h)(e:Rd H a (.dT kvs)):kvs.length≤sizeLine∧(a == sysModules)=false ∧
  ∃xs,KT H kvs xs∧h.DictOfH (tupleKind (mixKind P w)) a xs:=by
 obtain ⟨z,y,xs,r,o,es,ep,h1,h2,h3,h4,h5⟩:=(show ObjOk P w H h a (.dT kvs) from rd_of ok e)
 refine ⟨z,y,xs,r,o,es,ep,h1,h2,h3,h4,fun x hx=>?_,h5⟩
 have all:∀{l:List (List Key×V)} {m:List (List Key×Addr×Value)},KT H l m→∀x∈m,(tupleKind (mixKind P w)).is h x.1 x.2.1:=by
  intro l m q
  induction q with
  | nil=>intro x hx;exact nomatch hx
  | @cons p q ps qs hq t ih =>
   intro x hx
   rcases List.mem_cons.mp hx with e | hx
   ·subst e
    exact key_of ok (by rw [← hq.1];exact hq.2.1)
   ·exact ih x hx
 exact all r x hx
theorem dt_of{kvs:List (List Key×V)}(ok:HOk P w H h)(e:H a=some (.dT kvs)):kvs.length≤sizeLine∧(a == sysModules)=false ∧
  ∃xs,KT H kvs xs∧h.DictOfH (tupleKind (mixKind P w)) a xs:=dt_rd ok (.inl e)
end
def DGet(H:Hp)(a:Addr)(y:V)(r:Option V):Prop :=
 (∃kvs k,Rd H a (.dK kvs)∧y=kV k∧r=valV kvs k)∨∃kvs k b,Rd H a (.dT kvs)∧y = .ref b∧H b=some (.tup (k.map kV))∧r=valV kvs k
def DPut(H:Hp)(a:Addr)(y v:V)(H':Hp):Prop :=
 (∃kvs k,H a=some (.dK kvs)∧y=kV k∧kvs.length < sizeLine∧H'=upd H a (.dK (putK kvs k v))) ∨
 ∃kvs k b,H a=some (.dT kvs)∧y = .ref b∧H b=some (.tup (k.map kV))∧kvs.length < sizeLine∧H'=upd H a (.dT (putK kvs k v))
theorem DGet.t{H:Hp}{a b:Addr}{kvs:List (List Key×V)}{k:List Key}(e:H a=some (.dT kvs))(eb:H b=some (.tup (k.map kV))):DGet H a (.ref b) (valV kvs k):=.inr ⟨kvs,k,b,.inl e,rfl,eb,rfl⟩
theorem DPut.t{H:Hp}{a b:Addr}{kvs:List (List Key×V)}{k:List Key}{v:V}(e:H a=some (.dT kvs))(eb:H b=some (.tup (k.map kV)))(hl:kvs.length < sizeLine) :
  DPut H a (.ref b) v (upd H a (.dT (putK kvs k v))):=.inr ⟨kvs,k,b,e,rfl,eb,hl,rfl⟩
section
variable{X:Cx}{pins:List (Addr×Obj)}{σ : St}{H:Hp}{s:Shared}{a:Addr}{y v:V}{u r:Value}{o:Option V}{A:Around}{E:Value→Shared→Prop}
theorem Inv.big(I:Inv X pins σ H s):sysModules < s.heap.objs.size:=by
 have h:mainGlobals < s.heap.objs.size:=(I.mod.glob.keeps I.bk).lt
 exact Nat.lt_trans (by decide) h
theorem d_notIn{Q:Value→Shared→Prop}(hu:A.units+1 < cLine)(I:Inv X pins σ H s)(g:DGet H a y o)(ry:RelV y u)(h:∀s',Inv X pins σ H s'→Q (.bool (!o.isSome)) s') :
  wpAny (model X.prog X.w) A (compareOp .NotIn u (.ref a)) Q E s:=by
 rcases g with ⟨kvs,k,e,ey,l⟩ | ⟨kvs,k,b,e,ey,eb,l⟩
 ·subst ey
  obtain ⟨z,hd,vs,rel,dd⟩:=dk_rd I.hok e
  refine wpAny_notIn_of (kV_is ry) hd dd.mapOf ?_
  rw [← (rel.val k).isSome_eq,← l]
  exact h _ (I.tok _)
 ·subst ey
  cases (show u=Value.ref b from ry)
  obtain ⟨z,hd,xs,rel,dd⟩:=dt_rd I.hok e
  refine wpAny_notIn_heap (tupleKind_room_in1 hu) (key_of I.hok eb) hd dd ?_
  have q:=(rel.val k).isSome_eq
  rw [Option.isSome_map] at q
  rw [← q,← l]
  exact h _ (I.tok _)
theorem d_write{h':Heap}{t':Nat}{ob:HO}(I:Inv X pins σ H s)(mu:Mut (H a))(hs:Heap.SameBut a s.heap h')(he:∃q,h'.get? a=some q)(new:ObjOk X.prog X.w (upd H a ob) h' a ob) :
  Inv X pins σ (upd H a ob) { s with heap:=h',toks:=t' } :=
 I.write (x:=a) (e:=a) mu (.inl rfl) (fun b q hb z=>(hs.2 b hb).trans z) he new
theorem dk_new{P:Program}{w:World}{H':Hp}{h':Heap}{kvs:List (Key×V)}{vs:List (Key×Value)}(z:kvs.length≤sizeLine)(hd:(a == sysModules)=false)(rel:KV kvs vs)(dd:h'.DictOf (mixKind P w) a vs) :
  ObjOk P w H' h' a (.dK kvs):=⟨z,hd,vs,rel,dd⟩
theorem d_setItem{H':Hp}{Q:Unit→Shared→Prop}(hu:A.units+1 < cLine)(I:Inv X pins σ H s)(g:DPut H a y v H')(ry:RelV y u)(rv:RelV v r)(h:∀s',Inv X pins σ H' s'→Q () s') :
  wpAny (model X.prog X.w) A (setItem (.ref a) u r) Q E s:=by
 rcases g with ⟨kvs,k,e,ey,l,eH⟩ | ⟨kvs,k,b,e,ey,eb,l,eH⟩
 ·subst ey eH
  obtain ⟨z,hd,vs,rel,dd⟩:=dk_of I.hok e
  have hz:vs.length≤sizeLine:=by rw [← rel.length];exact z
  have hl:(putK kvs k v).length≤sizeLine:=by have:=length_putK kvs k v;omega
  refine wpAny_setItem_pairs (hsz:=hz) (kV_is ry) dd fun h' dd' hs=>h _ ?_
  have he:∃q,h'.get? a=some q:=let ⟨q,_,_,hq,_⟩:=dd';⟨q,hq⟩
  exact d_write I (by rw [e];exact True.intro) hs he (dk_new hl hd (rel.put k rv) dd')
 ·subst ey eH
  cases (show u=Value.ref b from ry)
  obtain ⟨z,hd,xs,rel,dd⟩:=dt_of I.hok e
  have hz:xs.length≤sizeLine:=by rw [← Paired.length rel];exact z
  have hl:(putK kvs k v).length≤sizeLine:=by have:=length_putK kvs k v;omega
  refine wpAny_setItem_heap (hsz:=hz) (tupleKind_room_in1 hu) (key_of I.hok eb) dd fun h' dd' hs=>h _ ?_
  obtain ⟨q,es,ep,hq,h2,h3,h4,_,h5⟩:=dd'
  refine d_write I (by rw [e];exact True.intro) hs ⟨q,hq⟩ ⟨hl,hd,_,(rel.put k eb rv).keeps fun c ys ec=>?_,q,es,ep,hq,h2,h3,h4,h5⟩
  rw [upd_ne (ne_of ec e (fun z=>nomatch z))]
  exact ec
end
section
variable{X:Cx}{pins:List (Addr×Obj)}{σ : St}{H:Hp}{s:Shared}{a:Addr}{kvs:List (Key×V)}{k:Key}{u:Value}{A:Around}{E:Value→Shared→Prop}
end
def tDNotIn(ty td:TE):TE:=fun σ H Q=>ty σ H fun y H1=>td σ H1 fun x H2=>∃a o,x = .ref a∧DGet H2 a y o∧Q (.bl (!o.isSome)) H2
def sDPut(td ty tv:TE):TS:=fun D σ H=>tv σ H fun v H1=>td σ H1 fun x H2=>ty σ H2 fun y H3=>∃a H4,x = .ref a∧DPut H3 a y v H4∧D.nx σ H4
section
variable{X:Cx}{o i e value:Expr}{pos pos' tpos:Pos}{td ty tv:TE}
theorem pc_dnotin(hu:X.A.units+1 < cLine)(hi:PE X i ty)(ho:PE X o td):PC X .NotIn i o (tDNotIn ty td):=by
 intro pins s σ H Q I h
 refine thn (hi pins s σ H _ I h) fun iv s1 ⟨y,H1,I1,ry,q1⟩=>thn (ho pins s1 σ H1 _ I1 q1) fun u s2 ⟨x,H2,I2,rx,a,ov,ex,g,q2⟩=>?_
 subst ex
 obtain rfl:u=Value.ref a:=rx
 exact d_notIn hu I2 g ry fun s3 I3=>⟨.bl (!ov.isSome),H2,I3,rfl,q2⟩
theorem ps_dput(hu:X.A.units+1 < cLine)(ho:PE X o td)(hi:PE X i ty)(hv:PE X value tv)(hs:swapsWith value (some (.Subscript o i pos')) pos.line X.env=pure false) :
  PS X (.Assign [.Subscript o i pos'] value pos) (sDPut td ty tv):=by
 intro pins s σ H D I h
 refine wpAny_Assign_Subscript (thn (hv pins s σ H _ I h) fun r s1 ⟨v,H1,I1,rv,q1⟩=>thn (ho pins s1 σ H1 _ I1 q1) fun u s2 ⟨x,H2,I2,rx,q2⟩=>thn (hi pins s2 σ H2 _ I2 q2) fun iv s3 ⟨y,H3,I3,ry,a,H4,ex,g,q3⟩=>?_) hs
 subst ex
 obtain rfl:u=Value.ref a:=rx
 exact d_setItem hu I3 g ry rv fun s4 I4=>⟨σ,H4,I4,q3⟩
end
theorem dt_empty {P:Program} {w:World} {H:Hp} (h:Heap) (hb:sysModules < h.objs.size):ObjOk P w H (h.push { cls:=.type "dict",data:=.dict #[] }) h.objs.size (.dT []) :=
 ⟨Nat.zero_le _,beq_eq_false_iff_ne.mpr (Ne.symm (Nat.ne_of_lt hb)),[],.nil,_,#[],0,Heap.get?_push_size _ rfl,⟨rfl,rfl,rfl⟩,rfl,rfl,List.nodup_nil⟩
section
variable{X:Cx}{pos:Pos}
end
section
variable{X:Cx}{pins:List (Addr×Obj)}{σ : St}{H:Hp}{s:Shared}{a:Addr}{y d:V}{u r:Value}{o:Option V}{A:Around}{E:Value→Shared→Prop}
end
section
variable{X:Cx}{o e f:Expr}{apos cpos:Pos}{td ty tx:TE}
end
section
variable{X:Cx}{pins:List (Addr×Obj)}{σ : St}{H:Hp}{s:Shared}{a:Addr}{kvs:List (Key×V)}{A:Around}{E:Value→Shared→Prop}
end
section
variable{X:Cx}{pins:List (Addr×Obj)}{σ : St}{H:Hp}{s:Shared}{a:Addr}{y:V}{u:Value}{A:Around}{E:Value→Shared→Prop}
end
end L2
namespace L2
open PySem PySem.Spec PyProof.Rows
section
variable{X:Cx}
end
end L2
set_option Elab.async false
set_option linter.all false
set_option maxRecDepth 100000
set_option maxHeartbeats 4000000
namespace K33H
open PySem PySem.Spec PyProof.Rows L2
def top(i:Nat):Stmt:=PySem.Challenge.pw_vesselhall_k33_all_counts_come_to.main.body.getD i (.Pass ⟨0,0,0,0⟩)
def ini(i:Nat):Stmt:=match top i with
 | .ClassDef _ _ _ b _ _ _ _ _ _ _=>b.getD 0 (.Pass ⟨0,0,0,0⟩)
 | _=>.Pass ⟨0,0,0,0⟩
def spLaw(K:PySem.W.Frag):Sp:=fun vs H Q _=>∃(a:Addr) (ns:List Int),vs=[.ref a]∧SqL K H a (ns.map V.int)∧ns.length≤63∧∀H',Q (.bl true) H'
theorem walk{l:PySem.W.OpenLaw}{q:Program}{loose:List Str}{XP:(Str→Option Value)→Heap→Prop}{YP:World→Heap→Prop}{d:DefRec}{K:Params→PySem.W.Frag}(hn:l.most=some 63)(hdf:d.params.defaults=[])
  (hY:∀(w:World) (h:Heap),YP w h→(K w.params).In h)
  (F:∀(w:World) (mg:Str→Option Value) (fa:Addr) (h:Heap),(K w.params).In h→h.Ns mainGlobals mg→mg d.name=some (.ref fa) →
   ∃fd:FuncData,(∀(s:Shared) (u:Value),BindsTo s fd ⟨[u],[]⟩ [("_law_script",u)])∧∀base:Heap,(K w.params).In base→base.Ns mainGlobals mg→FnOk l.prog w (K w.params) mg base CX0 9 fa fd ["_law_script"] (spLaw (K w.params))) :
  PySem.W.WalkO q loose XP YP l.row.toRowW d [] (fun f vs=>PySem.call f vs) :=
 L2.walk_of (n:=63) (k:=9) (x:="_law_script") (CX:=fun _=>CX0) (sp:=fun w=>spLaw (K w.params)) hn (by decide) hdf ⟨rfl,by decide,by decide⟩ hY F (fun _ _ a ns hl _ hS=>⟨a,ns,rfl,hS,hl,fun _=>rfl⟩) fun _ _ _ _ _ z=>z
open PySem.W in
set_option maxRecDepth 100000 in
set_option maxHeartbeats 0 in
theorem headed (hW:∀{w:World} {K:PySem.W.Frag} {h:Heap} {mg:Str→Option Value} {fa f0 f1 f2 f3 f4 f5 f6 f7 f8 f9 f10 f11 f12 f13 f14 f15 f16 f17 f18 f19 f20 f21 f22 f23 f24 f25:Addr} (X:K.In h) (G:h.Ns mainGlobals mg) (hfa:mg "law" = some (.ref fa))
  {od0 an0 od1 an1 od2 an2 od3 an3 od4 an4 od5 an5 od6 an6 od7 an7 od8 an8 od9 an9 od10 an10 od11 an11 od12 an12 od13 an13 od14 an14 od15 an15 od16 an16 od17 an17 od18 an18 od19 an19 od20 an20 od21 an21 od22 an22 od23 an23 od24 an24 od25 an25:Option Addr} {sl0 sl1 sl2 sl3 sl4 sl5 sl6 sl7 sl8 sl9 sl10 sl11 sl12 sl13 sl14 sl15 sl16 sl17 sl18 sl19 sl20 sl21 sl22 sl23 sl24 sl25:Array (Option Value)} {oc0 kV0 dc0 pm0 cd0 ct0 oc1 kV1 dc1 pm1 cd1 ct1 oc2 kV2 dc2 pm2 cd2 ct2 oc3 kV3 dc3 pm3 cd3 ct3 oc4 kV4 dc4 pm4 cd4 ct4 oc5 kV5 dc5 pm5 cd5 ct5 oc6 kV6 dc6 pm6 cd6 ct6 oc7 kV7 dc7 pm7 cd7 ct7 oc8 kV8 dc8 pm8 cd8 ct8 oc9 kV9 dc9 pm9 cd9 ct9 oc10 kV10 dc10 pm10 cd10 ct10 oc11 kV11 dc11 pm11 cd11 ct11 oc12 kV12 dc12 pm12 cd12 ct12 oc13 kV13 dc13 pm13 cd13 ct13 oc14 kV14 dc14 pm14 cd14 ct14 oc15 kV15 dc15 pm15 cd15 ct15 oc16 kV16 dc16 pm16 cd16 ct16 oc17 kV17 dc17 pm17 cd17 ct17 oc18 kV18 dc18 pm18 cd18 ct18 oc19 kV19 dc19 pm19 cd19 ct19 oc20 kV20 dc20 pm20 cd20 ct20 oc21 kV21 dc21 pm21 cd21 ct21 oc22 kV22 dc22 pm22 cd22 ct22 oc23 kV23 dc23 pm23 cd23 ct23 oc24 kV24 dc24 pm24 cd24 ct24 oc25 kV25 dc25 pm25 cd25 ct25:Value}
  (a0:PySem.W.nsIn K mainGlobals "can_be_made" = some (some (.ref f0))) (l0:K.lookup f0=some ⟨oc0,od0,.func (PySem.W.fnOf "can_be_made" "can_be_made" (defArgs (top 18)) (defBody (top 18)) (defScope (top 18)) .none kV0 dc0 pm0 an0 cd0 ct0),sl0⟩) (c0:PySem.W.codeIn K cd0 "can_be_made" = true) (k0:PySem.W.keepIn K (.ref f0)=true)
  (a1:PySem.W.nsIn K mainGlobals "count_behind" = some (some (.ref f1))) (l1:K.lookup f1=some ⟨oc1,od1,.func (PySem.W.fnOf "count_behind" "count_behind" (defArgs (top 19)) (defBody (top 19)) (defScope (top 19)) .none kV1 dc1 pm1 an1 cd1 ct1),sl1⟩) (c1:PySem.W.codeIn K cd1 "count_behind" = true) (k1:PySem.W.keepIn K (.ref f1)=true)
  (a2:PySem.W.nsIn K mainGlobals "steps_on" = some (some (.ref f2))) (l2:K.lookup f2=some ⟨oc2,od2,.func (PySem.W.fnOf "steps_on" "steps_on" (defArgs (top 20)) (defBody (top 20)) (defScope (top 20)) .none kV2 dc2 pm2 an2 cd2 ct2),sl2⟩) (c2:PySem.W.codeIn K cd2 "steps_on" = true) (k2:PySem.W.keepIn K (.ref f2)=true)
  (a3:PySem.W.nsIn K mainGlobals "comings" = some (some (.ref f3))) (l3:K.lookup f3=some ⟨oc3,od3,.func (PySem.W.fnOf "comings" "comings" (defArgs (top 21)) (defBody (top 21)) (defScope (top 21)) .none kV3 dc3 pm3 an3 cd3 ct3),sl3⟩) (c3:PySem.W.codeIn K cd3 "comings" = true) (k3:PySem.W.keepIn K (.ref f3)=true)
  (a4:PySem.W.nsIn K mainGlobals "_law_cell_at" = some (some (.ref f4))) (l4:K.lookup f4=some ⟨oc4,od4,.func (PySem.W.fnOf "_law_cell_at" "_law_cell_at" (defArgs (top 23)) (defBody (top 23)) (defScope (top 23)) .none kV4 dc4 pm4 an4 cd4 ct4),sl4⟩) (c4:PySem.W.codeIn K cd4 "_law_cell_at" = true) (k4:PySem.W.keepIn K (.ref f4)=true)
  (a5:PySem.W.nsIn K mainGlobals "_law_mixed" = some (some (.ref f5))) (l5:K.lookup f5=some ⟨oc5,od5,.func (PySem.W.fnOf "_law_mixed" "_law_mixed" (defArgs (top 24)) (defBody (top 24)) (defScope (top 24)) .none kV5 dc5 pm5 an5 cd5 ct5),sl5⟩) (c5:PySem.W.codeIn K cd5 "_law_mixed" = true) (k5:PySem.W.keepIn K (.ref f5)=true)
  (a6:PySem.W.nsIn K mainGlobals "_law_divisor" = some (some (.ref f6))) (l6:K.lookup f6=some ⟨oc6,od6,.func (PySem.W.fnOf "_law_divisor" "_law_divisor" (defArgs (top 25)) (defBody (top 25)) (defScope (top 25)) .none kV6 dc6 pm6 an6 cd6 ct6),sl6⟩) (c6:PySem.W.codeIn K cd6 "_law_divisor" = true) (k6:PySem.W.keepIn K (.ref f6)=true)
  (a7:PySem.W.nsIn K mainGlobals "_law_lowest" = some (some (.ref f7))) (l7:K.lookup f7=some ⟨oc7,od7,.func (PySem.W.fnOf "_law_lowest" "_law_lowest" (defArgs (top 26)) (defBody (top 26)) (defScope (top 26)) .none kV7 dc7 pm7 an7 cd7 ct7),sl7⟩) (c7:PySem.W.codeIn K cd7 "_law_lowest" = true) (k7:PySem.W.keepIn K (.ref f7)=true)
  (a8:PySem.W.nsIn K mainGlobals "_law_base" = some (some (.ref f8))) (l8:K.lookup f8=some ⟨oc8,od8,.func (PySem.W.fnOf "_law_base" "_law_base" (defArgs (top 27)) (defBody (top 27)) (defScope (top 27)) .none kV8 dc8 pm8 an8 cd8 ct8),sl8⟩) (c8:PySem.W.codeIn K cd8 "_law_base" = true) (k8:PySem.W.keepIn K (.ref f8)=true)
  (a9:PySem.W.nsIn K mainGlobals "_law_word" = some (some (.ref f9))) (l9:K.lookup f9=some ⟨oc9,od9,.func (PySem.W.fnOf "_law_word" "_law_word" (defArgs (top 28)) (defBody (top 28)) (defScope (top 28)) .none kV9 dc9 pm9 an9 cd9 ct9),sl9⟩) (c9:PySem.W.codeIn K cd9 "_law_word" = true) (k9:PySem.W.keepIn K (.ref f9)=true)
  (a10:PySem.W.nsIn K mainGlobals "_law_words" = some (some (.ref f10))) (l10:K.lookup f10=some ⟨oc10,od10,.func (PySem.W.fnOf "_law_words" "_law_words" (defArgs (top 29)) (defBody (top 29)) (defScope (top 29)) .none kV10 dc10 pm10 an10 cd10 ct10),sl10⟩) (c10:PySem.W.codeIn K cd10 "_law_words" = true) (k10:PySem.W.keepIn K (.ref f10)=true)
  (a11:PySem.W.nsIn K mainGlobals "_law_heap" = some (some (.ref f11))) (l11:K.lookup f11=some ⟨oc11,od11,.func (PySem.W.fnOf "_law_heap" "_law_heap" (defArgs (top 30)) (defBody (top 30)) (defScope (top 30)) .none kV11 dc11 pm11 an11 cd11 ct11),sl11⟩) (c11:PySem.W.codeIn K cd11 "_law_heap" = true) (k11:PySem.W.keepIn K (.ref f11)=true)
  (a12:PySem.W.nsIn K mainGlobals "_law_pool" = some (some (.ref f12))) (l12:K.lookup f12=some ⟨oc12,od12,.func (PySem.W.fnOf "_law_pool" "_law_pool" (defArgs (top 31)) (defBody (top 31)) (defScope (top 31)) .none kV12 dc12 pm12 an12 cd12 ct12),sl12⟩) (c12:PySem.W.codeIn K cd12 "_law_pool" = true) (k12:PySem.W.keepIn K (.ref f12)=true)
  (a13:PySem.W.nsIn K mainGlobals "_law_pace" = some (some (.ref f13))) (l13:K.lookup f13=some ⟨oc13,od13,.func (PySem.W.fnOf "_law_pace" "_law_pace" (defArgs (top 32)) (defBody (top 32)) (defScope (top 32)) .none kV13 dc13 pm13 an13 cd13 ct13),sl13⟩) (c13:PySem.W.codeIn K cd13 "_law_pace" = true) (k13:PySem.W.keepIn K (.ref f13)=true)
  (a14:PySem.W.nsIn K mainGlobals "_law_turnings" = some (some (.ref f14))) (l14:K.lookup f14=some ⟨oc14,od14,.func (PySem.W.fnOf "_law_turnings" "_law_turnings" (defArgs (top 33)) (defBody (top 33)) (defScope (top 33)) .none kV14 dc14 pm14 an14 cd14 ct14),sl14⟩) (c14:PySem.W.codeIn K cd14 "_law_turnings" = true) (k14:PySem.W.keepIn K (.ref f14)=true)
  (a15:PySem.W.nsIn K mainGlobals "_law_vessel" = some (some (.ref f15))) (l15:K.lookup f15=some ⟨oc15,od15,.func (PySem.W.fnOf "_law_vessel" "_law_vessel" (defArgs (top 34)) (defBody (top 34)) (defScope (top 34)) .none kV15 dc15 pm15 an15 cd15 ct15),sl15⟩) (c15:PySem.W.codeIn K cd15 "_law_vessel" = true) (k15:PySem.W.keepIn K (.ref f15)=true)
  (a16:PySem.W.nsIn K mainGlobals "_law_whole" = some (some (.ref f16))) (l16:K.lookup f16=some ⟨oc16,od16,.func (PySem.W.fnOf "_law_whole" "_law_whole" (defArgs (top 35)) (defBody (top 35)) (defScope (top 35)) .none kV16 dc16 pm16 an16 cd16 ct16),sl16⟩) (c16:PySem.W.codeIn K cd16 "_law_whole" = true) (k16:PySem.W.keepIn K (.ref f16)=true)
  (a17:PySem.W.nsIn K mainGlobals "_law_same" = some (some (.ref f17))) (l17:K.lookup f17=some ⟨oc17,od17,.func (PySem.W.fnOf "_law_same" "_law_same" (defArgs (top 36)) (defBody (top 36)) (defScope (top 36)) .none kV17 dc17 pm17 an17 cd17 ct17),sl17⟩) (c17:PySem.W.codeIn K cd17 "_law_same" = true) (k17:PySem.W.keepIn K (.ref f17)=true)
  (a18:PySem.W.nsIn K mainGlobals "_law_kinds" = some (some (.ref f18))) (l18:K.lookup f18=some ⟨oc18,od18,.func (PySem.W.fnOf "_law_kinds" "_law_kinds" (defArgs (top 37)) (defBody (top 37)) (defScope (top 37)) .none kV18 dc18 pm18 an18 cd18 ct18),sl18⟩) (c18:PySem.W.codeIn K cd18 "_law_kinds" = true) (k18:PySem.W.keepIn K (.ref f18)=true)
  (a19:PySem.W.nsIn K mainGlobals "_law_step" = some (some (.ref f19))) (l19:K.lookup f19=some ⟨oc19,od19,.func (PySem.W.fnOf "_law_step" "_law_step" (defArgs (top 38)) (defBody (top 38)) (defScope (top 38)) .none kV19 dc19 pm19 an19 cd19 ct19),sl19⟩) (c19:PySem.W.codeIn K cd19 "_law_step" = true) (k19:PySem.W.keepIn K (.ref f19)=true)
  (a20:PySem.W.nsIn K mainGlobals "_law_due" = some (some (.ref f20))) (l20:K.lookup f20=some ⟨oc20,od20,.func (PySem.W.fnOf "_law_due" "_law_due" (defArgs (top 39)) (defBody (top 39)) (defScope (top 39)) .none kV20 dc20 pm20 an20 cd20 ct20),sl20⟩) (c20:PySem.W.codeIn K cd20 "_law_due" = true) (k20:PySem.W.keepIn K (.ref f20)=true)
  (a21:PySem.W.nsIn K mainGlobals "_law_walks" = some (some (.ref f21))) (l21:K.lookup f21=some ⟨oc21,od21,.func (PySem.W.fnOf "_law_walks" "_law_walks" (defArgs (top 40)) (defBody (top 40)) (defScope (top 40)) .none kV21 dc21 pm21 an21 cd21 ct21),sl21⟩) (c21:PySem.W.codeIn K cd21 "_law_walks" = true) (k21:PySem.W.keepIn K (.ref f21)=true)
  (a22:PySem.W.nsIn K mainGlobals "_law_refused_well" = some (some (.ref f22))) (l22:K.lookup f22=some ⟨oc22,od22,.func (PySem.W.fnOf "_law_refused_well" "_law_refused_well" (defArgs (top 41)) (defBody (top 41)) (defScope (top 41)) .none kV22 dc22 pm22 an22 cd22 ct22),sl22⟩) (c22:PySem.W.codeIn K cd22 "_law_refused_well" = true) (k22:PySem.W.keepIn K (.ref f22)=true)
  (a23:PySem.W.nsIn K mainGlobals "_law_told" = some (some (.ref f23))) (l23:K.lookup f23=some ⟨oc23,od23,.func (PySem.W.fnOf "_law_told" "_law_told" (defArgs (top 42)) (defBody (top 42)) (defScope (top 42)) .none kV23 dc23 pm23 an23 cd23 ct23),sl23⟩) (c23:PySem.W.codeIn K cd23 "_law_told" = true) (k23:PySem.W.keepIn K (.ref f23)=true)
  (a24:PySem.W.nsIn K mainGlobals "_law_right" = some (some (.ref f24))) (l24:K.lookup f24=some ⟨oc24,od24,.func (PySem.W.fnOf "_law_right" "_law_right" (defArgs (top 43)) (defBody (top 43)) (defScope (top 43)) .none kV24 dc24 pm24 an24 cd24 ct24),sl24⟩) (c24:PySem.W.codeIn K cd24 "_law_right" = true) (k24:PySem.W.keepIn K (.ref f24)=true)
  (a25:PySem.W.nsIn K mainGlobals "law" = some (some (.ref f25))) (l25:K.lookup f25=some ⟨oc25,od25,.func (PySem.W.fnOf "law" "law" (defArgs (top 44)) (defBody (top 44)) (defScope (top 44)) .none kV25 dc25 pm25 an25 cd25 ct25),sl25⟩) (c25:PySem.W.codeIn K cd25 "law" = true) (k25:PySem.W.keepIn K (.ref f25)=true)
  (z_len:PySem.W.nsIn K mainGlobals "len" = some none)
  (z_abs:PySem.W.nsIn K mainGlobals "abs" = some none)
  (z_range:PySem.W.nsIn K mainGlobals "range" = some none)
  (z_isinstance:PySem.W.nsIn K mainGlobals "isinstance" = some none)
  (z_int:PySem.W.nsIn K mainGlobals "int" = some none)
  (z_bool:PySem.W.nsIn K mainGlobals "bool" = some none)
  (z_tuple:PySem.W.nsIn K mainGlobals "tuple" = some none)
  (z_list:PySem.W.nsIn K mainGlobals "list" = some none)
  (z_str:PySem.W.nsIn K mainGlobals "str" = some none)
  (z_zip:PySem.W.nsIn K mainGlobals "zip" = some none)
  (z_set:PySem.W.nsIn K mainGlobals "set" = some none)
  (z_all:PySem.W.nsIn K mainGlobals "all" = some none)
  (z_any:PySem.W.nsIn K mainGlobals "any" = some none)
  (z_min:PySem.W.nsIn K mainGlobals "min" = some none)
  (z_max:PySem.W.nsIn K mainGlobals "max" = some none)
  (z_sum:PySem.W.nsIn K mainGlobals "sum" = some none)
  (z_sorted:PySem.W.nsIn K mainGlobals "sorted" = some none)
  (z_enumerate:PySem.W.nsIn K mainGlobals "enumerate" = some none)
  (z_reversed:PySem.W.nsIn K mainGlobals "reversed" = some none)
  (z_dict:PySem.W.nsIn K mainGlobals "dict" = some none)
  (z_ord:PySem.W.nsIn K mainGlobals "ord" = some none)
  (z_divmod:PySem.W.nsIn K mainGlobals "divmod" = some none)
  {V q0 q1 q2 q3 q4 q5 q6 q7 q8 q9 q10 q11 q12 q13:Addr} {qd0 qd1 qd2 qd3 qd4 qd5 qd6 qd7 qd8 qd9 qd10 qd11 qd12 qd13:ClassData} {qdV:ClassData} {fi8 Ni8:Addr} {nmi8 qni8:Str} {bsi8 tli8 sui8:List Value} {hdi8 abi8:Bool} {sni8:List Str} {coi8:Option Bool} {ddi8 odi8 ani8:Option Addr} {kai8 kbi8 kci8 kdi8 kei8:Option Value} {oci8 kVi8 dci8 pmi8 cdi8 cti8:Value} {sli8:Array (Option Value)} {tk0:Tok}
  (aV:PySem.W.nsIn K mainGlobals "VesselError" = some (some (.ref V)))
  (xV:PySem.W.excIn K V [.type "ValueError",.type "Exception",.type "BaseException",.type "object"] "ValueError.__new__" = true)
  (zVE:PySem.W.nsIn K mainGlobals "ValueError" = some none)
  (gt:PySem.W.specialIn K (.builtin "object.__class__") "__get__" = some (some (.builtin "getset_descriptor.__get__")))
  (tk:PySem.W.takesIn K (.builtin "object.__class__")=some true)
  (sgV:PySem.W.specialIn K (.ref V) "__getattribute__" = some (some (.builtin "type.__getattribute__")))
  (rdV:PySem.W.readsIn K V (.type "type")=true)
  (fcV:PySem.W.findCls K (.ref V) (.type "type") "__init__" = some (.val (.builtin "ValueError.__init__")))
  (dV:PySem.W.clsIn K V=some qdV)
  (mV:qdV.mro=[.ref V]++[.type "ValueError",.type "Exception",.type "BaseException",.type "object"])
  (aC0:PySem.W.nsIn K mainGlobals "NoFraction" = some (some (.ref q0)))
  (tC0:PySem.W.typeIn K (.ref q0)=some (.type "type"))
  (dC0:PySem.W.clsIn K q0=some qd0)
  (aC1:PySem.W.nsIn K mainGlobals "NoStuffs" = some (some (.ref q1)))
  (tC1:PySem.W.typeIn K (.ref q1)=some (.type "type"))
  (dC1:PySem.W.clsIn K q1=some qd1)
  (aC2:PySem.W.nsIn K mainGlobals "NoHeap" = some (some (.ref q2)))
  (tC2:PySem.W.typeIn K (.ref q2)=some (.type "type"))
  (dC2:PySem.W.clsIn K q2=some qd2)
  (aC3:PySem.W.nsIn K mainGlobals "NoPace" = some (some (.ref q3)))
  (tC3:PySem.W.typeIn K (.ref q3)=some (.type "type"))
  (dC3:PySem.W.clsIn K q3=some qd3)
  (aC4:PySem.W.nsIn K mainGlobals "NoTurnings" = some (some (.ref q4)))
  (tC4:PySem.W.typeIn K (.ref q4)=some (.type "type"))
  (dC4:PySem.W.clsIn K q4=some qd4)
  (aC5:PySem.W.nsIn K mainGlobals "NoTurning" = some (some (.ref q5)))
  (tC5:PySem.W.typeIn K (.ref q5)=some (.type "type"))
  (dC5:PySem.W.clsIn K q5=some qd5)
  (aC6:PySem.W.nsIn K mainGlobals "NoText" = some (some (.ref q6)))
  (tC6:PySem.W.typeIn K (.ref q6)=some (.type "type"))
  (dC6:PySem.W.clsIn K q6=some qd6)
  (aC7:PySem.W.nsIn K mainGlobals "NotNow" = some (some (.ref q7)))
  (tC7:PySem.W.typeIn K (.ref q7)=some (.type "type"))
  (dC7:PySem.W.clsIn K q7=some qd7)
  (aC8:PySem.W.nsIn K mainGlobals "TooMany" = some (some (.ref q8)))
  (tC8:PySem.W.typeIn K (.ref q8)=some (.type "type"))
  (dC8:PySem.W.clsIn K q8=some qd8)
  (aC9:PySem.W.nsIn K mainGlobals "NoDrain" = some (some (.ref q9)))
  (tC9:PySem.W.typeIn K (.ref q9)=some (.type "type"))
  (dC9:PySem.W.clsIn K q9=some qd9)
  (aC10:PySem.W.nsIn K mainGlobals "NotEven" = some (some (.ref q10)))
  (tC10:PySem.W.typeIn K (.ref q10)=some (.type "type"))
  (dC10:PySem.W.clsIn K q10=some qd10)
  (aC11:PySem.W.nsIn K mainGlobals "NoStuff" = some (some (.ref q11)))
  (tC11:PySem.W.typeIn K (.ref q11)=some (.type "type"))
  (dC11:PySem.W.clsIn K q11=some qd11)
  (aC12:PySem.W.nsIn K mainGlobals "NoPieces" = some (some (.ref q12)))
  (tC12:PySem.W.typeIn K (.ref q12)=some (.type "type"))
  (dC12:PySem.W.clsIn K q12=some qd12)
  (aC13:PySem.W.nsIn K mainGlobals "NoDeed" = some (some (.ref q13)))
  (tC13:PySem.W.typeIn K (.ref q13)=some (.type "type"))
  (dC13:PySem.W.clsIn K q13=some qd13)
  (L8:K.lookup q8=some (excClassObj nmi8 qni8 q8 Ni8 bsi8 tli8 hdi8 sni8 sui8 abi8 coi8 ddi8 kai8 kbi8 kci8 kdi8 kei8 "ValueError.__new__"))
  (ni8:PySem.W.findIn K (.ref q8) "__init__" = some (some (.ref fi8)))
  (fn8:PySem.W.isFn K (.ref fi8)=true)
  (kq8:PySem.W.keepIn K (.ref q8)=true)
  (lf8:K.lookup fi8=some ⟨oci8,odi8,.func (PySem.W.fnOf "__init__" "TooMany.__init__" (defArgs (ini 10)) (defBody (ini 10)) (defScope (ini 10)) .none kVi8 dci8 pmi8 ani8 cdi8 cti8),sli8⟩)
  (cf8:PySem.W.codeIn K cdi8 "TooMany.__init__" = true)
  (kf8:PySem.W.keepIn K (.ref fi8)=true)
  (sa8:PySem.W.findIn K (.ref q8) "__setattr__" = some (some (.builtin "object.__setattr__")))
  (nf8:PySem.W.findIn K (.ref q8) "counts" = some none)
  (hd8:PySem.W.hasDictIn K q8=true)
  (mr8:qd8.mro=[.ref q8,.ref V]++[.type "ValueError",.type "Exception",.type "BaseException",.type "object"])
  (v8:PySem.W.mroIn K q8 (.ref V)=some true)
  (ga8:PySem.W.findIn K (.ref q8) "__getattribute__" = some (some (.builtin "BaseException.__getattribute__")))
  (hk8:PySem.W.findIn K (.ref q8) "__getattr__" = some none)
  (cl8:PySem.W.findIn K (.ref q8) "__class__" = some (some (.builtin "object.__class__")))
  (ob8:PySem.W.mroIn K q8 (.type "object")=some true)
  (be8:PySem.W.mroIn K q8 (.type "BaseException")=some true)
  (ve8:PySem.W.mroIn K q8 (.type "ValueError")=some true)
  (m8_0:PySem.W.mroIn K q8 (.ref q0)=some false)
  (m8_1:PySem.W.mroIn K q8 (.ref q1)=some false)
  (m8_2:PySem.W.mroIn K q8 (.ref q2)=some false)
  (m8_3:PySem.W.mroIn K q8 (.ref q3)=some false)
  (m8_4:PySem.W.mroIn K q8 (.ref q4)=some false)
  (m8_5:PySem.W.mroIn K q8 (.ref q5)=some false)
  (m8_6:PySem.W.mroIn K q8 (.ref q6)=some false)
  (m8_7:PySem.W.mroIn K q8 (.ref q7)=some false)
  (m8_8:PySem.W.mroIn K q8 (.ref q8)=some true)
  (m8_9:PySem.W.mroIn K q8 (.ref q9)=some false)
  (m8_10:PySem.W.mroIn K q8 (.ref q10)=some false)
  (m8_11:PySem.W.mroIn K q8 (.ref q11)=some false)
  (m8_12:PySem.W.mroIn K q8 (.ref q12)=some false)
  (m8_13:PySem.W.mroIn K q8 (.ref q13)=some false)
  (hcn0:PySem.W.nsIn K mainGlobals "MOST_COUNTS" = some (some (.int 60 tk0)))
  ,∃fd:FuncData,(∀(s:Shared) (v:Value),BindsTo s fd ⟨[v],[]⟩ [("_law_script",v)])∧∀base:Heap,K.In base→base.Ns mainGlobals mg→FnOk PySem.Challenge.rw_vesselhall_k33_all_counts_come_to.prog w K mg base CX0 9 fa fd ["_law_script"] (spLaw K)):PySem.Challenge.rw_vesselhall_k33_all_counts_come_to.Holds:=by
 refine said ?_
 w_on
 refine PySem.W.holds_open (q:=qv) (loose:=[]) (Xt:=fun s=>PySem.W.xlAt qv [] s && PySem.W.recOk [] s) (XP:=PySem.W.XL qv []) (Yf:=PySem.W.Hook.obs (PySem.W.kHook pre.heap_1 asl asl_ok)) (Ya:=PySem.W.Hook.val (PySem.W.kHook pre.heap_1 asl asl_ok)) (YP:=PySem.W.Hook.says (PySem.W.kHook pre.heap_1 asl asl_ok)) (N:=8374) hooks (PySem.W.Hook.of (PySem.W.kHook pre.heap_1 asl asl_ok)) (PySem.W.Hook.keeps (PySem.W.kHook pre.heap_1 asl asl_ok)) (fun s e=>PySem.W.xl_of s (Bool.and_eq_true_iff.mp e).1) PySem.W.XL.keeps (by rfl) (by rfl) (by rfl) (fun s e=>PySem.W.recFacts_of (Bool.and_eq_true_iff.mp e).2) (by rfl) (by first | assumption | decide +kernel) (by decide +kernel) ⟨rfl,rfl,rfl,rfl,rfl,by decide +kernel⟩ ?_ ?_
 ·clear hW;w_witness2
 k_fill
 refine walk (l:=PySem.Challenge.rw_vesselhall_k33_all_counts_come_to) rfl rfl (fun w h Y=>PySem.W.kIn_of Y) ?F
 case F =>
  intro w mg fa h KX G hmg
  refine' hW KX G hmg ?a0 ?l0 ?c0 ?k0 ?a1 ?l1 ?c1 ?k1 ?a2 ?l2 ?c2 ?k2 ?a3 ?l3 ?c3 ?k3 ?a4 ?l4 ?c4 ?k4 ?a5 ?l5 ?c5 ?k5 ?a6 ?l6 ?c6 ?k6 ?a7 ?l7 ?c7 ?k7 ?a8 ?l8 ?c8 ?k8 ?a9 ?l9 ?c9 ?k9 ?a10 ?l10 ?c10 ?k10 ?a11 ?l11 ?c11 ?k11 ?a12 ?l12 ?c12 ?k12 ?a13 ?l13 ?c13 ?k13 ?a14 ?l14 ?c14 ?k14 ?a15 ?l15 ?c15 ?k15 ?a16 ?l16 ?c16 ?k16 ?a17 ?l17 ?c17 ?k17 ?a18 ?l18 ?c18 ?k18 ?a19 ?l19 ?c19 ?k19 ?a20 ?l20 ?c20 ?k20 ?a21 ?l21 ?c21 ?k21 ?a22 ?l22 ?c22 ?k22 ?a23 ?l23 ?c23 ?k23 ?a24 ?l24 ?c24 ?k24 ?a25 ?l25 ?c25 ?k25 ?z_len ?z_abs ?z_range ?z_isinstance ?z_int ?z_bool ?z_tuple ?z_list ?z_str ?z_zip ?z_set ?z_all ?z_any ?z_min ?z_max ?z_sum ?z_sorted ?z_enumerate ?z_reversed ?z_dict ?z_ord ?z_divmod ?aV ?xV ?zVE ?gt ?tk ?sgV ?rdV ?fcV ?dV ?mV ?aC0 ?tC0 ?dC0 ?aC1 ?tC1 ?dC1 ?aC2 ?tC2 ?dC2 ?aC3 ?tC3 ?dC3 ?aC4 ?tC4 ?dC4 ?aC5 ?tC5 ?dC5 ?aC6 ?tC6 ?dC6 ?aC7 ?tC7 ?dC7 ?aC8 ?tC8 ?dC8 ?aC9 ?tC9 ?dC9 ?aC10 ?tC10 ?dC10 ?aC11 ?tC11 ?dC11 ?aC12 ?tC12 ?dC12 ?aC13 ?tC13 ?dC13 ?L8 ?ni8 ?fn8 ?kq8 ?lf8 ?cf8 ?kf8 ?sa8 ?nf8 ?hd8 ?mr8 ?v8 ?ga8 ?hk8 ?cl8 ?ob8 ?be8 ?ve8 ?m8_0 ?m8_1 ?m8_2 ?m8_3 ?m8_4 ?m8_5 ?m8_6 ?m8_7 ?m8_8 ?m8_9 ?m8_10 ?m8_11 ?m8_12 ?m8_13 ?hcn0
  (case a0=>k_is)
  (case l0=>k_is)
  (case c0=>k_is)
  (case k0=>k_is)
  (case a1=>k_is)
  (case l1=>k_is)
  (case c1=>k_is)
  (case k1=>k_is)
  (case a2=>k_is)
  (case l2=>k_is)
  (case c2=>k_is)
  (case k2=>k_is)
  (case a3=>k_is)
  (case l3=>k_is)
  (case c3=>k_is)
  (case k3=>k_is)
  (case a4=>k_is)
  (case l4=>k_is)
  (case c4=>k_is)
  (case k4=>k_is)
  (case a5=>k_is)
  (case l5=>k_is)
  (case c5=>k_is)
  (case k5=>k_is)
  (case a6=>k_is)
  (case l6=>k_is)
  (case c6=>k_is)
  (case k6=>k_is)
  (case a7=>k_is)
  (case l7=>k_is)
  (case c7=>k_is)
  (case k7=>k_is)
  (case a8=>k_is)
  (case l8=>k_is)
  (case c8=>k_is)
  (case k8=>k_is)
  (case a9=>k_is)
  (case l9=>k_is)
  (case c9=>k_is)
  (case k9=>k_is)
  (case a10=>k_is)
  (case l10=>k_is)
  (case c10=>k_is)
  (case k10=>k_is)
  (case a11=>k_is)
  (case l11=>k_is)
  (case c11=>k_is)
  (case k11=>k_is)
  (case a12=>k_is)
  (case l12=>k_is)
  (case c12=>k_is)
  (case k12=>k_is)
  (case a13=>k_is)
  (case l13=>k_is)
  (case c13=>k_is)
  (case k13=>k_is)
  (case a14=>k_is)
  (case l14=>k_is)
  (case c14=>k_is)
  (case k14=>k_is)
  (case a15=>k_is)
  (case l15=>k_is)
  (case c15=>k_is)
  (case k15=>k_is)
  (case a16=>k_is)
  (case l16=>k_is)
  (case c16=>k_is)
  (case k16=>k_is)
  (case a17=>k_is)
  (case l17=>k_is)
  (case c17=>k_is)
  (case k17=>k_is)
  (case a18=>k_is)
  (case l18=>k_is)
  (case c18=>k_is)
  (case k18=>k_is)
  (case a19=>k_is)
  (case l19=>k_is)
  (case c19=>k_is)
  (case k19=>k_is)
  (case a20=>k_is)
  (case l20=>k_is)
  (case c20=>k_is)
  (case k20=>k_is)
  (case a21=>k_is)
  (case l21=>k_is)
  (case c21=>k_is)
  (case k21=>k_is)
  (case a22=>k_is)
  (case l22=>k_is)
  (case c22=>k_is)
  (case k22=>k_is)
  (case a23=>k_is)
  (case l23=>k_is)
  (case c23=>k_is)
  (case k23=>k_is)
  (case a24=>k_is)
  (case l24=>k_is)
  (case c24=>k_is)
  (case k24=>k_is)
  (case a25=>k_is)
  (case l25=>k_is)
  (case c25=>k_is)
  (case k25=>k_is)
  (case z_len=>k_is)
  (case z_abs=>k_is)
  (case z_range=>k_is)
  (case z_isinstance=>k_is)
  (case z_int=>k_is)
  (case z_bool=>k_is)
  (case z_tuple=>k_is)
  (case z_list=>k_is)
  (case z_str=>k_is)
  (case z_zip=>k_is)
  (case z_set=>k_is)
  (case z_all=>k_is)
  (case z_any=>k_is)
  (case z_min=>k_is)
  (case z_max=>k_is)
  (case z_sum=>k_is)
  (case z_sorted=>k_is)
  (case z_enumerate=>k_is)
  (case z_reversed=>k_is)
  (case z_dict=>k_is)
  (case z_ord=>k_is)
  (case z_divmod=>k_is)
  (case aV=>k_is)
  (case xV=>k_exc)
  (case zVE=>k_is)
  (case gt=>k_is)
  (case tk=>k_is)
  (case sgV=>k_is)
  (case rdV=>k_is)
  (case fcV=>k_is)
  (case dV=>k_is)
  (case mV=>exact rfl)
  (case aC0=>k_is)
  (case tC0=>k_is)
  (case dC0=>k_is)
  (case aC1=>k_is)
  (case tC1=>k_is)
  (case dC1=>k_is)
  (case aC2=>k_is)
  (case tC2=>k_is)
  (case dC2=>k_is)
  (case aC3=>k_is)
  (case tC3=>k_is)
  (case dC3=>k_is)
  (case aC4=>k_is)
  (case tC4=>k_is)
  (case dC4=>k_is)
  (case aC5=>k_is)
  (case tC5=>k_is)
  (case dC5=>k_is)
  (case aC6=>k_is)
  (case tC6=>k_is)
  (case dC6=>k_is)
  (case aC7=>k_is)
  (case tC7=>k_is)
  (case dC7=>k_is)
  (case aC8=>k_is)
  (case tC8=>k_is)
  (case dC8=>k_is)
  (case aC9=>k_is)
  (case tC9=>k_is)
  (case dC9=>k_is)
  (case aC10=>k_is)
  (case tC10=>k_is)
  (case dC10=>k_is)
  (case aC11=>k_is)
  (case tC11=>k_is)
  (case dC11=>k_is)
  (case aC12=>k_is)
  (case tC12=>k_is)
  (case dC12=>k_is)
  (case aC13=>k_is)
  (case tC13=>k_is)
  (case dC13=>k_is)
  (case L8=>k_is)
  (case ni8=>k_is)
  (case fn8=>k_is)
  (case kq8=>k_is)
  (case lf8=>k_is)
  (case cf8=>k_is)
  (case kf8=>k_is)
  (case sa8=>k_is)
  (case nf8=>k_is)
  (case hd8=>k_is)
  (case mr8=>exact rfl)
  (case v8=>k_is)
  (case ga8=>k_is)
  (case hk8=>k_is)
  (case cl8=>k_is)
  (case ob8=>k_is)
  (case be8=>k_is)
  (case ve8=>k_is)
  (case m8_0=>k_is)
  (case m8_1=>k_is)
  (case m8_2=>k_is)
  (case m8_3=>k_is)
  (case m8_4=>k_is)
  (case m8_5=>k_is)
  (case m8_6=>k_is)
  (case m8_7=>k_is)
  (case m8_8=>k_is)
  (case m8_9=>k_is)
  (case m8_10=>k_is)
  (case m8_11=>k_is)
  (case m8_12=>k_is)
  (case m8_13=>k_is)
  (case hcn0=>k_is)
end K33H
set_option Elab.async false
set_option linter.all false
set_option maxRecDepth 100000
set_option maxHeartbeats 4000000
namespace L2
open PySem PySem.Spec PyProof.Rows
section
variable{X:Cx}{a b c:Expr}{ta tb tc:TE}{pos:Pos}
def CDivW(_ j:Int):Prop:=j≠0∧j.natAbs < 2 ^ 9000
theorem op_fdivW:OpR X (binaryOp .FloorDiv) (rI CDivW fun i j=>.int (i.fdiv j)):=opI fun i j _ _ _ _ _ hc q=>by
 have h0:j.natAbs≠0:=by have:=hc.1;omega
 exact floordiv_int hc.1 q (.inl (PyProof.noPylong_of_log2 ((Nat.log2_lt h0).mpr hc.2)))
theorem call_isi:CallR X (.builtin "isinstance") (fun xs H Q=>∃x n t b,xs=[x,.ty n]∧TyOf X.K H x t∧PySem.W.kitOne X.K t (.type n)=some b∧Q (.bl b) H):=by
 intro pins s σ H xs us Q I r h
 obtain ⟨x,n,t,b,rfl,ty,e,q⟩:=h
 obtain ⟨u,u',rfl,rx,ry⟩:=vals2 r
 obtain rfl:u'=Value.type n:=ry
 exact isinst_ok I rx ty e fun tk=>⟨.bl b,H,I.tok tk,rfl,q⟩
end
structure FnC (P:Program) (w:World) (K:PySem.W.Frag) (mg:Str→Option Value) (base:Heap) (CX:CXT) (k:Nat) (x:Str) (ps:List Str) (sp:Sp):Prop where
 ex:∃(f:Addr) (fd:FuncData),FnOk P w K mg base CX k f fd ps sp∧mg x=some (.ref f)∧PySem.W.keepIn K (.ref f)=true∧Binds K fd ps []
structure FunAt (K:PySem.W.Frag) (mg:Str→Option Value) (x:Str) (st:Stmt) (ps:List Str):Prop where
 ex:∃(f:Addr) (fd:FuncData),Fun K x x st f fd∧mg x=some (.ref f)∧Binds K fd ps []
section
variable{P:Program}{w:World}{K:PySem.W.Frag}{mg:Str→Option Value}{base:Heap}{CX:CXT}
theorem funAt_mk{h:Heap}{x:Str}{st:Stmt}{f:Addr}{ps:List Str}{oc:Value}{od an:Option Addr}{osl:Array (Option Value)}{kV doc pm cdv ct:Value}(X:K.In h)(G:h.Ns mainGlobals mg)
  (a:PySem.W.nsIn K mainGlobals x=some (some (.ref f))) (l:K.lookup f=some ⟨oc,od,.func (PySem.W.fnOf x x (defArgs st) (defBody st) (defScope st) .none kV doc pm an cdv ct),osl⟩)
  (c:PySem.W.codeIn K cdv x=true) (k:PySem.W.keepIn K (.ref f)=true)
  (hb:∀(kV doc pm:Value) (an:Option Addr) (cdv ct:Value) (us:List Value),us.length=ps.length→bindArgs (PySem.W.fnOf x x (defArgs st) (defBody st) (defScope st) .none kV doc pm an cdv ct) ⟨us,[]⟩=pure (ps.zip us)) :
  FunAt K mg x st ps:=by
 have F:=fun_mk (K:=K) (x:=x) (qual:=x) (st:=st) l c k
 exact ⟨f,_,F,PySem.W.mg_of X G a,F.binds hb⟩
theorem FnC.mono{j k:Nat}{x:Str}{ps:List Str}{sp:Sp}(F:FnC P w K mg base CX j x ps sp)(h:j≤k):FnC P w K mg base CX k x ps sp :=
 let ⟨f,fd,G,r⟩:=F.ex
 ⟨f,fd,G.mono h,r⟩
theorem FunAt.ok{x:Str}{st:Stmt}{N ps:List Str}{k:Nat}{sp:Sp}(F:FunAt K mg x st ps)(S:FnScope N ps (defScope st))(len:∀vs H Q E,sp vs H Q E→vs.length=ps.length)
  (hbody:∀(f:Addr) (cdv:Value) (A:Around) (outer:List Env) (s:Shared) (H:Hp) (vs:List V) (Q:VK) (E:XK),Room k (A.deeper (envOfC x (defScope st) s.heap.objs.size f cdv))→sp vs H Q E →
   ∃t,PSs (cxOf CX0 P w K mg base N x (defScope st) f cdv A outer s H E).nox (defBody st) t∧t { nx:=fun _ H'=>Q .non H',rt:=Q } (start N vs) H):FnC P w K mg base CX0 (k+1) x ps sp:=by
 obtain ⟨f,fd,G,hm,hb⟩:=F.ex
 exact ⟨f,fd,G.ok S len (hbody f),hm,G.kp,hb⟩
end
section
variable{X:Cx}{CX:CXT}{k:Nat}{ps:List Str}{sp:Sp}{E:XK}{x:Str}{p pos:Pos}{e:Expr}{es:List Expr}{t:TA}
theorem pe_callX(F:FnC X.prog X.w X.K X.mg X.base CX k x ps sp)(hr:Room k X.A)(hg:Gl X x)(hx:Passes CX X E)(ha:PA X (e :: es) t)
  (hdb:(x == ("__debug__" : Str))=false:=by decide) (he:starEach (e :: es) X.env=(false,eval e X.env) :: starEach es X.env:=by rfl) (hpl:(backTo pos (starEach es X.env)).any (·.1)=false:=by rfl) :
  PE X (.Call (.Name x p) (e :: es) [] pos) (tCall sp [] E t):=by
 obtain ⟨f,fd,G,hm,kp,hb⟩:=F.ex
 exact pe_call G hr hg hm kp hb .nil hx ha hdb he hpl
theorem pe_callF(F:FnC X.prog X.w X.K X.mg X.base CX0 k x ps sp)(hr:Room k X.A)(hg:Gl X x)(ha:PA X (e :: es) t)
  (hdb:(x == ("__debug__" : Str))=false:=by decide) (he:starEach (e :: es) X.env=(false,eval e X.env) :: starEach es X.env:=by rfl) (hpl:(backTo pos (starEach es X.env)).any (·.1)=false:=by rfl) :
  PE X (.Call (.Name x p) (e :: es) [] pos) (tCall sp [] E0 t):=pe_callX F hr hg pass0 ha hdb he hpl
end
theorem same_new{H:Hp}{p:Addr}(h:H p=none)(o:HO):Same H (upd H p o):=fun b u q=>by rw [upd_ne (ne_of_none q h)];exact q
theorem Same.seqT{K:PySem.W.Frag}{H H':Hp}{a:Addr}{xs:List V}(e:Same H H')(h:SqT K H a xs):SqT K H' a xs:=by
 rcases h with (h | ⟨o,h⟩) | h
 ·exact .inl (.inl (e _ _ h))
 ·exact .inl (.inr ⟨o,e _ _ h⟩)
 ·exact .inr h
end L2
namespace L2
open PySem PySem.Spec PyProof.Rows
structure Blt (mg:Str→Option Value):Prop where
 len:mg "len" = none
 abs:mg "abs" = none
 range:mg "range" = none
 isinstance:mg "isinstance" = none
 int:mg "int" = none
 bool:mg "bool" = none
 tuple:mg "tuple" = none
 list:mg "list" = none
 str:mg "str" = none
 zip:mg "zip" = none
 set:mg "set" = none
 all:mg "all" = none
 any:mg "any" = none
 min:mg "min" = none
 max:mg "max" = none
 sum:mg "sum" = none
 sorted:mg "sorted" = none
 enumerate:mg "enumerate" = none
 reversed:mg "reversed" = none
 dict:mg "dict" = none
 ord:mg "ord" = none
 divmod:mg "divmod" = none
theorem bb_len:bootBuiltins "len" = some (.builtin "len"):=by decide +kernel
theorem bb_abs:bootBuiltins "abs" = some (.builtin "abs"):=by decide +kernel
theorem bb_isinstance:bootBuiltins "isinstance" = some (.builtin "isinstance"):=by decide +kernel
theorem bb_int:bootBuiltins "int" = some (.type "int"):=by decide +kernel
theorem bb_bool:bootBuiltins "bool" = some (.type "bool"):=by decide +kernel
theorem bb_tuple:bootBuiltins "tuple" = some (.type "tuple"):=by decide +kernel
theorem bb_list:bootBuiltins "list" = some (.type "list"):=by decide +kernel
theorem bb_ValueError:bootBuiltins "ValueError" = some (.type "ValueError"):=by decide +kernel
theorem bb_str:bootBuiltins "str" = some (.type "str"):=by decide +kernel
theorem iteNE{y z:Int}{A B:Prop}(h1:y≠z→A)(h2:y=z→B):if (!decide (V.int y=V.int z))=true then A else B:=by
 by_cases h:y=z
 ·subst h
  rw [decide_eq_true rfl]
  exact iteF (h2 rfl)
 ·rw [decide_eq_false (fun q=>h (V.int.inj q))]
  exact iteT (h1 h)
theorem iteD{c:Prop}[Decidable c]{A B:Prop}(h1:c→A)(h2 : ¬ c→B):if decide c=true then A else B:=by
 by_cases h:c
 ·rw [decide_eq_true h]
  exact iteT (h1 h)
 ·rw [decide_eq_false h]
  exact iteF (h2 h)
end L2
namespace L2
open PySem PySem.Spec PyProof.Rows
abbrev qAdd:R2:=rI0 fun i j=>.int (i+j)
abbrev qSub:R2:=rI0 fun i j=>.int (i - j)
abbrev rDiv:R2:=rI CDiv fun i j=>.int (i / j)
abbrev rDivW:R2:=rI CDivW fun i j=>.int (i.fdiv j)
abbrev rMod:R2:=rI (fun _ j=>0 < j) fun i j=>.int (i % j)
abbrev rModN:R2:=rI (fun _ j=>j≠0) fun i j=>.int (i.fmod j)
abbrev rPow:R2:=rI CPow fun i j=>.int (i ^ j.toNat)
abbrev rLt:R2:=rI0 fun i j=>.bl (decide (i < j))
abbrev rLe:R2:=rI0 fun i j=>.bl (decide (i≤j))
abbrev rGt:R2:=rI0 fun i j=>.bl (decide (j < i))
abbrev rGe:R2:=rI0 fun i j=>.bl (decide (j≤i))
abbrev rIsN:R2:=fun x y H Q=>y = .non∧Q (.bl (decide (x = .non))) H
abbrev rNotN:R2:=fun x y H Q=>y = .non∧Q (.bl (!decide (x = .non))) H
abbrev rAddS:R2:=fun x y H Q=>∃i j,x = .str i∧y = .str j∧i.length+j.length≤sizeLine∧Q (.str (i++j)) H
abbrev rAbs:List V→Hp→VK→Prop:=fun xs H Q=>∃i,xs=[.int i]∧Q (.int (if i < 0 then -i else i)) H
abbrev rLenQ(K:PySem.W.Frag):List V→Hp→VK→Prop:=fun xs H Q=>∃p ys,xs=[.ref p]∧(SqL K H p ys∨SqT K H p ys)∧Q (.int ys.length) H
abbrev rIsi(K:PySem.W.Frag):List V→Hp→VK→Prop:=fun xs H Q=>∃x n t b,xs=[x,.ty n]∧TyOf K H x t∧PySem.W.kitOne K t (.type n)=some b∧Q (.bl b) H
abbrev rInt1:List V→Hp→VK→Prop:=fun xs H Q=>(∃i,xs=[.int i]∧Q (.int i) H)∨∃k,xs=[.bl k]∧Q (.int (if k then 1 else 0)) H
abbrev rTupOf(K:PySem.W.Frag):List V→Hp→VK→Prop:=fun xs H Q=>∃p ys,xs=[.ref p]∧((SqL K H p ys∧∀l,H l=none→Q (.ref l) (upd H l (.tup ys)))∨(SqT K H p ys∧Q (.ref p) H))
abbrev rListOf(K:PySem.W.Frag):List V→Hp→VK→Prop:=fun xs H Q=>∃p ys,xs=[.ref p]∧(SqL K H p ys∨SqT K H p ys)∧∀l,H l=none→Q (.ref l) (upd H l (.lst ys))
end L2
namespace L2
open PySem PySem.Spec PyProof.Rows
theorem kit_ii {K:PySem.W.Frag}:PySem.W.kitOne K (.type "int") (.type "int")=some true:=by rfl
theorem kit_ib {K:PySem.W.Frag}:PySem.W.kitOne K (.type "int") (.type "bool")=some false:=by
 show PySem.W.kitCls K (.type "int") (.type "bool")=some false
 unfold PySem.W.kitCls
 kernel_rfl
end L2
namespace L2
open PySem PySem.Spec PyProof.Rows
def AtP(φ : Obj→Prop)(e:Addr)(h:Heap):Prop:=∃o,h.get? e=some o∧φ o
def NoF(φ : Obj→Prop):Prop:=∀o f,φ o→φ (Obj.mapFields f o)
section
variable{M:Model}{A:Around}{E:Value→Shared→Prop}{s:Shared}{φ : Obj→Prop}{base:Heap}{env:Env}{outer:List Env}{L e:Addr}{cls a0:Value}{Q:Unit→Shared→Prop}
theorem entry_step{oe:Obj}{vs:Array Value}{head:Value}{more:Bool}(hfr:A.frames=some (env :: outer))(hl:s.heap.FunFrames base (env :: outer))(hf:env.frame=some L)(he:s.heap.get? e=some oe)(hd:oe.data = .fields vs)(hsz:1 < vs.size)
  (k:∀(h1:Heap) (ot:Obj) (ts:Array Value),Heap.SlotsOnly ((env :: outer).filterMap (·.frame)) s.heap h1→h1.get? e=some oe→ot.data = .fields ts→ts[3]? = some (rawInt L)→Q () { s with heap:=(h1.push ot).update e (Obj.mapFields (·.setIfInBounds 1 (.ref h1.objs.size))) }) :
  wpAny M A (do setField (.ref e) 1 (← EntryCells.newEntry head (← frameOf env) .none (rawInt L) .none (← entryPlaceOf L more))) Q E s:=by
 have ne:e∉(env :: outer).filterMap (·.frame):=fun hm=>by
  obtain ⟨_,o,ho,z⟩:=hl.mem hm
  cases he.symm.trans ho;exact z vs hd
 refine wpAny_bind (wpAny_frameOf_fun hfr hl hf fun h1 S=>wpAny_bind (wpAny_entryPlaceOf fun pl P=>?_))
 have e1:h1.get? e=some oe:=(S.2.1 e ne).trans he
 unfold EntryCells.newEntry newFields
 refine wpAny_bind (wpAny_newObj_type (wpAny_setField (Heap.get?_push_of_some _ e1) hd hsz (k h1 _ _ S e1 rfl ?_)) (P.sizeOk5 _ _ _ _ _))
 rcases P with rfl | ⟨_,_,_,_,_,_,_,rfl⟩ <;> simp
theorem entry_keeps{oe:Obj}{vs:Array Value}{h h1:Heap}{ot:Obj}{ts:Array Value}(nf:NoF φ)(p : φ oe)(hl:h.FunFrames base (env :: outer))(he:h.get? e=some oe)(hkb:base.StaysIn h)(hen:base.get? e=none)(hd:oe.data = .fields vs)(hsz:1 < vs.size)(h0:vs[0]? = some a0)
  (S:Heap.SlotsOnly ((env :: outer).filterMap (·.frame)) h h1) (e1:h1.get? e=some oe) (dt:ot.data = .fields ts) (t3:ts[3]? = some (rawInt L)) :
  Heap.NotedW base (env :: outer) e oe.cls a0 (rawInt L) h ((h1.push ot).update e (Obj.mapFields (·.setIfInBounds 1 (.ref h1.objs.size))))∧AtP φ e ((h1.push ot).update e (Obj.mapFields (·.setIfInBounds 1 (.ref h1.objs.size)))):=by
 have Te:h1.objs.size≠e:=Nat.ne_of_gt (Heap.lt_size e1)
 have d3:=Obj.data_mapFields hd (·.setIfInBounds 1 (Value.ref h1.objs.size))
 have e3:=Heap.get?_update_self (Obj.mapFields (·.setIfInBounds 1 (Value.ref h1.objs.size))) (Heap.get?_push_of_some ot e1) (Obj.isFreed_of_fields d3)
 have keep:∀b o,b≠e→h1.get? b=some o→((h1.push ot).update e (Obj.mapFields (·.setIfInBounds 1 (.ref h1.objs.size)))).get? b=some o:=fun b o n q=>(Heap.get?_update_other _ _ (Ne.symm n)).trans (Heap.get?_push_of_some _ q)
 have nr:∀b o,h.get? b=some o→(∀us,o.data≠.fields us)→b≠e:=fun b o q z w=>by
  subst w;cases he.symm.trans q;exact z vs hd
 have kb1:base.StaysIn h1:=fun b o q=>(S.2.1 b fun hm=>by rw [(hl.mem hm).1] at q;cases q).trans (hkb b o q)
 refine ⟨⟨fun b o q=>keep b o (fun z=>by rw [z,hen] at q;cases q) (kb1 b o q),hl.of_keeps fun b o q z=>?_,?_,fun b o q z=>?_⟩,⟨_,e3,nf _ _ p⟩⟩
 ·obtain ⟨sl,w⟩:=S.2.2 b o q
  exact ⟨_,keep b _ (nr b o q z) w,rfl⟩
 ·refine ⟨_,_,h1.objs.size,ot,ts,e3,⟨Obj.cls_mapFields _ _,?_⟩,d3,by simp [hsz],kb1.fresh,Te,(Heap.get?_update_other _ _ (Ne.symm Te)).trans (Heap.get?_push_size h1 (Obj.isFreed_of_fields dt)),dt,t3⟩
  rw [Array.getElem?_setIfInBounds_ne (by decide)];exact h0
 ·obtain ⟨sl,w⟩:=S.2.2 b o q
  exact ⟨sl,keep b _ (nr b o q z) w⟩
theorem note_first{oe:Obj}{vs:Array Value}(nf:NoF φ)(p : φ oe)(hfr:A.frames=some (env :: outer))(hl:s.heap.FunFrames base (env :: outer))(hf:env.frame=some L)(he:s.heap.get? e=some oe)(hkb:base.StaysIn s.heap)(hen:base.get? e=none)(hd:oe.data = .fields vs)(h1:vs[1]? = some .none)(h0:vs[0]? = some a0)
  (k:∀h',Heap.NotedW base (env :: outer) e oe.cls a0 (rawInt L) s.heap h'→AtP φ e h'→Q () { s with heap:=h' }):wpAny M A (noteFrame (.ref e) env) Q E s:=by
 have hsz:=(Array.getElem?_eq_some_iff.mp h1).1
 unfold noteFrame;simp only [hf]
 refine wpAny_bind (wpAny_field he hd h1 ?_)
 rw [if_neg (by decide)]
 exact entry_step hfr hl hf he hd hsz fun g1 ot ts S e1 dt t3=>(entry_keeps nf p hl he hkb hen hd hsz h0 S e1 dt t3).elim (k _)
theorem note_next(nf:NoF φ)(p:AtP φ e s.heap)(hfr:A.frames=some (env :: outer))(hl:s.heap.FunFrames base (env :: outer))(hf:env.frame=some L)(ht:s.heap.TracedW base e cls a0)(hkb:base.StaysIn s.heap)(hen:base.get? e=none)
  (k:∀h',Heap.NotedW base (env :: outer) e cls a0 (rawInt L) s.heap h'→AtP φ e h'→Q () { s with heap:=h' }):wpAny M A (noteFrame (.ref e) env) Q E s:=by
 obtain ⟨oe,vs,T,oT,ts,he,⟨rfl,h0⟩,hd,h1,nT,Te,hT,dT,h3⟩:=ht
 obtain ⟨o',q',p⟩:=p
 cases he.symm.trans q'
 have hsz:=(Array.getElem?_eq_some_iff.mp h1).1
 unfold noteFrame;simp only [hf]
 refine wpAny_bind (wpAny_field he hd h1 ?_)
 rw [if_pos (by simp)]
 refine wpAny_bind (wpAny_field hT dT h3 ?_)
 rw [if_neg (by simp [rawInt])]
 refine wpAny_bind (wpAny_setField hT dT (Array.getElem?_eq_some_iff.mp h3).1 ?_)
 have other:∀b,b≠T→(s.heap.update T (Obj.mapFields (·.setIfInBounds 3 Value.none))).get? b=s.heap.get? b:=fun b n=>Heap.get?_update_other _ _ (Ne.symm n)
 have nr:∀b o,s.heap.get? b=some o→(∀us,o.data≠.fields us)→b≠T:=fun b o q z w=>by
  subst w;cases hT.symm.trans q;exact z ts dT
 have hl2:Heap.FunFrames (s.heap.update T (Obj.mapFields (·.setIfInBounds 3 Value.none))) base (env :: outer):=hl.of_keeps fun b o q z=>⟨o,(other b (nr b o q z)).trans q,rfl⟩
 have he2:=(other e (Ne.symm Te)).trans he
 have kb2:base.StaysIn (s.heap.update T (Obj.mapFields (·.setIfInBounds 3 Value.none))):=fun b o q=>(other b fun z=>by rw [z,nT] at q;cases q).trans (hkb b o q)
 refine entry_step (s:={ s with heap:=s.heap.update T (Obj.mapFields (·.setIfInBounds 3 Value.none)) }) hfr hl2 hf he2 hd hsz fun g1 ot us S e1 dt t3=>?_
 obtain ⟨⟨x1,x2,x3,x4⟩,x5⟩:=entry_keeps nf p hl2 he2 kb2 hen hd hsz h0 S e1 dt t3
 exact k _ ⟨x1,x2,x3,fun b o q z=>x4 b o ((other b (nr b o q z)).trans q) z⟩ x5
theorem flight_none{l:List Env}{fl:Value}(p:AtP φ e s.heap)(hkb:base.StaysIn s.heap)(hl:s.heap.FunFrames base l)(ht:s.heap.TracedAtW base e cls a0 fl)
  (k:∀h',base.StaysIn h'→h'.FunFrames base l→h'.TracedW base e cls a0→s.heap.UpToSlots h'→AtP φ e h'→Q () { s with heap:=h' }):wpAny M A (setFlight (.ref e) none) Q E s:=by
 obtain ⟨oe,vs,T,oT,ts,he,hc,hd,h1,nT,Te,hT,dT,h3⟩:=ht
 obtain ⟨o',q',p⟩:=p
 cases he.symm.trans q'
 have hsz:=(Array.getElem?_eq_some_iff.mp h3).1
 have other:∀b,b≠T→(s.heap.update T (Obj.mapFields (·.setIfInBounds 3 ((none:Option Addr).elim Value.none fun f=>rawInt f)))).get? b=s.heap.get? b:=fun b n=>Heap.get?_update_other _ _ (Ne.symm n)
 have nr:∀b o,s.heap.get? b=some o→(∀us,o.data≠.fields us)→b≠T:=fun b o q z w=>by
  subst w;cases hT.symm.trans q;exact z ts dT
 unfold setFlight
 refine wpAny_bind (wpAny_field he hd h1 ?_)
 rw [if_pos (by simp)]
 refine wpAny_setField hT dT hsz (k _ (fun b o q=>(other b fun z=>by rw [z,nT] at q;cases q).trans (hkb b o q)) (hl.of_keeps fun b o q z=>⟨o,(other b (nr b o q z)).trans q,rfl⟩) ?_ (fun b o q z=>⟨o.slots,(other b (nr b o q z)).trans q⟩) ⟨_,(other e (Ne.symm Te)).trans he,p⟩)
 exact ⟨oe,vs,T,_,_,(other e (Ne.symm Te)).trans he,hc,hd,h1,nT,Te,Heap.get?_update_self _ hT (Obj.isFreed_of_fields (Obj.data_mapFields dT _)),Obj.data_mapFields dT _,by simp [hsz]⟩
def FlyP(φ : Obj→Prop)(B:Heap)(l:List Env)(e:Addr)(cls a0:Value)(h:Heap):Prop:=Heap.FlyingW B l e cls a0 h∧AtP φ e h
theorem leaves_madeP{h:Heap}{oe:Obj}{vs:Array Value}(nf:NoF φ)(p : φ oe)(hfr:A.frames=some (env :: outer))(hl:s.heap.FunFrames base (env :: outer))(hf:env.frame=some L)(he:s.heap.get? e=some oe)(hkb:base.StaysIn s.heap)(hen:base.get? e=none)(hd:oe.data = .fields vs)(h1:vs[1]? = some .none)(h0:vs[0]? = some a0)
  (k:∀h',FlyP φ base outer e oe.cls a0 h'→s.heap.UpToSlots h'→Q () { s with heap:=h' }):wpAny M A (leaving env (.ref e)) Q E s:=by
 unfold leaving
 refine wpAny_bind (note_first nf p hfr hl hf he hkb hen hd h1 h0 fun g1 ⟨x1,x2,x3,x4⟩ x5=>?_)
 refine flight_none (s:={ s with heap:=g1 }) x5 x1 x2 x3 fun g2 y1 y2 y3 y4 y5=>k g2 ⟨⟨y1,hen,y2.2.2,y3⟩,y5⟩ (Heap.UpToSlots.trans (h₂:=g1) x4 y4)
theorem looks_onP(nf:NoF φ)(hfr:A.frames=some (env :: outer))(hf:env.frame=some L)(fl:FlyP φ base (env :: outer) e cls a0 s.heap)(k:∀h',Heap.HeldW base (env :: outer) e cls a0 L h'→AtP φ e h'→s.heap.UpToSlots h'→Q () { s with heap:=h' }):wpAny M A (noteFrame (.ref e) env) Q E s:=by
 obtain ⟨⟨f1,f2,f3,f4⟩,p⟩:=fl
 exact note_next nf p hfr f3 hf f4 f1 f2 fun g1 ⟨x1,x2,x3,x4⟩ x5=>k g1 ⟨x1,f2,x2,x3⟩ x5 x4
theorem landsP{l:List Env}(hh:Heap.HeldW base l e cls a0 L s.heap)(p:AtP φ e s.heap)(k:∀h',FlyP φ base l e cls a0 h'→s.heap.UpToSlots h'→Q () { s with heap:=h' }):wpAny M A (setFlight (.ref e) none) Q E s:=by
 obtain ⟨f1,f2,f3,f4⟩:=hh
 exact flight_none p f1 f3 f4 fun g2 y1 y2 y3 y4 y5=>k g2 ⟨⟨y1,f2,y2,y3⟩,y5⟩ y4
theorem lands_againP{l:List Env}(fl:FlyP φ base l e cls a0 s.heap)(k:∀h',FlyP φ base l e cls a0 h'→s.heap.UpToSlots h'→Q () { s with heap:=h' }):wpAny M A (setFlight (.ref e) none) Q E s:=by
 obtain ⟨⟨f1,f2,f3,f4⟩,p⟩:=fl
 exact flight_none p f1 f3 f4.at fun g2 y1 y2 y3 y4 y5=>k g2 ⟨⟨y1,f2,y2,y3⟩,y5⟩ y4
end
end L2
namespace L2
open PySem PySem.Spec PyProof.Rows
structure Gone (P:Program) (w:World) (outer:List Env) (H H':Hp) (h B h':Heap):Prop where
 hok:HOk P w H' B
 keep:∀b o,h.get? b=some o→H b=none→b∉frs outer→B.get? b=some o
 slot:∀b o,h.get? b=some o→H b=none→b∈frs outer→∃sl,h'.get? b=some { o with slots:=sl }
 free:∀b o,h.get? b=some o→H b=none→H' b=none
 there:∀b o,h.get? b=some o→b∉frs outer→∃o',B.get? b=some o'
 tups:∀b xs,H b=some (.tup xs)→H' b=some (.tup xs)
 frzs:∀b o u,H b=some (.frz o u)→H' b=some (.frz o u)
 tbls:∀b ps,H b=some (.tbl ps)→∃more,H' b=some (.tbl (ps++more))
def CXE(P:Program)(w:World):CXT:=fun outer H s E e s' =>
 ∃(ea C:Addr) (a0:Value) (B:Heap) (H':Hp) (d:Option Addr),e = .ref ea∧FlyP (fun o=>o.dict=d) B outer ea (.ref C) a0 s'.heap∧Gone P w outer H H' s.heap B s'.heap∧s'.os=s.os∧AllBare s'.gens∧E (.ref C) d H'
theorem noF_dict{d:Option Addr}:NoF fun o=>o.dict=d:=fun o f h=>by
 obtain ⟨c,dd,da,sl⟩:=o
 cases da <;> exact h
structure OwnFr (X:Cx):Prop where
 stk:X.stack=X.env :: X.outer
 frm:X.env.frame=some X.env.locals
 exs:X.ex=[]
section
variable{X:Cx}{pins:List (Addr×Obj)}{σ : St}{H:Hp}{s:Shared}
theorem OwnFr.frs(o:OwnFr X):frs X.stack=X.env.locals :: X.fs:=by
 rw [o.stk]
 unfold L2.frs
 rw [List.filterMap_cons,o.frm]
 rfl
theorem Inv.old_ne(I:Inv X pins σ H s){b:Addr}{o:Obj}(e:X.s₀.heap.get? b=some o):b≠X.env.locals:=Nat.ne_of_lt (Nat.lt_of_lt_of_le (Heap.lt_size e) I.ok.above)
theorem Inv.old_out(I:Inv X pins σ H s)(o:OwnFr X){b:Addr}{ob:Obj}(e:X.s₀.heap.get? b=some ob)(h:b∉X.fs):b∉L2.frs X.stack:=by
 rw [o.frs]
 intro z
 rcases List.mem_cons.mp z with z | z
 ·exact I.old_ne e z
 ·exact h z
theorem Inv.fr_data(I:Inv X pins σ H s){b:Addr}{o:Obj}(hb:b∈X.fs)(e:s.heap.get? b=some o):∀vs,o.data≠.fields vs:=by
 obtain ⟨_,o',e',d⟩:=I.funs.mem hb
 rw [e] at e'
 cases e'
 exact d
end
theorem ownFr_of{CX:CXT}{P:Program}{w:World}{K:PySem.W.Frag}{mg:Str→Option Value}{base:Heap}{N:List Str}{qual:Str}{sc:Scope}{f:Addr}{cd:Value}{A:Around}{outer:List Env}{s:Shared}{H:Hp}{E:XK} :
  OwnFr (cxOf CX P w K mg base N qual sc f cd A outer s H E):=⟨rfl,rfl,rfl⟩
def Lv(X:Cx)(E:XK):Prop:=OwnFr X∧(∀e s',wpAny (model X.prog X.w) X.A (leaving X.env e) (fun _ s''=>CXE X.prog X.w X.outer X.H₀ X.s₀ E e s'') (fun e' s''=>CXE X.prog X.w X.outer X.H₀ X.s₀ E e' s'') s'→X.xe e s')
theorem lv_of{P:Program}{w:World}{K:PySem.W.Frag}{mg:Str→Option Value}{base:Heap}{N:List Str}{qual:Str}{sc:Scope}{f:Addr}{cd:Value}{A:Around}{outer:List Env}{s:Shared}{H:Hp}{E:XK} :
  Lv (cxOf (CXE P w) P w K mg base N qual sc f cd A outer s H E) E:=⟨ownFr_of,fun _ _ h=>h⟩
theorem hpo_of{CX:CXT}{P:Program}{w:World}{K:PySem.W.Frag}{mg:Str→Option Value}{base:Heap}{N:List Str}{qual:Str}{sc:Scope}{f:Addr}{cd:Value}{A:Around}{outer:List Env}{s:Shared}{H:Hp}{E:XK} :
  PassesOwn (model P w) (cxOf CX P w K mg base N qual sc f cd A outer s H E).A (cxOf CX P w K mg base N qual sc f cd A outer s H E).env (cxOf CX P w K mg base N qual sc f cd A outer s H E).xe:=PassesOwn.leaving
theorem FunAt.okE{P:Program}{w:World}{K:PySem.W.Frag}{mg:Str→Option Value}{base:Heap}{x:Str}{st:Stmt}{N ps:List Str}{k:Nat}{sp:Sp}(F:FunAt K mg x st ps)(S:FnScope N ps (defScope st))(len:∀vs H Q E,sp vs H Q E→vs.length=ps.length)
  (hbody:∀(f:Addr) (cdv:Value) (A:Around) (outer:List Env) (s:Shared) (H:Hp) (vs:List V) (Q:VK) (E:XK),Room k (A.deeper (envOfC x (defScope st) s.heap.objs.size f cdv))→sp vs H Q E →
   ∃t,PSs (cxOf (CXE P w) P w K mg base N x (defScope st) f cdv A outer s H E) (defBody st) t∧t { nx:=fun _ H'=>Q .non H',rt:=Q } (start N vs) H):FnC P w K mg base (CXE P w) (k+1) x ps sp:=by
 obtain ⟨f,fd,G,hm,hb⟩:=F.ex
 obtain ⟨oc,od,kV,doc,pm,an,cdv,ct,osl,rfl,lk,hcd⟩:=G.ex
 exact ⟨f,_,fn_of lk hcd S len fun A outer s H vs Q E hr hsp=>hbody f cdv A outer s H vs Q E hr hsp,hm,G.kp,hb⟩
theorem exc_obj{K:PySem.W.Frag}{h:Heap}{C:Addr}{bmB:List Value}{newId:String}(X:K.In h)(ok:PySem.W.excIn K C bmB newId=true) :
  ∃tl N nm q bs hdct sn sub ab col dd k0 k1 k2 k3 k5 mN,h.get? C=some (excClassObj nm q C N bs tl hdct sn sub ab col dd k0 k1 k2 k3 k5 newId)∧h.Ns N mN∧mN "__init__" = none∧OwnTail h bmB tl:=by
 unfold PySem.W.excIn at ok
 split at ok
 ·rename_i dd cd sl lk
  split at ok
  ·rename_i C1 tl s0 s1 s2 s3 nw s5 em es
   simp only [Bool.and_eq_true,beq_iff_eq,Bool.not_eq_true'] at ok
   obtain ⟨⟨⟨⟨⟨e1,e2⟩,nodel⟩,own⟩,isns⟩,noi⟩:=ok
   subst e1 e2
   obtain ⟨nm,bs,mro,ns,qn,hd,sn,sub,ab,col,del⟩:=cd
   have em':mro=Value.ref C1 :: tl:=em
   have nodel':del=false:=nodel
   subst em' nodel'
   obtain ⟨sll⟩:=sl
   have es':sll=[s0,s1,s2,s3,some (Value.builtin nw),s5]:=es
   subst es'
   exact ⟨tl,ns,nm,qn,bs,hd,sn,sub,ab,col,dd,s0,s1,s2,s3,s5,_,X _ _ lk,Heap.Ns.of_isNs (PySem.W.isNs_of_in X isns),PySem.W.nsMap_none_of_in X isns noi,PySem.W.tail_of_in X own⟩
  ·exact absurd ok Bool.false_ne_true
 ·exact absurd ok Bool.false_ne_true
end L2
namespace L2
open PySem PySem.Spec PyProof.Rows
section
variable{M:Model}{A:Around}{E:Value→Shared→Prop}{h:Heap}{g:Array GenState}{d:Drawn}{t:Nat}{os:OsState}
theorem exc_matches{nm q nm' q':Str}{C N D N':Addr}{bs tl bs' tl':List Value}{hd hd':Bool}{sn sn':List Str}{su su':List Value}{ab ab':Bool}{co co':Option Bool}{dd dd':Option Addr}{k0 k1 k2 k3 k5 j0 j1 j2 j3 j5:Option Value}{nw nw':String}
  {e:Addr} {oe:Obj} {Q:Bool→Shared→Prop}
  (hC:h.get? C=some (excClassObj nm q C N bs tl hd sn su ab co dd k0 k1 k2 k3 k5 nw)) (hD:h.get? D=some (excClassObj nm' q' D N' bs' tl' hd' sn' su' ab' co' dd' j0 j1 j2 j3 j5 nw'))
  (he:h.get? e=some oe) (hc:oe.cls = .ref C) (hb:tl'.contains (.type "BaseException")=true) (hs:(Value.ref C :: tl).contains (.ref D)=true)
  (hq:Q true ⟨h,g,d,t,os⟩):wpAny M A (excMatches (.ref e) (.ref D)) Q E ⟨h,g,d,t,os⟩:=by
 have hB:(Value.ref D :: tl').contains (.type "BaseException")=true:=by rw [List.contains_cons,hb,Bool.or_true]
 have nt:=tc_notTuple
 unfold excMatches
 repeat (first
  | (with_reducible refine wpAny_loadPart_at he ?_;rw [hc])
  | with_reducible refine wpAny_loadPart_at hD ?_
  | with_reducible refine wpAny_loadPart_at hC ?_
  | (with_reducible refine wpAny_isSubtype_exc hD ?_;rw [hB])
  | (with_reducible refine wpAny_isSubtype_exc hC ?_;rw [hs])
  | wp_step)
 exact hq
end
end L2
namespace L2
open PySem PySem.Spec PyProof.Rows
theorem ObjOk.there{P:Program}{w:World}{H:Hp}{h:Heap}{a:Addr}{o:HO}(x:ObjOk P w H h a o):∃ob,h.get? a=some ob:=by
 cases o with
 | lst xs=>obtain ⟨_,_,_,_,e⟩:=x;exact ⟨_,e⟩
 | tup xs=>obtain ⟨_,_,_,ob,e,_⟩:=x;exact ⟨ob,e⟩
 | dK kvs=>obtain ⟨_,_,_,_,ob,_,_,e,_⟩:=x;exact ⟨ob,e⟩
 | dT kvs=>obtain ⟨_,_,_,_,ob,_,_,e,_⟩:=x;exact ⟨ob,e⟩
 | set S n=>obtain ⟨ob,_,_,_,e,_⟩:=x;exact ⟨ob,e⟩
 | ins C dx fs=>obtain ⟨_,_,_,e,_⟩:=x;exact ⟨_,e⟩
 | own y=>exact x
 | xd fs=>obtain ⟨_,⟨ob,_,_,e,_⟩,_⟩:=x;exact ⟨ob,e⟩
 | rng lo hi=>obtain ⟨_,_,_,e⟩:=x;exact ⟨_,e⟩
 | frz ob u=>obtain ⟨e,_⟩:=x;exact ⟨_,e⟩
 | tbl ps=>exact ⟨_,(show h.get? a=some _ from x)⟩
 | met f y=>exact ⟨_,(show h.get? a=some _ from x)⟩
 | ext φ=>obtain ⟨_,e,_⟩:=x;exact e
section
variable{X:Cx}{pins:List (Addr×Obj)}{σ : St}{H H':Hp}{s s':Shared}
theorem Inv.back{B h5:Heap}(I:Inv X pins σ H s)(o:OwnFr X)(g:Gone X.prog X.w X.stack H H' s.heap B s'.heap)(hos:s'.os=s.os)(bare:AllBare s'.gens)(st:B.StaysIn h5)(up:s'.heap.UpToSlots h5) :
  Inv X pins σ H' { s' with heap:=h5 }:=by
 obtain ⟨hh,g',d',t',os'⟩:=s'
 have e:os'=s.os:=hos
 subst e
 have inS:∀{b:Addr},b∈X.fs→b∈L2.frs X.stack:=fun hb=>by rw [o.frs];exact List.mem_cons_of_mem _ hb
 have inL:X.env.locals∈L2.frs X.stack:=by rw [o.frs];exact List.mem_cons_self
 have out:∀{b:Addr},b≠X.env.locals→b∉X.fs→b∉L2.frs X.stack:=fun h1 h2 z=>by
  rw [o.frs] at z
  rcases List.mem_cons.mp z with z | z
  ·exact h1 z
  ·exact h2 z
 have nsL:∀m,s.heap.Ns X.env.locals m→h5.Ns X.env.locals m:=fun m hm=>by
  obtain ⟨ob,es,ep,ho,hd,r⟩:=hm
  obtain ⟨sl,e1⟩:=g.slot _ ob ho I.free inL
  obtain ⟨sl',e2⟩:=up _ _ e1 (fun vs z=>by have z':ob.data = .fields vs:=z;rw [hd] at z';cases z')
  exact ⟨_,es,ep,e2,hd,r⟩
 suffices r:Inv X pins σ H' { s with heap:=h5,gens:=g',drawn:=d',toks:=t' } from r
 refine I.step (ch:=[]) (fun _ z=>nomatch z) (fun b ob nl nf _ e n=>st b ob (g.keep b ob e n (out nl nf))) (fun b ob nl hb _ e n=>?_) (fun b ob _ e n=>g.free b ob e n) (fun b ob _ e=>?_) g.tups g.frzs g.tbls nsL (g.hok.kept st) bare
 ·obtain ⟨sl,e1⟩:=g.slot b ob e n (inS hb)
  obtain ⟨sl',e2⟩:=up b _ e1 (fun vs=>I.fr_data hb e vs)
  exact ⟨sl',e2⟩
 ·by_cases hb:b∈L2.frs X.stack
  ·have hb':=hb
   rw [o.frs] at hb'
   rcases List.mem_cons.mp hb' with z | z
   ·obtain ⟨m,hn,_⟩:=I.loc
    obtain ⟨o',_,_,ho',_⟩:=nsL m hn
    exact ⟨o',by rw [z];exact ho'⟩
   ·obtain ⟨sl,e1⟩:=g.slot b ob e (I.stkFree b hb) hb
    obtain ⟨sl',e2⟩:=up b _ e1 (fun vs=>I.fr_data z e vs)
    exact ⟨_,e2⟩
  ·obtain ⟨o',e1⟩:=g.there b ob e hb
   exact ⟨o',st b o' e1⟩
def excO(e C:Addr):HO:=.ext fun h=>∃oe,h.get? e=some oe∧oe.cls = .ref C
theorem excO_ok{P:Program}{w:World}{h:Heap}{e C:Addr}{oe:Obj}(he:h.get? e=some oe)(hc:oe.cls = .ref C):ObjOk P w H h e (excO e C) :=
 ⟨⟨oe,he,hc⟩,⟨oe,he⟩,fun _ _ ⟨o,h1,h2⟩ k=>⟨o,k o h1,h2⟩⟩
def excD(e C dx:Addr):HO:=.ext fun h=>∃oe,h.get? e=some oe∧oe.cls = .ref C∧oe.dict=some dx∧PySem.W.notCls oe=true
theorem excD_ok{P:Program}{w:World}{h:Heap}{e C dx:Addr}{oe:Obj}(he:h.get? e=some oe)(hc:oe.cls = .ref C)(hd:oe.dict=some dx)(hn:PySem.W.notCls oe=true):ObjOk P w H h e (excD e C dx) :=
 ⟨⟨oe,he,hc,hd,hn⟩,⟨oe,he⟩,fun _ _ ⟨o,h1,h2⟩ k=>⟨o,k o h1,h2⟩⟩
@[reducible] def excOd (e C:Addr):Option Addr→HO
 | none=>excO e C
 | some dx=>excD e C dx
theorem excOd_ok{P:Program}{w:World}{h:Heap}{e C:Addr}{oe:Obj}{d:Option Addr}(he:h.get? e=some oe)(hc:oe.cls = .ref C)(hd:oe.dict=d)(hn:PySem.W.notCls oe=true):ObjOk P w H h e (excOd e C d):=by
 cases d with
 | none=>exact excO_ok he hc
 | some dx=>exact excD_ok he hc hd hn
def ExH(H:Hp)(e C:Addr):Prop:=∃d,H e=some (excOd e C d)
theorem ExH.ofD{e C dx:Addr}(h:H e=some (excD e C dx)):ExH H e C:=⟨some dx,h⟩
theorem Inv.track{e:Addr}{o:HO}(I:Inv X pins σ H s)(hn:H e=none)(h0:X.s₀.heap.get? e=none)(hL:e≠X.env.locals)(hc:∀x c,X.env.cells.lookup x=some c→c≠e)(hp:∀p∈X.pn++pins,p.1≠e)
  (ok:ObjOk X.prog X.w (upd H e o) s.heap e o):Inv X pins σ (upd H e o) s:=by
 have ne:∀b u,H b=some u→b≠e:=fun b u q z=>by rw [z,hn] at q;cases q
 refine ⟨I.ok,I.os,I.bare,⟨I.base.keep,I.base.slot,fun b ob q n hx=>?_,I.base.there,fun b xs q=>?_,fun b ob u q=>?_,fun b ps q=>?_⟩,I.loc,I.cell,?_,fun x c q=>?_,fun p hq=>?_,fun a u q=>?_,I.len⟩
 ·rw [upd_ne (fun z=>by rw [z,h0] at q;cases q)]
  exact I.base.free b ob q n hx
 ·have z:=I.base.tups b xs q
  rw [upd_ne (ne _ _ z)]
  exact z
 ·have z:=I.base.frzs b ob u q
  rw [upd_ne (ne _ _ z)]
  exact z
 ·obtain ⟨m,z⟩:=I.base.tbls b ps q
  exact ⟨m,by rw [upd_ne (ne _ _ z)];exact z⟩
 ·rw [upd_ne (Ne.symm hL)]
  exact I.free
 ·rw [upd_ne (hc x c q)]
  exact I.freeC x c q
 ·obtain ⟨q1,q2,q3⟩:=I.pin p hq
  exact ⟨q1,by rw [upd_ne (hp p hq)];exact q2,q3⟩
 ·by_cases z:a=e
  ·subst z
   rw [upd_same] at q
   cases q
   exact ok
  ·rw [upd_ne z] at q
   exact (I.hok a u q).stay (fun _ _ _ r=>r) (fun b r=>by rw [upd_ne (ne _ _ r)];exact r) fun b xs r=>by rw [upd_ne (ne _ _ r)];exact r
theorem unset_ok{M:Model}{A:Around}{E:Value→Shared→Prop}{i:Nat}{n:Str}{pos:Pos}{Q:Unit→Shared→Prop}(I:Inv X pins σ H s)(hN:X.N.Nodup)(hi:X.N[i]? = some n)(hk:X.env.scope.names.lookup n=some .local)
  (h:∀s',Inv X pins (σ.set i none) H s'→Q () s'):wpAny M A (do bindName X.env n .none;unbindBehindTheSuite X.env n pos) Q E s:=by
 have hcls:(X.env.scope.kind == .class || (X.env.scope.kind == .module && X.env.locals != X.env.globals))=false:=by rw [I.ok.kind];rfl
 have hiσ : i < σ.length:=by rw [I.len];exact (List.getElem?_eq_some_iff.mp hi).1
 refine wpAny_bind (wpAny_bindName (store_ok I hN hi (.inl hk) (v:=.non) rfl (fun s1 I1=>?_) (.inr hk)))
 obtain ⟨m,hn,hl⟩:=id I1.loc
 obtain ⟨u,ru,lu⟩:=hl i n .non hi (by rw [List.getElem?_set_self hiσ]) (.inl hk)
 have hmn:m n=some u:=by
  rcases lu with ⟨_,z⟩ | ⟨z,_⟩
  ·exact z
  ·have k':X.env.kindOf n=some .local:=hk
   rcases z with z | z <;> (rw [k'] at z;cases z)
 unfold unbindBehindTheSuite
 refine wpAny_onRaise (wpAny_unbindName_local hk hn hmn hcls fun h' v hn' hs=>?_)
 have cne:=I1.cne
 obtain ⟨oL,_,_,hoL,_⟩:=id hn
 have tracked:HOk X.prog X.w H h':=fun b ob e=>by
  refine (I1.hok b ob e).stay (fun c w' hc q=>(hs.2 c ?_).trans q) (fun _ q=>q) fun _ _ q=>q
  rintro rfl
  have fr:=I1.free
  rcases hc with hc | hc
  ·rw [hc] at fr;rw [fr] at e;cases e
  ·rw [fr] at hc;cases hc
 refine h _ ⟨I.ok,I1.os,I1.bare,⟨fun b ob e n hb hx=>?_,fun b ob e n hb hx=>?_,I1.base.free,fun b ob e hx=>?_,I1.base.tups,I1.base.frzs,I1.base.tbls⟩,⟨_,hn',fun j y v' e1 e2 e3=>?_⟩,fun y c e=>?_,I1.free,I1.freeC,fun p hp=>?_,tracked,by simpa using I.len⟩
 ·exact (hs.2 b (I.old_ne e)).trans (I1.base.keep b ob e n hb hx)
 ·obtain ⟨sl,e1⟩:=I1.base.slot b ob e n hb hx
  exact ⟨sl,(hs.2 b (I.old_ne e)).trans e1⟩
 ·obtain ⟨o',e1⟩:=I1.base.there b ob e hx
  exact ⟨o',(hs.2 b (I.old_ne e)).trans e1⟩
 ·by_cases hj:j=i
  ·subst hj
   rw [List.getElem?_set_self hiσ] at e2
   cases e2
  ·rw [List.getElem?_set_ne (Ne.symm hj)] at e2
   obtain ⟨u',r',q⟩:=hl j y v' e1 (by rw [List.getElem?_set_ne (Ne.symm hj)];exact e2) e3
   refine ⟨u',r',?_⟩
   rcases q with ⟨k,e⟩ | ⟨k,c,e,z⟩
   ·refine .inl ⟨k,?_⟩
    have ny:y≠n:=fun z=>hj (nodup_ix hN e1 (z ▸ hi))
    simp [ny,e]
   ·exact .inr ⟨k,c,e,z.sameBut hs (cne y c e)⟩
 ·obtain ⟨w',z⟩:=I1.cell y c e
  exact ⟨w',z.sameBut hs (cne y c e)⟩
 ·obtain ⟨e,n',ne,nf,d⟩:=I1.pin p hp
  exact ⟨(hs.2 p.1 ne).trans e,n',ne,nf,d⟩
abbrev Cx.marked(X:Cx)(e:Addr):Cx:={ X with A:=X.A.mark (some (.ref e)),calm:=false,xe:=fun _ _=>False }
theorem Inv.marked(I:Inv X pins σ H s)(e:Addr):Inv (X.marked e) pins σ H s :=
 ⟨⟨I.ok.mod,I.ok.kind,I.ok.glob,I.ok.blt,I.ok.above,I.ok.inj,I.ok.has,I.ok.cab,fun z=>Bool.noConfusion z,I.ok.frames,I.ok.stk,I.ok.exf,I.ok.bs,I.ok.bsz,I.ok.noex,I.ok.exfs,I.ok.funs,I.ok.frf⟩,
  I.os,I.bare,I.base,I.loc,I.cell,I.free,I.freeC,I.pin,I.hok,I.len⟩
theorem Inv.unmarked{e:Addr}(I0:X.Ok)(I:Inv (X.marked e) pins σ H s):Inv X pins σ H s:=⟨I0,I.os,I.bare,I.base,I.loc,I.cell,I.free,I.freeC,I.pin,I.hok,I.len⟩
end
structure ExcV (K:PySem.W.Frag) (mg:Str→Option Value) (x:Str) (D:Addr):Prop where
 at_:mg x=some (.ref D)
 ok:∃bmB newId,PySem.W.excIn K D bmB newId=true∧bmB.contains (.type "BaseException")=true
def ExcOb(K:PySem.W.Frag)(C:Addr):Prop:=∀h:Heap,K.In h→∃tl N nm q bs hdct sn sub ab col dd k0 k1 k2 k3 k5 newId,h.get? C=some (excClassObj nm q C N bs tl hdct sn sub ab col dd k0 k1 k2 k3 k5 newId)
def SubC(K:PySem.W.Frag)(C D:Addr):Prop:=ExcOb K C∧PySem.W.mroIn K C (.ref D)=some true
theorem mro_sub{K:PySem.W.Frag}{h:Heap}{C D N:Addr}{nm q:Str}{bs tl:List Value}{hd:Bool}{sn:List Str}{su:List Value}{ab:Bool}{co:Option Bool}{dd:Option Addr}{k0 k1 k2 k3 k5:Option Value}{nw:String}(X:K.In h)
  (hC:h.get? C=some (excClassObj nm q C N bs tl hd sn su ab co dd k0 k1 k2 k3 k5 nw)) (e:PySem.W.mroIn K C (.ref D)=some true):(Value.ref C :: tl).contains (.ref D)=true:=by
 obtain ⟨cd,a,b⟩:=Option.bind_eq_some_iff.mp e
 unfold PySem.W.clsIn at a
 split at a
 ·rename_i c1 d1 cd1 s1 lk
  cases a
  have z:=(X _ _ lk).symm.trans hC
  unfold excClassObj at z
  cases z
  split at b
  ·cases b
  ·exact Option.some.inj b
 ·cases a
section
variable{X:Cx}{pins:List (Addr×Obj)}{σ : St}{H:Hp}{s s':Shared}
def catchK(K:PySem.W.Frag)(Dv:Addr)(n y:Nat)(D:Ends)(σ : St):XK:=fun c d H2=>∃C,c = .ref C∧SubC K C Dv∧∀e,H2 e=none→D.nx (((σ.set n (some (.ref e))).set y (some (.ref e))).set n none) (upd H2 e (excOd e C d))
theorem caught{v:Str}{Dv:Addr}{n y:Nat}{xn xy:Str}{D:Ends}{vp p1 p2 p3 pos:Pos}{e:Value}(I:Inv X pins σ H s)(o:OwnFr X)(hg:Gl X v)(V:ExcV X.K X.mg v Dv)(hN:X.N.Nodup)(hn:X.N[n]? = some xn)(hy:X.N[y]? = some xy)
  (ln:X.env.scope.names.lookup xn=some .local) (ly:X.env.scope.names.lookup xy=some .local) (hnd:(xn == ("__debug__" : Str))=false) (hnc:(xn == ("__classdict__" : Str))=false)
  (hsw:swapsWith (.Name xn p2) (some (.Name xy p1)) p3.line X.env=pure false)
  (h:CXE X.prog X.w X.stack H s (catchK X.K Dv n y D σ) e s') (hdb:(v == ("__debug__" : Str))=false:=by decide) :
  wpAny (model X.prog X.w) X.A (noteFrame e X.env) (fun _ s₂=>wpAny (model X.prog X.w) X.A (setFlight e none) (fun _ s₃ =>
   wpAny (model X.prog X.w) X.A (handleBy e X.env [.ExceptHandler (some (.Name v vp)) (some xn) [.Assign [.Name xy p1] (.Name xn p2) p3] pos]) (SP X pins D) X.xe s₃) X.xe s₂) X.xe s':=by
 obtain ⟨ea,C,a0,B,H',d,rfl,fl,g,hos,bare,C',eC,⟨okC,mro⟩,k⟩:=h
 cases eC
 have hfr:X.A.frames=some (X.env :: X.outer):=o.stk ▸ I.ok.frames
 rw [o.stk] at fl
 have be:B.get? ea=none:=fl.1.2.1
 refine looks_onP noF_dict hfr o.frm fl fun h4 held4 at4 up4=>?_
 refine landsP (s:={ s' with heap:=h4 }) held4 at4 fun h5 fl5 up5=>?_
 have up45:=up4.trans up5
 have I5:Inv X pins σ H' { s' with heap:=h5 }:=I.back o g hos bare fl5.1.1 up45
 obtain ⟨oe5,he5,hc5⟩:=fl5.1.there
 have I5m:=I5.marked ea
 refine wpAny_handleBy_cons (codeAny_handlers_test (ld_glob (X:=X.marked ea) I5m hg V.at_ ?_ hdb)) (by intro q;cases q)
 obtain ⟨tl,N,nm,q,bs,hdct,sn,sub,ab,col,dd,k0,k1,k2,k3,k5,nwC,hC⟩:=okC _ I5.kIn
 obtain ⟨bmV,nwV,okV,hbV⟩:=V.ok
 obtain ⟨tl',N',nm',q',bs',hdct',sn',sub',ab',col',dd',j0,j1,j2,j3,j5,mN',hV,_,_,TV⟩:=exc_obj I5.kIn okV
 refine exc_matches hC hV he5 hc5 (TV.hasType hbV) (mro_sub I5.kIn hC mro) ?_
 refine codeAny_handlers_suite_as ?_
 refine lands_againP (s:={ s' with heap:=h5 }) fl5 fun h6 fl6 up6=>?_
 have I6:Inv X pins σ H' { s' with heap:=h6 }:=I.back o g hos bare fl6.1.1 (up45.trans up6)
 obtain ⟨oe,ws,he,hc,hdat,_⟩:=fl6.1.first
 have hdx:oe.dict=d:=by
  obtain ⟨o',q1,q2⟩:=fl6.2
  cases he.symm.trans q1;exact q2
 have se:s.heap.get? ea=none:=by
  cases z:s.heap.get? ea with
  | none=>rfl
  | some ob =>
   by_cases hb:ea∈L2.frs X.stack
   ·rw [o.stk] at hb
    obtain ⟨_,o2,ho2,d2⟩:=fl6.1.2.2.1.mem hb
    rw [he] at ho2
    cases ho2
    exact absurd hdat (d2 _)
   ·obtain ⟨o',e1⟩:=g.there ea ob z hb
    rw [be] at e1
    cases e1
 have s0e:X.s₀.heap.get? ea=none:=by
  cases z:X.s₀.heap.get? ea with
  | none=>rfl
  | some ob =>
   obtain ⟨o',e1⟩:=I.base.there ea ob z (fun q=>by rw [o.exs] at q;cases q)
   rw [se] at e1
   cases e1
 have hL:ea≠X.env.locals:=fun z=>by
  obtain ⟨m,⟨ob,_,_,ho,_⟩,_⟩:=I.loc
  rw [← z,se] at ho
  cases ho
 have hcl:∀x c,X.env.cells.lookup x=some c→c≠ea:=fun x c q z=>by
  obtain ⟨v',ob,ho,_⟩:=I.cell x c q
  rw [z,se] at ho
  cases ho
 have hpn:∀p∈X.pn++pins,p.1≠ea:=fun p hp z=>by
  have ho:=(I.pin p hp).1
  rw [z,se] at ho
  cases ho
 have hfree:H' ea=none:=by
  cases z:H' ea with
  | none=>rfl
  | some u =>
   obtain ⟨ob,e1⟩:=(g.hok ea u z).there
   rw [be] at e1
   cases e1
 have I7:Inv X pins σ (upd H' ea (excOd ea C d)) { s' with heap:=h6 }:=I6.track hfree s0e hL hcl hpn (excOd_ok he hc hdx (by unfold PySem.W.notCls;rw [hdat]))
 refine store_ok (X:=X.marked ea) (I7.marked ea) hN hn (.inl ln) (v:=.ref ea) rfl (fun s8 I8=>?_) (.inr ln)
 have suite:PSs (X.marked ea) [.Assign [.Name xy p1] (.Name xn p2) p3] (tAsg (tVar n) (gName y)):=pss_one (ps_set hN hy (.inl ly) (pe_var hn (.inl ln) hnd hnc) hsw (.inr ly))
 have hiσ : n < σ.length:=by rw [I.len];exact (List.getElem?_eq_some_iff.mp hn).1
 refine wpAny_mono (suite pins s8 _ _ { nx:=fun σ9 H9=>D.nx (σ9.set n none) H9,rt:=fun _ _=>False } I8 ⟨.ref ea,List.getElem?_set_self hiσ,k ea hfree⟩) (fun f s9 q9=>?_) fun _ _ z=>z.elim
 cases f with
 | next =>
  obtain ⟨σ9,H9,I9,q⟩:=q9
  exact unset_ok (I9.unmarked I.ok) hN hn ln fun s10 I10=>⟨_,H9,I10,q⟩
 | ret u=>obtain ⟨_,_,_,_,_,z⟩:=q9;exact z.elim
 | brk=>obtain ⟨_,_,_,z⟩:=q9;exact z.elim
 | cont=>obtain ⟨_,_,_,z⟩:=q9;exact z.elim
end
end L2
namespace L2
open PySem PySem.Spec PyProof.Rows
section
variable{X:Cx}{es:List Expr}{t:TA}
end
section
variable{X:Cx}{k:Nat}{ps:List Str}{sp:Sp}{fx v xn xy xa:Str}{Dv:Addr}{n y i:Nat}{fp cp ap vp p0 p1 p2 p3 hp pos ep:Pos}{e:Expr}{es:List Expr}{t:TA}
theorem try_call{pins:List (Addr×Obj)}{σ : St}{H:Hp}{s:Shared}{Q:VK}{D:Ends}(F:FnC X.prog X.w X.K X.mg X.base (CXE X.prog X.w) k fx ps sp)(hr:Room k X.A)(o:OwnFr X)(hgf:Gl X fx)(ha:PA X.nox (e :: es) t)
  (hg:Gl X v) (V:ExcV X.K X.mg v Dv) (hN:X.N.Nodup) (hn:X.N[n]? = some xn) (hy:X.N[y]? = some xy) (ln:X.env.scope.names.lookup xn=some .local) (ly:X.env.scope.names.lookup xy=some .local)
  (hnd:(xn == ("__debug__" : Str))=false) (hnc:(xn == ("__classdict__" : Str))=false) (hsw:swapsWith (.Name xn p2) (some (.Name xy p1)) p3.line X.env=pure false)
  (hvd:(v == ("__debug__" : Str))=false) (hfd:(fx == ("__debug__" : Str))=false) (he:starEach (e :: es) X.env=(false,eval e X.env) :: starEach es X.env) (hpl:(backTo cp (starEach es X.env)).any (·.1)=false)
  (I:Inv X pins σ H s) (h:t σ H fun vs H1=>sp (vs++[]) H1 Q (catchK X.K Dv n y D σ)) :
  wpAny (model X.prog X.w) X.A (eval (.Call (.Name fx fp) (e :: es) [] cp) X.env) (EP X pins σ Q)
   (fun e' s'=>wpAny (model X.prog X.w) X.A (noteFrame e' X.env) (fun _ s₂=>wpAny (model X.prog X.w) X.A (setFlight e' none) (fun _ s₃ =>
    wpAny (model X.prog X.w) X.A (handleBy e' X.env [.ExceptHandler (some (.Name v vp)) (some xn) [.Assign [.Name xy p1] (.Name xn p2) p3] hp]) (SP X pins D) X.xe s₃) X.xe s₂) X.xe s') s:=by
 obtain ⟨f,fd,G,hm,kp,hb⟩:=F.ex
 refine wpAny_Call_Name_kw (ld_glob I hgf hm ?_ hfd)
 refine PySem.W.callWith_K (h₀:=X.base) I.ok.mod.kin kp (wpAny_mono (ha cp pins s σ H _ (I.wish fun _ _=>False) h) (fun us s1 ⟨vs,H1,I1,r,q⟩=>⟨I1.kIn,?_⟩) fun _ _ z=>z.elim) he hpl
 have J1:Inv X pins σ H1 s1:=I1.unwish
 have r2:Vals (vs++[]) (us++[]):=r.append .nil
 have hl:(us++[]).length=ps.length:=by rw [← r2.length];exact G.len _ _ _ _ q
 refine wpAny_call (codeAny_mono (G.run X.A X.stack s1 H1 ⟨us,[]⟩ (us++[]) (vs++[]) Q _ hr J1.env0 (hb s1 us J1.kIn hl) r2 q) fun res s' hq=>?_)
 cases res with
 | error e'=>exact caught J1 o hg V hN hn hy ln ly hnd hnc hsw hq hvd
 | ok fl =>
  cases fl with
  | ret u=>exact J1.after hq
  | next=>exact False.elim hq
  | brk=>exact False.elim hq
  | cont=>exact False.elim hq
def tTryA(K:PySem.W.Frag)(sp:Sp)(Dv:Addr)(i n y:Nat)(t:TA):TS:=fun D σ H=>t σ H fun vs H1=>sp (vs++[]) H1 (fun x H2=>D.nx (σ.set i (some x)) H2) (catchK K Dv n y D σ)
theorem ps_tryA(F:FnC X.prog X.w X.K X.mg X.base (CXE X.prog X.w) k fx ps sp)(hr:Room k X.A)(o:OwnFr X)(hgf:Gl X fx)(ha:PA X.nox (e :: es) t)
  (hg:Gl X v) (V:ExcV X.K X.mg v Dv) (hN:X.N.Nodup) (hi:X.N[i]? = some xa) (la:X.env.scope.names.lookup xa=some .local) (hn:X.N[n]? = some xn) (hy:X.N[y]? = some xy) (ln:X.env.scope.names.lookup xn=some .local) (ly:X.env.scope.names.lookup xy=some .local)
  (hnd:(xn == ("__debug__" : Str))=false:=by decide) (hnc:(xn == ("__classdict__" : Str))=false:=by decide) (hsw:swapsWith (.Name xn p2) (some (.Name xy p1)) p3.line X.env=pure false:=by rfl)
  (hvd:(v == ("__debug__" : Str))=false:=by decide) (hfd:(fx == ("__debug__" : Str))=false:=by decide) (he:starEach (e :: es) X.env=(false,eval e X.env) :: starEach es X.env:=by rfl) (hpl:(backTo cp (starEach es X.env)).any (·.1)=false:=by rfl)
  (hsa:swapsWith (.Call (.Name fx fp) (e :: es) [] cp) (some (.Name xa p0)) ap.line X.env=pure false:=by rfl) :
  PS X (.Try [.Assign [.Name xa p0] (.Call (.Name fx fp) (e :: es) [] cp) ap] [.ExceptHandler (some (.Name v vp)) (some xn) [.Assign [.Name xy p1] (.Name xn p2) p3] hp] [] [] pos) (tTryA X.K sp Dv i n y t):=by
 intro pins s σ H D I h
 refine wpAny_Try_except (wpAny_execs_cons (wpAny_Assign_Name (wpAny_mono (try_call (D:=D) F hr o hgf ha hg V hN hn hy ln ly hnd hnc hsw hvd hfd he hpl I h) (fun u s1 ⟨x,H2,I2,r,q⟩=>?_) fun _ _ z=>z) hsa))
 exact store_ok I2 hN hi (.inl la) r (fun s3 I3=>wpAny_execs_nil (wpAny_execs_nil ⟨_,H2,I3,q⟩)) (.inr la)
end
end L2
namespace L2
open PySem PySem.Spec PyProof.Rows
end L2
namespace L2
open PySem PySem.Spec PyProof.Rows PySem.W Builtin Builtin.ObjectAttr Builtin.Getset_descriptor
structure ExcA (K:PySem.W.Frag) (C:Addr):Prop where
 ga:findIn K (.ref C) "__getattribute__" = some (some (.builtin "BaseException.__getattribute__"))
 hk:findIn K (.ref C) "__getattr__" = some none
 cl:findIn K (.ref C) "__class__" = some (some (.builtin "object.__class__"))
 gt:specialIn K (.builtin "object.__class__") "__get__" = some (some (.builtin "getset_descriptor.__get__"))
 tk:takesIn K (.builtin "object.__class__")=some true
 ob:mroIn K C (.type "object")=some true
 be:mroIn K C (.type "BaseException")=some true
section
variable{prog:Program}{w:World}{A:Around}{E:Value→Shared→Prop}{s:Shared}{K:Frag}{x C:Addr}{R:Result→Shared→Prop}
def TyLk(h:Heap)(x C:Addr):Prop:=∃o,h.get? x=some o∧o.cls = .ref C
theorem TyLk.look{h:Heap}(i:TyLk h x C)(M:Model):Looks M h (typeOf (.ref x)) (.ref C):=by
 obtain ⟨o,h1,h2⟩:=i
 exact h2 ▸ (Looks.ld h1).andThen .now
theorem exc_class_get {tp:Value} (X:K.In s.heap) (i:TyLk s.heap x C) (hm:mroIn K C (.type "object")=some true) (h:R (.ok (.ret (.ref C))) s) :
  codeAny (model prog w) A (.call (.builtin "getset_descriptor.__get__") ⟨[.builtin "object.__class__",.ref x,tp],[]⟩) R s:=by
 obtain ⟨hh,g,dr,t,os⟩:=s
 have L0:=i.look (model prog w)
 have L1:=looks_mroIn (M:=model prog w) X hm
 refine codeAny_call_builtin KF.slot_gs.plain KF.entry_gs (KF.slot_gs.check _ _ _ _ _ _ _ _ KF.type_class (KF.args_gs _ _ _) ?_)
 unfold Builtin.«getset_descriptor.__get__» descrGet
 rw [dga_obj]
 refine wpAny_bind (wpAny_pure ?_)
 unfold descrGetter descrCheckInstance descrNameAndClass isInstance
 simp only [KF.owner_class]
 repeat lk
 refine ⟨Code.quiet_builtin _ (by decide +kernel),codeAny_builtin KF.entry_class ?_⟩
 unfold Builtin.«object.__class__» shownTypeOf
 repeat lk
 exact h
end
end L2
namespace L2
open PySem PySem.Spec PyProof.Rows PySem.W Builtin Builtin.ObjectAttr Builtin.Getset_descriptor
section
variable{prog:Program}{w:World}{A:Around}{E:Value→Shared→Prop}{s:Shared}{K:Frag}{x C:Addr}
theorem bga_check {M:Model} {rest:List Value} {Q:Unit→Shared→Prop} (X:K.In s.heap) (i:TyLk s.heap x C) (hb:mroIn K C (.type "BaseException")=some true) (ha:argsOk "BaseException.__getattribute__" ⟨.ref x :: rest,[]⟩) (hq:Q () s) :
  wpAny M A (checkBuiltinCall "BaseException.__getattribute__" ⟨.ref x :: rest,[]⟩) Q E s:=by
 obtain ⟨hh,g,d,t,os⟩:=s
 have kd:builtinKind "BaseException.__getattribute__" = some .slot:=by decide +kernel
 have sp:splitId "BaseException.__getattribute__" = some ("BaseException","__getattribute__"):=by decide +kernel
 have LI:Looks M hh (isInstance (.ref x) (.type "BaseException")) true:=(i.look M).andThen (looks_mroIn X hb)
 simp only [checkBuiltinCall,kd,sp]
 refine wpAny_bind (LI.at ?_)
 simp only [Bool.not_true,Bool.false_eq_true,if_false]
 cases sg:Manifest.signature? "BaseException.__getattribute__" with
 | none=>exact wpAny_pure hq
 | some v =>
  simp only [argsOk,sg] at ha
  have h2:Bind.checkArgs "BaseException.__getattribute__" v ⟨.ref x :: rest,[]⟩=pure ():=ha
  show wpAny M A (Bind.checkArgs "BaseException.__getattribute__" v ⟨.ref x :: rest,[]⟩) Q E _
  rw [h2]
  exact wpAny_pure hq
theorem exc_find {M:Model} {h:Heap} (X:K.In h) (a:ExcA K C):Looks M h (find (.ref x) (.ref C) "__class__") (.bind (.builtin "getset_descriptor.__get__") (.builtin "object.__class__")):=by
 have L1:=looks_findIn (M:=M) X a.cl
 have L2:Looks M h (getOf (some (.builtin "object.__class__"))) (some (.builtin "getset_descriptor.__get__")):=looks_specialIn X a.gt
 have L3:=looks_takesIn (M:=M) X a.tk
 refine L1.andThen (L2.andThen ?_)
 exact (show Looks M h (dataDescriptor? (some (.builtin "object.__class__")) (some (.builtin "getset_descriptor.__get__"))) (some (.builtin "getset_descriptor.__get__",.builtin "object.__class__")) from L3.andThen .now).andThen (Looks.tag .now)
theorem exc_ga{tk:Tok}{Q:Fin→Shared→Prop}(X:K.In s.heap)(i:TyLk s.heap x C)(a:ExcA K C)(h:Q (.done (.ret (.ref C))) s) :
  wpAny (model prog w) A (Builtin.«object.__getattribute__» ⟨[.ref x,.str "__class__" tk],[]⟩) Q E s:=by
 obtain ⟨hh,g,d,t,os⟩:=s
 have L0:=i.look (model prog w)
 have L1:=exc_find (M:=model prog w) (x:=x) X a
 unfold Builtin.«object.__getattribute__»
 repeat lk
 refine wpAny_run (exc_class_get X i a.ob ?_)
 repeat lk
 exact h
theorem exc_class {Q:Option Value→Shared→Prop} (X:K.In s.heap) (i:TyLk s.heap x C) (a:ExcA K C) (h:Q (some (.ref C)) { s with toks:=s.toks+1 }):wpAny (model prog w) A (getAttr? (.ref x) "__class__") Q E s:=by
 obtain ⟨hh,g,d,t,os⟩:=s
 have L0:=i.look (model prog w)
 have L1:=looks_findIn (M:=model prog w) X a.ga
 have L2:=looks_findIn (M:=model prog w) X a.hk
 unfold getAttr? getAttrBy? getAttrBy
 refine wpAny_bind (wpAny_mkText (wpAny_bind (wpAny_attempt (wpAny_holding (wpAny_bind (L0.at (wpAny_bind (L1.at ?_))))))))
 show wpAny _ _ (getAttrByItsOwn _ _ _ _ _ _) _ _ _
 unfold getAttrByItsOwn hookBefore
 refine wpAny_bind ?_
 rw [if_pos (show onTheHeap (Value.ref C)=true from rfl)]
 refine L2.at ?_
 refine wpAny_bind (wpAny_attempt (wpAny_holding ?_))
 unfold callGetattribute
 rw [if_neg (by intro z;cases z)]
 unfold boundAndCalled
 rw [F.excAttr_ValueError.ga.bind (.ref x)]
 refine wpAny_bind (wpAny_pure ?_)
 refine wpAny_call (codeAny_call_builtin F.excAttr_ValueError.ga.plain F.entry_bexc_ga (bga_check X i a.be (F.args_bexc_ga _ _) (exc_ga X i a ?_)))
 show wpAny (model prog w) A (handedOut (.ref C)) _ _ _
 rw [handedOut_of (v:=.ref C) rfl]
 exact wpAny_pure (wpAny_pure h)
theorem exc_cls_obj{h:Heap}(X:K.In h)(a:ExcA K C):∃c d cd sl,h.get? C=some ⟨c,d,.cls cd,sl⟩:=by
 obtain ⟨cd,hc,_⟩:=Option.bind_eq_some_iff.mp a.ob
 unfold clsIn at hc
 split at hc
 ·rename_i c1 d1 cd1 s1 lk
  exact ⟨c1,d1,cd1,s1,X _ _ lk⟩
 ·cases hc
theorem kitx_exc(a:ExcA K C):KitX K (.ref x) (.ref C) (fun h=>TyLk h x C) where
 ty:=fun M h _ p=>p.look M
 it:=fun M h X _=>by
  obtain ⟨c1,d1,cd1,s1,ho⟩:=exc_cls_obj X a
  intro A' Q' E' s' k q
  unfold isType loadHead
  exact wpAny_bind (wpAny_loadPart (k _ _ ho) (wpAny_pure q))
 ne:=fun h tp dd its n sl X htp=>by
  obtain ⟨c1,d1,cd1,s1,ho⟩:=exc_cls_obj X a
  refine Bool.eq_false_iff.mpr fun q=>?_
  have e:C=tp:=Value.ref.inj (beq_iff_eq.mp q)
  subst e
  have z:=ho.symm.trans htp
  cases z
 ca:=fun X p k=>exc_class X p a k
end
def KitE(K:Frag)(C:Addr)(c:V)(b:Bool):Prop:=match c with
 | .ref D=>kitOne K (.ref C) (.ref D)=some b
 | .ty n=>kitOne K (.ref C) (.type n)=some b
 | _=>False
abbrev rIsiE(K:Frag):List V→Hp→VK→Prop:=fun xs H Q=>∃e C c b,xs=[.ref e,c]∧ExH H e C∧ExcA K C∧KitE K C c b∧Q (.bl b) H
theorem call_isiE {X:Cx}:CallR X (.builtin "isinstance") (rIsiE X.K):=by
 intro pins s σ H xs us Q I r h
 obtain ⟨e,C,c,b,rfl,he,a,k,q⟩:=h
 obtain ⟨u,u',rfl,rx,ry⟩:=vals2 r
 obtain rfl:u=Value.ref e:=rx
 have ty:TyLk s.heap e C:=by
  obtain ⟨d,he⟩:=he
  cases d with
  | none=>exact (I.hok e _ he).1
  | some dx=>obtain ⟨oe,h1,h2,_⟩:=(I.hok e _ he).1;exact ⟨oe,h1,h2⟩
 have fin:∀tk,EP X pins σ Q (.bool b) { s with toks:=tk }:=fun tk=>⟨.bl b,H,I.tok tk,rfl,q⟩
 cases c with
 | ref D =>
  obtain rfl:u'=Value.ref D:=ry
  exact kia_one (kitx_exc a) I.kIn ty k (fun z=>nomatch z) fin
 | ty n =>
  obtain rfl:u'=Value.type n:=ry
  exact kia_one (kitx_exc a) I.kIn ty k (fun z=>nomatch z) fin
 | non=>exact k.elim
 | bl _=>exact k.elim
 | int _=>exact k.elim
 | str _=>exact k.elim
 | byt _=>exact k.elim
 | flt _=>exact k.elim
theorem kitE_of {K:Frag} {C D:Addr} {b:Bool} {cd:ClassData} (h:mroIn K C (.ref D)=some b) (hs:mroIn K C (.ref C)=some true) (ht:typeIn K (.ref D)=some (.type "type")) (hc:clsIn K D=some cd):KitE K C (.ref D) b:=by
 show kitOne K (.ref C) (.ref D)=some b
 unfold kitOne
 by_cases e:C=D
 ·subst e
  rw [hs] at h
  cases h
  rw [if_pos (beq_self_eq_true _)]
 ·rw [if_neg (fun z=>e (Value.ref.inj (beq_iff_eq.mp z)))]
  unfold kitCls
  dsimp only
  rw [if_pos (show ((clsIn K D).isSome && typeIn K (.ref D) == some (.type "type"))=true by rw [hc,ht];rfl)]
  exact h
theorem kitE_ty{K:Frag}{C:Addr}{n:String}{b:Bool}(h:mroIn K C (.type n)=some b)(hm:kitMeta n=true):KitE K C (.ty n) b:=by
 show kitOne K (.ref C) (.type n)=some b
 unfold kitOne
 rw [if_neg (fun z=>by cases beq_iff_eq.mp z)]
 unfold kitCls
 dsimp only
 rw [if_pos hm]
 exact h
end L2
namespace L2
open PySem PySem.Spec PyProof.Rows
section
variable{prog:Program}{w:World}{A:Around}{E:Value→Shared→Prop}{h:Heap}{g:Array GenState}{d:Drawn}{t:Nat}{os:OsState}
variable{nm q:Str}{C N:Addr}{bs bm bmB:List Value}{hdct:Bool}{sn:List Str}{sub:List Value}{ab:Bool}{col:Option Bool}{dd:Option Addr}{k0 k1 k2 k3 k5:Option Value}{B newId initId:String}
abbrev excObj(C t:Addr)(dx:Option Addr):Obj:={ cls:=.ref C,dict:=dx,data:=.fields #[.ref t,.none,.none,.none,.bool false,.none] }
theorem tcall_exi{K:PySem.W.Frag}(F:ExcBaseFacts B newId initId bmB)(T:OwnTail h bmB bm){rest:List Value}{fI:Addr}{oI:Obj}{Q:Fin→Shared→Prop}(X:K.In h)
  (hC:h.get? C=some (excClassObj nm q C N bs bm hdct sn sub ab col dd k0 k1 k2 k3 k5 newId)) (hi:PySem.W.findIn K (.ref C) "__init__" = some (some (.ref fI))) (hfI:h.get? fI=some oI) (hfc:oI.cls = .type "function")
  (hq:wpAny (model prog w) A (call (.ref fI) (.ref (h.objs.size+1) :: rest)) (fun r s'=>r = .none∧Q (.done (.ret (.ref (h.objs.size+1)))) s') E ⟨(h.push { cls:=.type "tuple",data:=.seq rest.toArray }).push (excObj C h.objs.size none),g,d,t,os⟩) (hrest:rest.length≤sizeLine) :
  wpAny (model prog w) A (Builtin.«type.__call__» ⟨.ref C :: rest,[]⟩) Q E ⟨h,g,d,t,os⟩:=by
 repeat (first | with_reducible refine wpAny_loadPart_at hC ?_ | with_reducible refine wpAny_madeBy_exc hC ?_ | wp_step)
 refine codeAny_call_builtin_code (Code.quiet_builtin _ F.quiet) (wpAny_check_new_subT F T hC (codeAny_exc_new_subT F T hC (?_:wpAny _ _ _ _ _ _) hrest))
 have up:∀b o,h.get? b=some o→((h.push { cls:=.type "tuple",data:=.seq rest.toArray }).push { cls:=.ref C,data:=.fields #[.ref h.objs.size,.none,.none,.none,.bool false,.none] }).get? b=some o:=fun b o e=>Heap.get?_push_of_some _ (Heap.get?_push_of_some _ e)
 have hC1:=up _ _ hC
 have hfI1:=up _ _ hfI
 have X1:=X.keeps up
 have hget:((h.push { cls:=.type "tuple",data:=.seq rest.toArray }).push { cls:=.ref C,data:=.fields #[.ref h.objs.size,.none,.none,.none,.bool false,.none] }).get? (h.objs.size+1)=some { cls:=.ref C,data:=.fields #[.ref h.objs.size,.none,.none,.none,.bool false,.none] }:=by heap_get
 have hcC:(Value.ref C :: bm).contains (.ref C)=true:=by simp
 unfold isInstance
 repeat (first | with_reducible refine wpAny_loadPart_at hget ?_ | (with_reducible refine wpAny_isSubtype_exc hC1 ?_;rw [hcC]) | wp_step)
 refine (?_:wpAny _ _ (typeLookup (.ref C) _) _ _ _)
 refine PySem.W.Looks.here (PySem.W.looks_findIn X1 hi) ?_
 refine wpAny_holding (wpAny_bind ?_)
 unfold bindSpecial
 refine wpAny_bind (wpAny_typeOf (T:="function") ⟨_,hfI1,hfc⟩ ?_)
 rw [if_pos (by decide)]
 refine wpAny_pure (wpAny_bind (wpAny_mono hq (fun r s' hr=>?_) fun _ _ x=>x))
 obtain ⟨rfl,hQ⟩:=hr
 wp_walk
 exact hQ
theorem call_exi{K:PySem.W.Frag}(F:ExcBaseFacts B newId initId bmB)(T:OwnTail h bmB bm){rest:List Value}{fI:Addr}{oI:Obj}{Q:Value→Shared→Prop}(X:K.In h)
  (hC:h.get? C=some (excClassObj nm q C N bs bm hdct sn sub ab col dd k0 k1 k2 k3 k5 newId)) (hi:PySem.W.findIn K (.ref C) "__init__" = some (some (.ref fI))) (hfI:h.get? fI=some oI) (hfc:oI.cls = .type "function")
  (hq:wpAny (model prog w) (A.under (.builtin "type.__call__" ⟨.ref C :: rest,[]⟩)) (call (.ref fI) (.ref (h.objs.size+1) :: rest)) (fun r s'=>r = .none∧Q (.ref (h.objs.size+1)) s') E ⟨(h.push { cls:=.type "tuple",data:=.seq rest.toArray }).push (excObj C h.objs.size none),g,d,t,os⟩) (hrest:rest.length≤sizeLine) :
  wpAny (model prog w) A (call (.ref C) rest) Q E ⟨h,g,d,t,os⟩:=by
 have f1:=tc_lookup
 have f2:=tc_bind (.ref C)
 have hT:(⟨h,g,d,t,os⟩:Shared).TypeIs (.ref C) "type":=⟨_,hC,rfl⟩
 refine wpAny_call (codeAny_of_tree (?_:wpAny _ _ (callAny (.ref C) _) _ _ _))
 repeat (any_goals (first | assumption | with_reducible refine wpAny_loadPart_at hC ?_ | wp_step))
 exact ⟨rfl,codeAny_call_builtin_at (Code.quiet_builtin _ (by decide +kernel)) entry_typeCall (wpAny_check_type_call_sub hC (tcall_exi F T X hC hi hfI hfc hq hrest))⟩
end
end L2
namespace L2
open PySem PySem.Spec PyProof.Rows PySem.W
section
variable{prog:Program}{w:World}{A:Around}{E:Value→Shared→Prop}{h:Heap}{g:Array GenState}{d:Drawn}{t:Nat}{os:OsState}
variable{nm q:Str}{C N:Addr}{bs bm bmB:List Value}{hdct:Bool}{sn:List Str}{sub:List Value}{ab:Bool}{col:Option Bool}{dd:Option Addr}{k0 k1 k2 k3 k5:Option Value}{B newId initId:String}
theorem base_init(F:ExcBaseFacts B newId initId bmB)(T:OwnTail h bmB bm){rest:List Value}{e t0:Addr}{dx:Option Addr}{Q:Value→Shared→Prop}
  (hC:h.get? C=some (excClassObj nm q C N bs bm hdct sn sub ab col dd k0 k1 k2 k3 k5 newId)) (he:h.get? e=some (excObj C t0 dx))
  (hq:∀h' t1,(∀b o,b≠e→h.get? b=some o→h'.get? b=some o)→h'.get? e=some (excObj C t1 dx)→Q .none ⟨h',g,d,t,os⟩) (hrest:rest.length≤sizeLine) :
  wpAny (model prog w) A (call (.builtin initId) (.ref e :: rest)) Q E ⟨h,g,d,t,os⟩:=by
 refine wpAny_call (codeAny_call_builtin F.init.plain F.initEntry (wpAny_check_init_subT F T hC he rfl ?_))
 wp_walk
 have ne:h.objs.size≠e:=Nat.ne_of_gt (Heap.lt_size he)
 refine hq _ h.objs.size (fun b o nb hb=>?_) ?_
 ·rw [Heap.get?_update_other _ _ (Ne.symm nb)];exact Heap.get?_push_of_some _ hb
 ·rw [Heap.get?_update_self _ (Heap.get?_push_of_some _ he) rfl];rfl
end
section
variable{prog:Program}{w:World}{A:Around}{E:Value→Shared→Prop}{s:Shared}{K:Frag}{x C:Addr}{R:Result→Shared→Prop}{name:Str}{v:Value}
structure ExcF (K:Frag) (C:Addr) (f:Str):Prop where
 sa:findIn K (.ref C) "__setattr__" = some (some (.builtin "object.__setattr__"))
 no:findIn K (.ref C) f=some none
 hd:hasDictIn K C=true
 mro:∃cd tl,clsIn K C=some cd∧cd.mro=tl++[.type "ValueError",.type "Exception",.type "BaseException",.type "object"]∧tl.all (fun | .ref _=>true | _=>false)=true
 ob:mroIn K C (.type "object")=some true
theorem refuse_tail (self:Value):∀{l r:List Value},l.all (fun | .ref _=>true | _=>false)=true→refuseLoop self "__setattr__" r=pure ()→refuseLoop self "__setattr__" (l++r)=pure ()
 | [],_,_,e=>e
 | .ref c :: l,r,a,e=>by rw [List.cons_append,refuseLoop_ref];exact refuse_tail self (by simpa using a) e
theorem exc_store{t0:Addr}{Q:Unit→Shared→Prop}(X:K.In s.heap)(hx:s.heap.get? x=some (excObj C t0 none))(a:ExcF K C name)
  (h:∀h' tk,h'.Ns1 s.heap.objs.size (fun y=>if y=name then some v else none)→h'.get? x=some (excObj C t0 (some s.heap.objs.size))→(∀b o,b≠x→s.heap.get? b=some o→h'.get? b=some o)→Q () { s with heap:=h',toks:=tk }) :
  wpAny (model prog w) A (setAttr (.ref x) name v) Q E s:=by
 have SF:=PySem.F.store_ValueError
 obtain ⟨cd,tl,hc,hm,htl⟩:=a.mro
 have I:InstAt s.heap x (excObj C t0 none) C none:=⟨hx,rfl,rfl,trivial⟩
 refine set_plain X I a.sa ?_
 have sub:Looks (model prog w) s.heap (isInstance (.ref x) (.type "object")) true:=I.type.andThen (looks_mroIn X a.ob)
 refine codeAny_call_builtin SF.slot.plain SF.entry (@check_slot (model prog w) _ _ { s with toks:=s.toks+1 } "object.__setattr__" "object" "__setattr__" (.ref x) [.str name s.toks,v] [] _ SF.kind SF.split sub (SF.args (.ref x) (.str name s.toks) v) ?_)
 have hmro:Looks (model prog w) s.heap (mroOf (.ref C)) cd.mro:=(looks_clsIn X hc).andThen .now
 rw [osa_eq,refuse_eq]
 refine wpAny_bind (wpAny_bind (Looks.here (s:={ s with toks:=s.toks+1 }) I.type (wpAny_bind (Looks.here (s:={ s with toks:=s.toks+1 }) hmro ?_))))
 rw [hm,refuse_tail _ htl (SF.passes _)]
 refine wpAny_pure (wpAny_bind (Looks.here (s:={ s with toks:=s.toks+1 }) I.type (wpAny_bind (Looks.here (s:={ s with toks:=s.toks+1 }) (looks_findIn X a.no) (wpAny_bind (wpAny_pure ?_))))))
 obtain ⟨cd',hc',hd'⟩:=any_some a.hd
 cases hc.symm.trans hc'
 have xs:x≠s.heap.objs.size:=Nat.ne_of_lt (Heap.lt_size hx)
 have hx1:(s.heap.push { cls:=.type "dict",data:=.dict #[] }).get? x=some (excObj C t0 none):=Heap.get?_push_of_some _ hx
 refine wpAny_bind (wpAny_pure (wpAny_bind (wpAny_bind (wpAny_loadPart hx (wpAny_bind (Looks.here (s:={ s with toks:=s.toks+1 }) (looks_clsIn X hc) ?_))))))
 rw [hd']
 have hx2:((s.heap.push { cls:=.type "dict",data:=.dict #[] }).update x fun o=>{ cls:=o.cls,dict:=some s.heap.objs.size,data:=o.data,slots:=o.slots }).get? x=some (excObj C t0 (some s.heap.objs.size)):=Heap.get?_update_self _ hx1 rfl
 have hgd:((s.heap.push { cls:=.type "dict",data:=.dict #[] }).update x fun o=>{ cls:=o.cls,dict:=some s.heap.objs.size,data:=o.data,slots:=o.slots }).get? s.heap.objs.size=some { cls:=.type "dict",data:=.dict #[] }:=(Heap.get?_update_ne _ _ _ _ xs.symm).trans (Heap.get?_push_at rfl rfl)
 have hnd:((s.heap.push { cls:=.type "dict",data:=.dict #[] }).update x fun o=>{ cls:=o.cls,dict:=some s.heap.objs.size,data:=o.data,slots:=o.slots }).Ns s.heap.objs.size (fun _=>none):=⟨_,#[],_,hgd,rfl,fun e he=>absurd he (by simp),fun _=>rfl⟩
 refine wpAny_bind (wpAny_alloc' (wpAny_bind (wpAny_update' hx1 (wpAny_pure (a:=some s.heap.objs.size) ?_))))
 refine wpAny_bind (wpAny_pure (wpAny_bind (wpAny_nsSet1 (Heap.Ns1.of_empty hnd) fun h' hn' hs=>?_)))
 obtain ⟨oD,esD,epD,hoD,hdD,hcD⟩:=hn'.count (PySem.Within.cons name v PySem.Within.nil)
 refine wpAny_bind (wpAny_lookBehind hoD (by rw [hdD];exact pastItsLine_dict (Nat.le_trans hcD (by rw [List.length_cons,List.length_nil,sizeLine_eq];omega))) ?_)
 exact wpAny_pure (h _ _ hn' ((hs.2 x xs).trans hx2) fun b o nb hb=>(hs.2 b (Nat.ne_of_lt (Heap.lt_size hb))).trans ((Heap.get?_update_ne _ _ _ _ nb).trans (Heap.get?_push_of_some _ hb)))
theorem exc_load{dx:Addr}{ox:Obj}{mA:Str→Option Value}{expr:Bool}{Q:Value→Shared→Prop}(X:K.In s.heap)(hx:s.heap.get? x=some ox)(hc:ox.cls = .ref C)(hn:notCls ox=true)(hdx:ox.dict=some dx)(n:s.heap.Ns1 dx mA)(a:ExcA K C)(b:ExcF K C name)
  (hv:mA name=some v) (hv':handedIn v=true) (h:Q v { s with toks:=s.toks+1 }):wpAny (model prog w) A (getAttr (.ref x) name expr) Q E s:=by
 obtain ⟨od,ho,hl⟩:=lookIn_ns n
 have I:InstAt s.heap x ox C (some od):=⟨hx,hc,hn,by rw [hdx];exact ho⟩
 have i:TyLk s.heap x C:=⟨ox,hx,hc⟩
 have L0:=i.look (model prog w)
 have L1:=looks_findIn (M:=model prog w) X a.ga
 have L2:=looks_findIn (M:=model prog w) X a.hk
 have LF:Looks (model prog w) s.heap (Builtin.ObjectAttr.find (.ref x) (.ref C) name) (.value v):=looks_find X I (findObj_own b.hd b.no rfl (by rw [hl,hv]))
 unfold getAttr getAttrBy
 refine wpAny_bind (wpAny_mkText (wpAny_holding (wpAny_bind (Looks.here (s:={ s with toks:=s.toks+1 }) L0 (wpAny_bind (Looks.here (s:={ s with toks:=s.toks+1 }) L1 ?_))))))
 show wpAny _ _ (getAttrByItsOwn _ _ _ _ _ _) _ _ _
 unfold getAttrByItsOwn hookBefore
 refine wpAny_bind ?_
 rw [if_pos (show onTheHeap (Value.ref C)=true from rfl)]
 refine L2.at ?_
 refine wpAny_bind (wpAny_attempt (wpAny_holding ?_))
 unfold callGetattribute
 rw [if_neg (by rw [show onTheHeap (Value.builtin "BaseException.__getattribute__")=false from rfl,Bool.and_false];decide)]
 unfold boundAndCalled
 rw [F.excAttr_ValueError.ga.bind (.ref x)]
 refine wpAny_bind (wpAny_pure (wpAny_call (codeAny_call_builtin F.excAttr_ValueError.ga.plain F.entry_bexc_ga (bga_check (s:={ s with toks:=s.toks+1 }) X i a.be (F.args_bexc_ga _ _) ?_))))
 obtain ⟨hh,g,d,t,os⟩:=s
 unfold Builtin.«object.__getattribute__»
 repeat lk
 show wpAny (model prog w) A (handedOut v) Q E _
 rw [handedOut_of hv']
 exact wpAny_pure h
end
end L2
namespace L2
open PySem PySem.Spec PyProof.Rows PySem.W
abbrev BMV:List Value:=[.type "ValueError",.type "Exception",.type "BaseException",.type "object"]
structure ExcI (K:Frag) (mg:Str→Option Value) (x:Str) (C f:Addr):Prop where
 at_:mg x=some (.ref C)
 sh:∃tl N nm q bs hdct sn sub ab col dd k0 k1 k2 k3 k5,K.lookup C=some (excClassObj nm q C N bs tl hdct sn sub ab col dd k0 k1 k2 k3 k5 "ValueError.__new__")∧∀h:Heap,K.In h→OwnTail h BMV tl
 fi:findIn K (.ref C) "__init__" = some (some (.ref f))
 fn:isFn K (.ref f)=true
 kp:keepIn K (.ref C)=true
theorem ExcI.ob{K:Frag}{mg:Str→Option Value}{x:Str}{C f:Addr}(i:ExcI K mg x C f):ExcOb K C:=fun h X=>by
 obtain ⟨tl,N,nm,q,bs,hdct,sn,sub,ab,col,dd,k0,k1,k2,k3,k5,l,_⟩:=i.sh
 exact ⟨tl,N,nm,q,bs,hdct,sn,sub,ab,col,dd,k0,k1,k2,k3,k5,_,X _ _ l⟩
def excX(e C:Addr)(d:Option Addr):HO:=.ext fun h=>∃t,h.get? e=some (excObj C t d)
theorem excX_ok{P:Program}{w:World}{H:Hp}{h:Heap}{e C t:Addr}{d:Option Addr}(he:h.get? e=some (excObj C t d)):ObjOk P w H h e (excX e C d) :=
 ⟨⟨t,he⟩,⟨_,he⟩,fun _ _ ⟨t,h1⟩ k=>⟨t,k _ h1⟩⟩
def del(H:Hp)(e:Addr):Hp:=fun b=>if b=e then none else H b
theorem del_same{H:Hp}{e:Addr}:del H e e=none:=by unfold del;rw [if_pos rfl]
theorem del_ne{H:Hp}{e b:Addr}(h:b≠e):del H e b=H b:=by unfold del;rw [if_neg h]
section
variable{X:Cx}{pins:List (Addr×Obj)}{σ : St}{H:Hp}{s:Shared}
theorem leave_tracked{M:Model}{E:XK}{E':Value→Shared→Prop}{e C:Addr}{d:Option Addr}(I:Inv X pins σ H s)(o:OwnFr X)(hx:H e=some (excX e C d))(h0:X.s₀.heap.get? e=none)(hE:E (.ref C) d (del H e)) :
  wpAny M X.A (leaving X.env (.ref e)) (fun _ s''=>CXE X.prog X.w X.outer X.H₀ X.s₀ E (.ref e) s'') E' s:=by
 obtain ⟨t,he⟩:=(I.hok e _ hx).1
 have FF:s.heap.FunFrames X.base (X.env :: X.outer):=o.stk ▸ I.stack
 have hfr:X.A.frames=some (X.env :: X.outer):=o.stk ▸ I.ok.frames
 have eqf:(X.env :: X.outer).filterMap (·.frame)=L2.frs X.stack:=by rw [o.stk];rfl
 have hin:∀env∈(X.env :: X.outer),∀b,env.frame=some b→b∈e :: (X.env :: X.outer).filterMap (·.frame):=fun env he b hb=>List.mem_cons_of_mem _ (List.mem_filterMap.mpr ⟨env,he,hb⟩)
 have nox:∀b:Addr,b∉X.ex:=fun b z=>by rw [o.exs] at z;cases z
 have getB:∀{b:Addr} {ob:Obj},s.heap.get? b=some ob→b≠e→b∉L2.frs X.stack→(hideAll s.heap (e :: (X.env :: X.outer).filterMap (·.frame))).get? b=some ob:=fun {b ob} q n1 n2=>hideAll_get _ q (fun z=>by rcases List.mem_cons.mp z with z | z;exact n1 z;rw [eqf] at z;exact n2 z)
 have ne0:∀{b:Addr} {ob:Obj},X.s₀.heap.get? b=some ob→b≠e:=fun q z=>by rw [z,h0] at q;cases q
 refine leaves_madeP (φ:=fun o=>o.dict=d) (base:=hideAll s.heap (e :: (X.env :: X.outer).filterMap (·.frame))) (h:=s.heap) noF_dict rfl hfr (funFrames_hide FF hin) o.frm he (fun b ob q=>of_hideAll _ q) (hideAll_none _ List.mem_cons_self) rfl rfl rfl fun h' fl up=>?_
 refine ⟨e,C,_,_,del H e,d,rfl,fl,⟨fun a ob q=>?_,fun b ob q n hb=>?_,fun b ob q n hb=>?_,fun b ob q n=>?_,fun b ob q hb=>?_,fun b xs q=>?_,fun b ob u q=>?_,fun b ps q=>?_⟩,I.os,I.bare,hE⟩
 ·have na:a≠e:=fun z=>by rw [z,del_same] at q;cases q
  rw [del_ne na] at q
  refine (I.hok a ob q).stay (fun b u hb g=>getB g (fun z=>?_) fun z=>?_) (fun b z=>?_) fun b xs z=>?_
  ·subst z
   rcases hb with hb | hb
   ·exact na hb.symm
   ·rw [hx] at hb;cases hb
  ·have fz:=I.stkFree b z
   rcases hb with hb | hb
   ·rw [hb,q] at fz;cases fz
   ·rw [hb] at fz;cases fz
  ·rw [del_ne (fun w=>by rw [w,hx] at z;cases z)];exact z
  ·rw [del_ne (fun w=>by rw [w,hx] at z;cases z)];exact z
 ·exact getB (I.base.keep b ob q n hb (nox b)) (ne0 q) (I.old_out o q hb)
 ·obtain ⟨sl,e1⟩:=I.base.slot b ob q n hb (nox b)
  obtain ⟨sl',e2⟩:=up b _ e1 (fun vs=>I.fr_data hb e1 vs)
  exact ⟨sl',e2⟩
 ·rw [del_ne (ne0 q)];exact I.base.free b ob q n (nox b)
 ·obtain ⟨o',e1⟩:=I.base.there b ob q (nox b)
  exact ⟨o',getB e1 (ne0 q) (I.old_out o q hb)⟩
 ·have z:=I.base.tups b xs q
  rw [del_ne (fun w=>by rw [w,hx] at z;cases z)];exact z
 ·have z:=I.base.frzs b ob u q
  rw [del_ne (fun w=>by rw [w,hx] at z;cases z)];exact z
 ·obtain ⟨m,z⟩:=I.base.tbls b ps q
  exact ⟨m,by rw [del_ne (fun w=>by rw [w,hx] at z;cases z)];exact z⟩
end
section
variable{M:Model}{A:Around}{E:Value→Shared→Prop}{env:Env}{s:Shared}{Q:Flow→Shared→Prop}
theorem raise_of {K:Frag} {C:Addr} {x:Sem Value} (hb:ExcOb K C) (hbe:mroIn K C (.type "BaseException")=some true) (hh:A.handled=none)
  (h:wpAny M A x (fun v s1=>∃e t d,v = .ref e∧K.In s1.heap∧s1.heap.get? e=some (excObj C t d)∧E (.ref e) s1) E s):wpAny M A (raiseStmt env (some x) none) Q E s:=by
 unfold raiseStmt
 refine wpAny_bind (wpAny_mono h (fun v s1 h1=>?_) fun _ _ x=>x)
 obtain ⟨e,t,d,rfl,X,he,hE⟩:=h1
 obtain ⟨tl,N,nm,q,bs,hdct,sn,sub,ab,col,dd,k0,k1,k2,k3,k5,nw,hC⟩:=hb _ X
 obtain ⟨cd,ce,cm⟩:=Option.bind_eq_some_iff.mp hbe
 have hcB:(Value.ref C :: tl).contains (.type "BaseException")=true:=by
  unfold clsIn at ce
  split at ce
  ·rename_i c1 d1 cd1 s2 lk
   cases ce
   have z:=(X _ _ lk).symm.trans hC
   unfold excClassObj at z
   cases z
   split at cm
   ·cases cm
   ·exact Option.some.inj cm
  ·cases ce
 obtain ⟨hp,g,dr,tk,os⟩:=s1
 have he':hp.get? e=some { cls:=.ref C,dict:=d,data:=.fields #[.ref t,.none,.none,.none,.bool false,.none] }:=he
 repeat (first | with_reducible refine wpAny_loadPart_at he' ?_ | with_reducible refine wpAny_loadPart_at hC ?_ | (with_reducible refine wpAny_isSubtype_exc hC ?_;rw [hcB]) | wp_step)
 exact wpAny_raiseNew_none hh hE
end
end L2
namespace L2
open PySem PySem.Spec PyProof.Rows PySem.W
def tRaiseI(E:XK)(C:Addr)(sp:Sp)(te:TE):TS:=fun _ σ H=>te σ H fun x H1=>∀e,H1 e=none→sp [.ref e,x] (upd H1 e (excX e C none)) (fun r H2=>r = .non∧∃d,H2 e=some (excX e C d)∧E (.ref C) d (del H2 e)) E0
theorem ps_raiseI {X:Cx} {E:XK} {x:Str} {C f:Addr} {fd:FuncData} {k:Nat} {ps:List Str} {sp:Sp} {np cpos pos:Pos} {e₀ : Expr} {te:TE} (l:Lv X E) (hc:X.calm=true) (hg:Gl X x) (c:ExcI X.K X.mg x C f) (hbe:mroIn X.K C (.type "BaseException")=some true)
  (Fk:FnOk X.prog X.w X.K X.mg X.base CX0 k f fd ps sp) (hr:Room (k+1) X.A) (hb:Binds X.K fd ps []) (hps:ps.length=2) (he:PE X e₀ te)
  (hst:starEach [e₀] X.env=[(false,eval e₀ X.env)]:=by rfl) (hdb:(x == ("__debug__" : Str))=false:=by decide) :
  PS X (.Raise (some (.Call (.Name x np) [e₀] [] cpos)) none pos) (tRaiseI E C sp te):=by
 intro pins s σ H D I h
 rw [arm_exec_Raise]
 simp only [evalOpt,Option.map]
 refine wpAny_bind (wpAny_standAt (raise_of (K:=X.K) c.ob hbe (I.ok.hd hc) (wpAny_bind (wpAny_mono (Q:=fun v s1=>∃e t d,v = .ref e∧X.K.In s1.heap∧s1.heap.get? e=some (excObj C t d)∧X.xe (.ref e) s1) ?_ (fun v s3 h3=>wpAny_bind (wpAny_standAt (wpAny_pure h3))) fun _ _ z=>z))))
 refine wpAny_Call_Name_kw (ld_glob I hg c.at_ ?_ hdb)
 refine callWith_K (h₀:=X.base) I.ok.mod.kin c.kp (thn ((pa_cons he pa_nil (by rw [hst];rfl)) cpos pins s σ H (fun vs H1=>∀e,H1 e=none→sp (.ref e :: vs) (upd H1 e (excX e C none)) (fun r H2=>r = .non∧∃d,H2 e=some (excX e C d)∧E (.ref C) d (del H2 e)) E0) I h) fun us s1 ⟨vs,H1,I1,r,q⟩=>⟨I1.kIn,?_⟩) (by rw [hst];rfl) rfl
 have hq:=q (s1.heap.objs.size+1) (I1.hok.fresh (Nat.le_succ _))
 have X1:=I1.kIn
 obtain ⟨tl,N,nm,qn,bs,hdct,sn,sub,ab,col,dd,k0,k1,k2,k3,k5,lk,ht⟩:=c.sh
 obtain ⟨oI,lI,cI⟩:=Option.map_eq_some_iff.mp (beq_iff_eq.mp c.fn)
 have lenv:=Fk.len _ _ _ _ hq
 rw [hps] at lenv
 have lenu:us.length=1:=by rw [← r.length];exact Nat.succ.inj lenv
 obtain ⟨hh,g,dr,tk,os⟩:=s1
 have up:∀b o,hh.get? b=some o→((hh.push { cls:=.type "tuple",data:=.seq us.toArray }).push (excObj C hh.objs.size none)).get? b=some o:=fun b o z=>Heap.get?_push_of_some _ (Heap.get?_push_of_some _ z)
 have got:((hh.push { cls:=.type "tuple",data:=.seq us.toArray }).push (excObj C hh.objs.size none)).get? (hh.objs.size+1)=some (excObj C hh.objs.size none):=by heap_get
 have I2:Inv X pins σ (upd H1 (hh.objs.size+1) (excX (hh.objs.size+1) C none)) ⟨(hh.push { cls:=.type "tuple",data:=.seq us.toArray }).push (excObj C hh.objs.size none),g,dr,tk,os⟩ :=
  I1.laid (a:=hh.objs.size+1) (t':=tk) up (Nat.le_succ _) (excX_ok got)
 have r2:Vals (V.ref (hh.objs.size+1) :: vs) (Value.ref (hh.objs.size+1) :: us):=.cons rfl r
 have hl:(Value.ref (hh.objs.size+1) :: us++[]).length=ps.length:=by rw [List.append_nil,hps,List.length_cons,lenu]
 refine call_exi F.excBase_ValueError (ht _ X1) X1 (X1 _ _ lk) c.fi (X1 _ _ lI) cI ?_ (by rw [List.nil_append,lenu];decide)
 have bd:=hb _ (Value.ref (hh.objs.size+1) :: us) I2.kIn hl
 rw [List.append_nil] at bd
 refine wpAny_call (codeAny_mono (Fk.run _ X.stack _ _ ⟨Value.ref (hh.objs.size+1) :: us,[]⟩ (Value.ref (hh.objs.size+1) :: us) _ _ E0 (hr.make C us []) (I2.env0.make C us []) bd r2 hq) fun rr s' hq'=>?_)
 have s0:X.s₀.heap.get? (hh.objs.size+1)=none:=Heap.get?_none_of_le (Nat.le_trans I1.sz (Nat.le_succ _))
 cases rr with
 | error e=>exact hq'.elim
 | ok fl =>
  cases fl with
  | ret u =>
   obtain ⟨v,H',I3,rv,ev,dx,e3,q3⟩:=I2.after hq'
   subst ev
   obtain ⟨t3,g3⟩:=(I3.hok _ _ e3).1
   exact ⟨rv,_,t3,dx,rfl,I3.kIn,g3,l.2 _ _ (leave_tracked I3 l.1 e3 s0 q3)⟩
  | next=>exact False.elim hq'
  | brk=>exact False.elim hq'
  | cont=>exact False.elim hq'
def ExcS (K:Frag) (C:Addr):Prop:=∃tl N nm q bs hdct sn sub ab col dd k0 k1 k2 k3 k5,K.lookup C=some (excClassObj nm q C N bs tl hdct sn sub ab col dd k0 k1 k2 k3 k5 "ValueError.__new__")∧∀h:Heap,K.In h→OwnTail h BMV tl
theorem ExcI.shape{K:Frag}{mg:Str→Option Value}{x:Str}{C f:Addr}(i:ExcI K mg x C f):ExcS K C:=by
 obtain ⟨tl,N,nm,q,bs,hdct,sn,sub,ab,col,dd,k0,k1,k2,k3,k5,l,t⟩:=i.sh
 exact ⟨tl,N,nm,q,bs,hdct,sn,sub,ab,col,dd,k0,k1,k2,k3,k5,l,t⟩
theorem tail_two{K:Frag}{C V N:Addr}{nw:String}{cd cv:ClassData}{nm q:Str}{bs tl:List Value}{hdct:Bool}{sn:List Str}{sub:List Value}{ab:Bool}{col:Option Bool}{dd:Option Addr}{k0 k1 k2 k3 k5:Option Value}{n2:String}(xV:excIn K V BMV nw=true)(dV:clsIn K V=some cv)(mV:cv.mro=[.ref V]++BMV)
  (L:K.lookup C=some (excClassObj nm q C N bs tl hdct sn sub ab col dd k0 k1 k2 k3 k5 n2)) (dC:clsIn K C=some cd) (mC:cd.mro=[.ref C,.ref V]++BMV) (h:Heap) (X:K.In h):OwnTail h BMV tl:=by
 have e1:tl = .ref V :: BMV:=by
  unfold clsIn at dC
  rw [L] at dC
  unfold excClassObj at dC
  cases dC
  exact (List.cons.inj mC).2
 obtain ⟨tV,NV,_,_,_,_,_,_,_,_,_,_,_,_,_,_,mN,hV,hn,hi,T⟩:=exc_obj X xV
 have e2:tV=BMV:=by
  unfold clsIn at dV
  split at dV
  ·rename_i c1 d1 cd1 s1 lk
   cases dV
   have z:=(X _ _ lk).symm.trans hV
   unfold excClassObj at z
   cases z
   exact (List.cons.inj mV).2
  ·cases dV
 rw [e1]
 rw [e2] at hV T
 exact .own hV hn hi T
structure ExcB (K:Frag) (mg:Str→Option Value) (v:Str) (V:Addr):Prop where
 at_:mg v=some (.ref V)
 sg:specialIn K (.ref V) "__getattribute__" = some (some (.builtin "type.__getattribute__"))
 rd:readsIn K V (.type "type")=true
 fc:findCls K (.ref V) (.type "type") "__init__" = some (.val (.builtin "ValueError.__init__"))
def tBaseI(K:Frag)(t:TA):TE:=fun σ H Q=>t σ H fun vs H2=>∃e C d y,vs=[.ref e,y]∧H2 e=some (excX e C d)∧ExcS K C∧Q .non H2
section
variable{X:Cx}{o a value:Expr}{es:List Expr}{ta tv:TE}{t:TA}{f v:Str}{V:Addr}{vp apos pos pos':Pos}
theorem pe_baseI {pl:Sem Bool} (hg:Gl X v) (B:ExcB X.K X.mg v V) (ha:PA X (a :: es) t) (hdb:(v == ("__debug__" : Str))=false:=by decide)
  (hst:starEach (a :: es) X.env=(false,eval a X.env) :: starEach es X.env:=by rfl) (hpl:(backTo pos (starEach es X.env)).any (·.1)=false:=by rfl)
  (ht:eval (.Call (.Attribute (.Name v vp) "__init__" apos) (a :: es) [] pos) X.env=(do
   let ov ← eval (.Name v vp) X.env
   standAt apos.atName
   let (f,first) ← holding [ov] (getMethod ov "__init__" pl)
   callWith pos f first (backTo pos (starEach (a :: es) X.env)) (backToKw pos (keywordEach [] X.env))):=by rfl) :
  PE X (.Call (.Attribute (.Name v vp) "__init__" apos) (a :: es) [] pos) (tBaseI X.K t):=by
 intro pins s σ H Q I h
 refine methodCall_KW (pl:=pl) (ld_glob I hg B.at_ (method_cls I.kIn B.sg (cls_value I.kIn B.rd B.fc (by decide +kernel) ?_)) hdb) ht
 refine PyProof.Rows.callWith_builtin1 (thn (ha pos pins { s with toks:=s.toks+1 } σ H _ (I.tok _) h) fun us s2 ⟨vs,H2,I2,r,e,C,d,y,hv,he,hS,q⟩=>?_) hst hpl
 subst hv
 obtain ⟨u,u2,rfl,rx,_⟩:=vals2 r
 obtain rfl:u=Value.ref e:=rx
 obtain ⟨tl,N,nm,qn,bs,hdct,sn,sub,ab,col,dd,k0,k1,k2,k3,k5,lk,ht'⟩:=hS
 obtain ⟨t0,g⟩:=(I2.hok e _ he).1
 obtain ⟨hh,gs,dr,tk,os⟩:=s2
 refine base_init (rest:=[u2]) F.excBase_ValueError (ht' _ I2.kIn) (I2.kIn _ _ lk) g (fun h' t1 kp gx=>?_) (show 1≤sizeLine by decide)
 have I3:Inv X pins σ (upd H2 e (excX e C d)) ⟨h',gs,dr,tk,os⟩:=I2.write (x:=e) (e:=e) (t':=tk) (by rw [he];exact True.intro) (.inl rfl) kp ⟨_,gx⟩ (excX_ok gx)
 have eH:upd H2 e (excX e C d)=H2:=funext fun b=>by
  by_cases z:b=e
  ·rw [z,upd_same,he]
  ·rw [upd_ne z]
 rw [eH] at I3
 exact ⟨.non,H2,I3,rfl,q⟩
def sFldX(K:Frag)(ta tv:TE)(f:Str):TS:=fun D σ H=>tv σ H fun y H1=>ta σ H1 fun x H2=>∃e C,x = .ref e∧H2 e=some (excX e C none)∧ExcF K C f∧∀dx,H2 dx=none→D.nx σ (upd (upd H2 dx (.xd [(f,y)])) e (excX e C (some dx)))
theorem ps_fldX(ha:PE X o ta)(hv:PE X value tv)(hs:swapsWith value (some (.Attribute o f pos')) pos.line X.env=pure false):PS X (.Assign [.Attribute o f pos'] value pos) (sFldX X.K ta tv f):=by
 intro pins s σ H D I h
 refine plainObj_wpAny_Assign_Attribute (thn (hv pins s σ H _ I h) fun u s1 ⟨y,H1,I1,ry,q⟩=>thn (ha pins s1 σ H1 _ I1 q) fun ov s2 ⟨x,H2,I2,rx,e,C,ex,he,F,q2⟩=>?_) hs
 subst ex
 obtain rfl:ov=Value.ref e:=rx
 obtain ⟨t,g⟩:=(I2.hok e _ he).1
 refine exc_store I2.kIn g F fun h' tk n gx kp=>?_
 have fr:H2 s2.heap.objs.size=none:=I2.hok.fresh (Nat.le_refl _)
 have ne:e≠s2.heap.objs.size:=Nat.ne_of_lt (Heap.lt_size g)
 have hxd:∀H',ObjOk X.prog X.w H' h' s2.heap.objs.size (.xd [(f,y)]):=fun H'=>by
  refine ⟨_,n,fun k=>?_⟩
  by_cases z:k=f
  ·subst z;simp only [List.lookup,BEq.rfl,if_pos];exact ry
  ·have zb:(k == f)=false:=beq_eq_false_iff_ne.mpr z
   simp only [List.lookup,zb,if_neg z];exact True.intro
 have I3:Inv X pins σ (upd H2 e (excX e C (some s2.heap.objs.size))) { s2 with heap:=h',toks:=tk }:=I2.write (x:=e) (e:=e) (t':=tk) (by rw [he];exact True.intro) (.inl rfl) kp ⟨_,gx⟩ (excX_ok gx)
 have I4:=I3.track (e:=s2.heap.objs.size) (o:=.xd [(f,y)]) (by rw [upd_ne (Ne.symm ne)];exact fr) (Heap.get?_none_of_le I2.sz) (Nat.ne_of_gt I2.lt)
  (fun x c z=>by obtain ⟨v',ob,ho,_⟩:=I2.cell x c z;exact Nat.ne_of_lt (Heap.lt_size ho)) (fun p hp=>Nat.ne_of_lt (Heap.lt_size (I2.pin p hp).1)) (hxd _)
 refine ⟨σ,_,I4,?_⟩
 have sw:upd (upd H2 e (excX e C (some s2.heap.objs.size))) s2.heap.objs.size (.xd [(f,y)])=upd (upd H2 s2.heap.objs.size (.xd [(f,y)])) e (excX e C (some s2.heap.objs.size)):=funext fun b=>by
  unfold upd
  by_cases z:b=e
  ·rw [if_pos z,if_neg (fun w=>ne (z.symm.trans w)),if_pos z]
  ·rw [if_neg z,if_neg z]
 rw [sw]
 exact q2 _ fr
def tFldX(K:Frag)(ta:TE)(f:Str):TE:=fun σ H Q=>ta σ H fun x H1=>∃e C dx fs v,x = .ref e∧H1 e=some (excD e C dx)∧H1 dx=some (.xd fs)∧ExcA K C∧ExcF K C f∧fs.lookup f=some v∧Q v H1
theorem pe_fldX(he:PE X a ta)(hb:attributeBase a f X.env (eval a X.env)=eval a X.env):PE X (.Attribute a f pos) (tFldX X.K ta f):=by
 intro pins s σ H Q I h
 refine attr_of hb (thn (he pins s σ H _ I h) fun u s1 ⟨x,H1,I1,rx,e,C,dx,fs,v,ex,ee,ed,eA,eF,l,q⟩=>?_)
 subst ex
 obtain rfl:u=Value.ref e:=rx
 obtain ⟨oe,h1,h2,h3,h4⟩:=(I1.hok e _ ee).1
 obtain ⟨mA,n,r⟩:=I1.hok dx _ ed
 obtain ⟨u',hu,ru⟩:=RelO.some_of (v:=v) (o:=mA f) (by rw [← l];exact r f)
 exact exc_load I1.kIn h1 h2 h4 h3 n eA eF hu (handed_of ru) ⟨v,H1,I1.tok _,ru,q⟩
end
end L2
namespace L2
open PySem PySem.Spec PyProof.Rows PySem.W
structure IniC (P:Program) (w:World) (K:Frag) (mg:Str→Option Value) (base:Heap) (k:Nat) (x:Str) (C:Addr) (sp:Sp):Prop where
 ex:∃(f:Addr) (fd:FuncData) (ps:List Str),ExcI K mg x C f∧mroIn K C (.type "BaseException")=some true∧FnOk P w K mg base CX0 k f fd ps sp∧Binds K fd ps []∧ps.length=2
theorem ps_raiseC{X:Cx}{E:XK}{x:Str}{C:Addr}{k:Nat}{sp:Sp}{np cpos pos:Pos}{e₀ : Expr}{te:TE}(l:Lv X E)(hc:X.calm=true)(hg:Gl X x)(i:IniC X.prog X.w X.K X.mg X.base k x C sp)(hr:Room (k+1) X.A)(he:PE X e₀ te)
  (hst:starEach [e₀] X.env=[(false,eval e₀ X.env)]:=by rfl) (hdb:(x == ("__debug__" : Str))=false:=by decide) :
  PS X (.Raise (some (.Call (.Name x np) [e₀] [] cpos)) none pos) (tRaiseI E C sp te):=by
 obtain ⟨f,fd,ps,c,be,Fk,hb,hp⟩:=i.ex
 exact ps_raiseI l hc hg c be Fk hr hb hp he hst hdb
theorem Fun.iniC {P:Program} {w:World} {K:Frag} {mg:Str→Option Value} {base:Heap} {k:Nat} {x:Str} {C f:Addr} {fd:FuncData} {ps:List Str} {sp:Sp} (c:ExcI K mg x C f) (be:mroIn K C (.type "BaseException")=some true) (F:FnOk P w K mg base CX0 k f fd ps sp) (b:Binds K fd ps []) (l:ps.length=2):IniC P w K mg base k x C sp:=⟨⟨f,fd,ps,c,be,F,b,l⟩⟩
end L2
namespace L2
open PySem PySem.Spec PyProof.Rows
open PySem.W (Dat kqdP kqdPs kqdOk)
mutual
inductive Rep (K:PySem.W.Frag) (H:Hp):V→Dat→Prop
 | non:Rep K H .non .none
 | bl (b:Bool):Rep K H (.bl b) (.bool b)
 | int (i:Int):Rep K H (.int i) (.int i)
 | str (x:Str):Rep K H (.str x) (.str x)
 | tup {a:Addr} {xs:List V} {ds:List Dat}:SqT K H a xs→RepL K H xs ds→Rep K H (.ref a) (.tuple ds)
 | lst {a:Addr} {xs:List V} {ds:List Dat}:SqL K H a xs→RepL K H xs ds→Rep K H (.ref a) (.list ds)
inductive RepL (K:PySem.W.Frag) (H:Hp):List V→List Dat→Prop
 | nil:RepL K H [] []
 | cons {v:V} {d:Dat} {vs:List V} {ds:List Dat}:Rep K H v d→RepL K H vs ds→RepL K H (v :: vs) (d :: ds)
end
section
variable{K:PySem.W.Frag}{H H':Hp}
theorem RepL.length:∀{vs:List V} {ds:List Dat},RepL K H vs ds→vs.length=ds.length
 | _,_,.nil=>rfl
 | _,_,.cons _ r=>congrArg (· + 1) (RepL.length r)
theorem RepL.get:∀{vs:List V} {ds:List Dat} {i:Nat} {v:V},RepL K H vs ds→vs[i]? = some v→∃d,ds[i]? = some d∧Rep K H v d
 | _,_,_,_,.nil,e=>by simp at e
 | _,_,0,_,.cons h _,e=>by simp at e;subst e;exact ⟨_,rfl,h⟩
 | _,_,i+1,v,.cons _ r,e=>by
  obtain ⟨d,h1,h2⟩:=RepL.get (i:=i) (v:=v) r (by simpa using e)
  exact ⟨d,by simpa using h1,h2⟩
end
section
variable{X:Cx}{pins:List (Addr×Obj)}{σ : St}{H:Hp}{s:Shared}
mutual
theorem Rep.reads(I:Inv X pins σ H s):∀{v:V} {d:Dat} {u:Value},Rep X.K H v d→RelV v u→∃as,Reads s.heap u (kqdP d) as
 | _,_,u,.non,r=>by
  cases (show u=Value.none from r)
  exact ⟨_,Reads.none⟩
 | _,_,u,.bl b,r=>by
  cases (show u=Value.bool b from r)
  exact ⟨_,Reads.bool b⟩
 | _,_,u,.int i,r=>by
  obtain ⟨t,e⟩:=(show ∃t,u=Value.int i t from r)
  cases e
  exact ⟨_,Reads.int i t⟩
 | _,_,u,.str x,r=>by
  obtain ⟨t,e⟩:=(show ∃t,u=Value.str x t from r)
  cases e
  exact ⟨_,Reads.str x t⟩
 | _,_,u,@Rep.tup _ _ a xs ds h q,r=>by
  cases (show u=Value.ref a from r)
  obtain ⟨its,rv,⟨o,e,c,n,dd⟩,_⟩:=I.tuple h
  obtain ⟨as,p⟩:=RepL.reads I q rv
  rw [kqdP]
  exact ⟨_,Reads.tuple e c dd (by simpa using p)⟩
 | _,_,u,@Rep.lst _ _ a xs ds h q,r=>by
  cases (show u=Value.ref a from r)
  obtain ⟨its,rv,⟨o,n,e,c,_,dd⟩,_⟩:=I.list h
  obtain ⟨as,p⟩:=RepL.reads I q rv
  rw [kqdP]
  exact ⟨_,Reads.list e c dd (by simpa using p)⟩
theorem RepL.reads(I:Inv X pins σ H s):∀{vs:List V} {ds:List Dat} {us:List Value},RepL X.K H vs ds→Vals vs us→∃as,ReadsAll s.heap us (kqdPs ds) as
 | _,_,_,.nil,.nil=>by
  rw [kqdPs]
  exact ⟨_,ReadsAll.nil⟩
 | _,_,_,.cons h q,.cons r rr=>by
  obtain ⟨as,p⟩:=Rep.reads I h r
  obtain ⟨bs,p'⟩:=RepL.reads I q rr
  rw [kqdPs]
  exact ⟨_,ReadsAll.cons p p'⟩
end
open Classical in
theorem eqv_dec{d e:Dat}(hd:kqdOk 8 d=true)(he:kqdOk 8 e=true):PyData.eqv (kqdP d) (kqdP e)=decide (d=e):=by
 have q:=PySem.W.kqd_eqv 8 d e 8 hd he
 by_cases z:d=e
 ·rw [decide_eq_true z]
  exact q.mpr z
 ·rw [decide_eq_false z]
  exact Bool.eq_false_iff.mpr fun y=>z (q.mp y)
theorem shaped_of{d:Dat}(h:kqdOk 8 d=true):SeqAt.shaped (kqdP d)=true:=by
 have l:=PySem.W.kqd_lay 8 d h
 unfold SeqAt.shaped
 rw [l.1,Bool.true_and]
 exact decide_eq_true (Nat.le_trans l.2 (by decide))
open Classical in
def rNeD(K:PySem.W.Frag):R2:=fun x y H Q=>∃d e,Rep K H x d∧Rep K H y e∧kqdOk 8 d=true∧kqdOk 8 e=true∧Q (.bl (!decide (d=e))) H
theorem op_neD(hu:X.A.units+64 < cLine):OpR X (compareOp .NotEq) (rNeD X.K):=by
 intro pins s σ H x y v u Q I rx ry h
 obtain ⟨d,e,hd,he,kd,ke,q⟩:=h
 obtain ⟨as,ra⟩:=Rep.reads I hd rx
 obtain ⟨bs,rb⟩:=Rep.reads I he ry
 exact ne_dataH ra rb (shaped_of kd) (shaped_of ke) hu ⟨_,H,I,(by rw [eqv_dec kd ke];rfl),q⟩
open Classical in
theorem any_dec{ds:List Dat}{d:Dat}(ha:∀e∈ds,kqdOk 8 e=true)(hd:kqdOk 8 d=true):((kqdPs ds).any fun y=>PyData.eqv y (kqdP d))=decide (d∈ds):=by
 by_cases z:d∈ds
 ·rw [decide_eq_true z]
  exact (PySem.W.kqd_any ds d ha hd).mpr z
 ·rw [decide_eq_false z]
  exact Bool.eq_false_iff.mpr fun y=>z ((PySem.W.kqd_any ds d ha hd).mp y)
open Classical in
def rInD(K:PySem.W.Frag)(neg:Bool):R2:=fun x y H Q=>∃d ds,Rep K H x d∧Rep K H y (.list ds)∧(∀e∈ds,kqdOk 8 e=true)∧kqdOk 8 d=true∧Q (.bl (if neg then !decide (d∈ds) else decide (d∈ds))) H
theorem in_room{A:Around}{ds:List Dat}{d:Dat}(hd:kqdOk 8 d=true)(hu:A.units+64 < cLine):A.units+1+min (PyData.depthAll (kqdPs ds)) (kqdP d).depth < cLine:=by
 have l:=(PySem.W.kqd_lay 8 d hd).2
 have:=Nat.min_le_right (PyData.depthAll (kqdPs ds)) (kqdP d).depth
 omega
theorem op_notInD(hu:X.A.units+64 < cLine):OpR X (compareOp .NotIn) (rInD X.K true):=by
 intro pins s σ H x y v u Q I rx ry h
 obtain ⟨d,ds,hd,he,ka,kd,q⟩:=h
 obtain ⟨as,ra⟩:=Rep.reads I hd rx
 obtain ⟨bs,rb⟩:=Rep.reads I he ry
 rw [kqdP] at rb
 exact SeqAt.notIn_list_reads rb ra (PySem.W.kqd_layL ka).1 (PySem.W.kqd_lay 8 d kd).1 (in_room kd hu) ⟨_,H,I,(by rw [any_dec ka kd];rfl),q⟩
end
end L2
namespace L2
open PySem PySem.Spec PyProof.Rows
def compCx(X:Cx)(ys M:List Str)(scope:Scope)(cl:List (Str×Addr))(C:Addr)(s:Shared)(H:Hp)(fp:List Addr)(pins:List (Addr×Obj)):Cx where
 prog:=X.prog
 w:=X.w
 K:=X.K
 mg:=X.mg
 base:=X.base
 A:=X.A
 N:=ys++M
 s₀:=s
 H₀:=H
 env:=compEnvC scope cl C X.env
 outer:=X.stack
 stack:=X.stack
 ex:=fp
 fn:=fun _=>false
 calm:=X.calm
 pn:=X.pn++pins
 xe:=fun _ _=>False
structure CompSc (X:Cx) (ys M:List Str) (scope:Scope) (cl:List (Str×Addr)):Prop where
 kind:scope.kind = .function
 nocell:∀y∈scope.names,y.2≠.cell
 names:∀y∈scope.names,y.2 = .local→scope.names.lookup y.1=some .local
 own:∀y∈ys,scope.names.lookup y=some .local
 clos:closureFor scope X.env=pure cl
 nd:(ys++M).Nodup
 len:M.length=X.N.length
 same:∀p∈M.zip X.N,p.1=p.2∨(relabel scope X.env).names.lookup p.1=none
 apart:∀y∈M,(relabel scope X.env).names.lookup y≠some .local
 cells:∀y c,cl.lookup y=some c→X.env.cells.lookup y=some c∧(X.env.scope.names.lookup y=some .cell∨X.env.scope.names.lookup y=some .free)
 has:∀y,((relabel scope X.env).names.lookup y=some .cell∨(relabel scope X.env).names.lookup y=some .free)→∃c,cl.lookup y=some c
section
variable{X:Cx}{ys M:List Str}{scope:Scope}{cl:List (Str×Addr)}{C:Addr}{s:Shared}{H:Hp}{fp:List Addr}{pins:List (Addr×Obj)}{σ : St}
theorem inv_comp{h1:Heap}{tk:Nat}{o:Obj}(I:Inv X pins σ H s)(c:CompSc X ys M scope cl)(eC:C=s.heap.objs.size)(hns:h1.Ns C (fun _=>none))(hsb:Heap.SameBut C (s.heap.push o) h1)
  (fk:∀b∈fp,FpOk X pins H b∧∃o,s.heap.get? b=some o):Inv (compCx X ys M scope cl C s H fp pins) [] (List.replicate ys.length none ++ σ) H { s with heap:=h1,toks:=tk }:=by
 have keep:∀b u,s.heap.get? b=some u→h1.get? b=some u:=fun b u e=>hsb.extBut b u (by rw [eC];exact Nat.ne_of_lt (Heap.lt_size e)) (Heap.get?_push_of_some _ e)
 have neC:∀b u,s.heap.get? b=some u→b≠C:=fun b u e=>by rw [eC];exact Nat.ne_of_lt (Heap.lt_size e)
 have out:∀{b:Addr},b≠X.env.locals→b∉X.fs→b∉frs X.stack:=fun h1 h2 z=>(List.mem_cons.mp (I.stkSub _ z)).elim h1 h2
 refine ⟨⟨I.ok.mod,c.kind,I.ok.glob,I.ok.blt,by rw [eC];exact Nat.le_refl _,fun y z a h1 h2=>I.ok.inj y z a (c.cells y a h1).1 (c.cells z a h2).1,c.has,fun y a z _=>Bool.noConfusion z,I.ok.hd,I.ok.frames,.inl rfl,fun b hb=>?_,I.bs,Nat.le_trans I.ok.bsz I.sz,fun b u e hb=>?_,fun b hb=>?_,I.stack,I.stkFree⟩,
  rfl,I.bare,Un.kept keep,⟨_,hns,fun i y v e1 e2 e3=>?_⟩,fun y a e=>?_,I.hok.fresh (by rw [eC];exact Nat.le_refl _),fun y a e=>I.freeC y a (c.cells y a e).1,fun p hp=>?_,I.hok.kept keep,?_⟩
 ·obtain ⟨⟨_,_,_,_,f5,_⟩,u,e⟩:=fk b hb
  exact ⟨neC b u e,fun y a q=>f5 y a (c.cells y a q).1⟩
 ·obtain ⟨⟨_,_,_,f4,_,_⟩,_⟩:=fk b hb
  rcases f4 with z | z
  ·exact I.ok.noex b u e z
  ·exact absurd (Nat.lt_of_lt_of_le (Heap.lt_size (I.ok.bs b u e).1) z) (Nat.lt_irrefl _)
 ·obtain ⟨⟨_,f2,f3,_,_,_⟩,_⟩:=fk b hb
  exact out f2 f3
 ·by_cases lt:i < ys.length
  ·have e2':(List.replicate ys.length (none:Option V) ++ σ)[i]? = some (some v):=e2
   rw [List.getElem?_append_left (by simpa using lt),List.getElem?_replicate_of_lt lt] at e2'
   cases e2'
  ·have e0:M[i - ys.length]? = some y:=by
    have e1':(ys++M)[i]? = some y:=e1
    rwa [List.getElem?_append_right (by omega)] at e1'
   have e2' : σ[i - ys.length]? = some (some v):=by
    have e2':(List.replicate ys.length (none:Option V) ++ σ)[i]? = some (some v):=e2
    rwa [List.getElem?_append_right (by simpa using lt),List.length_replicate] at e2'
   have hy:y∈M:=List.mem_of_getElem? e0
   have vis0:(relabel scope X.env).names.lookup y≠none:=by
    rcases e3 with z | z | z <;> (intro q;have q':=(show (relabel scope X.env).names.lookup y=some _ from z).symm.trans q;cases q')
   have e1':X.N[i - ys.length]? = some y:=by
    have hlt:i - ys.length < X.N.length:=by rw [← c.len];exact (List.getElem?_eq_some_iff.mp e0).1
    have hz:(y,X.N[i - ys.length])∈M.zip X.N:=by
     refine List.mem_of_getElem? (i:=i - ys.length) ?_
     rw [List.getElem?_zip_eq_some]
     exact ⟨e0,List.getElem?_eq_getElem hlt⟩
    rcases c.same _ hz with q | q
    ·rw [List.getElem?_eq_getElem hlt]
     exact congrArg some q.symm
    ·exact absurd q vis0
   have e3':(relabel scope X.env).names.lookup y=some .cell∨(relabel scope X.env).names.lookup y=some .free:=by
    rcases e3 with z | z | z
    ·exact absurd z (c.apart y hy)
    ·exact .inl z
    ·exact .inr z
   obtain ⟨a,ea⟩:=c.has y e3'
   obtain ⟨q1,q2⟩:=c.cells y a ea
   obtain ⟨m,_,hl⟩:=I.loc
   have vis:Vis X.env.scope y:=.inr q2
   obtain ⟨u,ru,lu⟩:=hl (i - ys.length) y v e1' e2' vis
   refine ⟨u,ru,.inr ⟨e3',a,ea,?_⟩⟩
   rcases lu with ⟨z,_⟩ | ⟨_,a',ea',⟨oc,hoc,hd⟩⟩
   ·have z':X.env.scope.names.lookup y=some .local:=z
    rcases q2 with q2 | q2 <;> (rw [z'] at q2;cases q2)
   ·rw [q1] at ea'
    cases ea'
    exact ⟨oc,keep _ _ hoc,hd⟩
 ·obtain ⟨v,oc,hoc,hd⟩:=I.cell y a (c.cells y a e).1
  exact ⟨v,oc,keep _ _ hoc,hd⟩
 ·have hp':p∈X.pn++pins:=by simpa [compCx] using hp
  obtain ⟨q1,q2,q3,q4,q5⟩:=I.pin p hp'
  exact ⟨keep _ _ q1,q2,neC _ _ q1,out q3 q4,q5⟩
 ·show (List.replicate ys.length none ++ σ).length=(ys++M).length
  rw [List.length_append,List.length_append,List.length_replicate,I.len,c.len]
theorem inv_uncomp{pins':List (Addr×Obj)}{σ':St}{H':Hp}{s1:Shared}(I:Inv X pins σ H s)(fk:∀b∈fp,FpOk X pins H b∧∃o,s.heap.get? b=some o)(I':Inv (compCx X ys M scope cl C s H fp pins) pins' σ' H' s1):Inv X pins σ H' s1 :=
 I.call' (ch:=fp) I'.os I'.base I'.hok I'.bare fun b hb=>let ⟨⟨_,f2,_,f4,f5,f6⟩,_⟩:=fk b hb;⟨f4,f2,f5,f6⟩
def CompG(J:It)(n:Nat)(g:TG)(te:TE)(σ : St)(Q:VK)(H1:Hp):Prop:=∀D,H1 D=none→∃W:Nat→Nat→Hp→Prop,(∃m,W 0 m (upd H1 D (.lst [])))∧∀i m H,W i m H →
 (J.stop i H∧Q (.ref D) H)∨(J.go i H∧∀v H',J.yld i H v H'→∀us:St,us.length=n→g v (us ++ σ) H' fun σ2 H2=>(∃us':St,us'.length=n∧σ2=us' ++ σ)∧te σ2 H2 fun y H3=>∃xs,H3 D=some (.lst xs)∧xs.length < sizeLine∧∃m',m' < m∧W (i+1) m' (upd H3 D (.lst (xs++[y]))))
def tCompG(wi:TI)(n:Nat)(g:TG)(te:TE):TE:=fun σ H Q=>wi σ H fun J H1=>CompG J n g te σ Q H1
def CompAt(J:It)(te:TE)(σ : St)(Q:VK)(H1:Hp):Prop:=∀D,H1 D=none→∃W:Nat→Nat→Hp→Prop,(∃m,W 0 m (upd H1 D (.lst [])))∧∀i m H,W i m H →
 (J.stop i H∧Q (.ref D) H)∨(J.go i H∧∀v H',J.yld i H v H'→te (some v :: σ) H' fun y H2=>∃xs,H2 D=some (.lst xs)∧xs.length < sizeLine∧∃m',m' < m∧W (i+1) m' (upd H2 D (.lst (xs++[y]))))
def tComp(wi:TI)(te:TE):TE:=fun σ H Q=>wi σ H fun J H1=>CompAt J te σ Q H1
theorem compG_of{J:It}{te:TE}{σ : St}{Q:VK}{H1:Hp}(h:CompAt J te σ Q H1):CompG J 1 (gName 0) te σ Q H1:=by
 intro D nD
 obtain ⟨W,h0,hs⟩:=h D nD
 refine ⟨W,h0,fun i m H w=>?_⟩
 rcases hs i m H w with q | ⟨go,st⟩
 ·exact .inl q
 ·refine .inr ⟨go,fun v H' y us hu=>?_⟩
  obtain ⟨u,rfl⟩:∃u,us=[u]:=List.length_eq_one_iff.mp hu
  exact ⟨⟨[some v],rfl,rfl⟩,st v H' y⟩
theorem comp_loop{prog:Program}{w:World}{A:Around}{R:Result→Shared→Prop}{s:Shared}{elt target iter:Expr}{scope:Scope}{pos:Pos}{it acc:Value}{env:Env}(I:Nat→Shared→Prop)
  (turn:∀n s,I n s→wpAny (model prog w) A (pyNext it) (fun r s1=>match r with
   | none=>R (.ok .next) s1
   | some v=>wpAny (model prog w) A (letOwnedTupleGo target it v) (fun _ s2=>wpAny (model prog w) A (assign target env v) (fun _ s3=>wpAny (model prog w) A (eval elt env) (fun x s4 =>
     wpAny (model prog w) A (call (.builtin "list.append") [acc,x]) (fun _ s5=>∃m,m < n∧I m s5) (fun _ _=>False) s4) (fun _ _=>False) s3) (fun _ _=>False) s2) (fun _ _=>False) s1) (fun _ _=>False) s) (n:Nat) (h:I n s) :
  codeAny (model prog w) A (.compLoop (.ListComp elt [⟨target,iter,[],0⟩] scope pos) 0 it acc env) R s:=by
 refine codeAny_loop rfl I (fun k s1 hI=>?_) n h
 have no:∀{α : Type} {t:Sem α} {P : α→Shared→Prop} {E:Value→Shared→Prop} {z:Shared},wpAny (model prog w) A t P (fun _ _=>False) z→wpAny (model prog w) A t P E z:=fun q=>wpAny_mono q (fun _ _ z=>z) fun _ _ z=>z.elim
 show wpAny _ _ ((compTurn (.ListComp elt [⟨target,iter,[],0⟩] scope pos) 0 it acc env).onRaise _) _ _ s1
 refine wpAny_noted ?_
 rw [compTurn_list1]
 refine wpAny_bind (wpAny_standAt (wpAny_bind (no (wpAny_mono (turn k s1 hI) (fun r s2 h2=>?_) fun _ _ z=>z))))
 cases r with
 | none=>exact wpAny_pure h2
 | some v =>
  refine wpAny_bind (no (wpAny_mono h2 (fun _ s3 h3=>?_) fun _ _ z=>z))
  refine wpAny_bind (no (wpAny_mono h3 (fun _ s4 h4=>?_) fun _ _ z=>z))
  refine wpAny_bind (wpAny_bind (no (wpAny_mono h4 (fun x s5 h5=>?_) fun _ _ z=>z)))
  exact wpAny_bind (no (wpAny_mono h5 (fun _ s6 h6=>wpAny_pure (wpAny_pure ⟨rfl,h6⟩)) fun _ _ z=>z))
theorem comp_core{elt iter tg:Expr}{pos:Pos}{g:TG}{te:TE}{tn:Nat→Heap→Prop}{it:Addr}{J:It}{E:Value→Shared→Prop}{QQ:Addr→Hp→Prop}{RR:Value→Addr→Result→Shared→Prop}(I:Inv X pins σ H s)(c:CompSc X ys M scope cl)(hc:X.calm=true)
  (hg:∀C s₀ H₀ fp pins,PG (compCx X ys M scope cl C s₀ H₀ fp pins) tg g) (he:∀C s₀ H₀ fp pins,PE (compCx X ys M scope cl C s₀ H₀ fp pins) elt te) (T:Turn X.prog X.w X.K tg J fp it tn) (st:tn 0 s.heap) (fk:∀b∈fp,FpOk X pins H b)
  (h:∀D,H D=none→∃W:Nat→Nat→Hp→Prop,(∃m,W 0 m (upd H D (.lst [])))∧∀i m H,W i m H →
   (J.stop i H∧QQ D H)∨(J.go i H∧∀v H',J.yld i H v H'→∀us:St,us.length=ys.length→g v (us ++ σ) H' fun σ2 H2=>(∃us':St,us'.length=ys.length∧σ2=us' ++ σ)∧te σ2 H2 fun y H3=>∃xs,H3 D=some (.lst xs)∧xs.length < sizeLine∧∃m',m' < m∧W (i+1) m' (upd H3 D (.lst (xs++[y])))))
  (fin:∀D C H' s',s.heap.objs.size≤C→s'.heap.get? C≠none→(∃m,s'.heap.Ns C m)→H' C=none→Inv X pins σ H' s'→QQ D H'→RR (.ref D) C (.ok .next) s') :
  wpAny (model X.prog X.w) X.A (newList []) (fun acc s₃=>wpAny (model X.prog X.w) X.A (newFunctionEnv scope X.env.globals cl [] X.env.qual none .none (some X.env)) (fun cenv s₄ =>
   codeAny (model X.prog X.w) X.A (.compStart (.ListComp elt [⟨tg,iter,[],0⟩] scope pos) 0 (.ref it) acc { cenv with scope:=relabel scope X.env }) (RR acc cenv.locals) s₄) E s₃) E s:=by
 refine wpAny_newObj_type (wpAny_newFunctionEnv c.nocell (by intro y hy;simp at hy) (fun h1 hns hsb=>?_) c.kind)
 dsimp only at hns hsb ⊢
 have hf:H s.heap.objs.size=none:=I.hok.fresh (Nat.le_refl _)
 have I3:Inv X pins σ (upd H s.heap.objs.size (.lst [])) { s with heap:=s.heap.push { cls:=.type "list",dict:=none,data:=.seq ([]:List Value).toArray } } :=
  I.laid (t':=s.toks) (fun b u e=>Heap.get?_push_of_some _ e) (Nat.le_refl _) ⟨by decide,[],_,.nil,Heap.get?_push_size _ rfl⟩
 have eD:∀b u,s.heap.get? b=some u→b≠s.heap.objs.size:=fun b u e=>Nat.ne_of_lt (Heap.lt_size e)
 have fk3:∀b∈fp,FpOk X pins (upd H s.heap.objs.size (.lst [])) b∧∃o,(s.heap.push { cls:=.type "list",dict:=none,data:=.seq ([]:List Value).toArray }).get? b=some o:=fun b hb=>by
  obtain ⟨o,eo,_⟩:=T.obj 0 _ st b hb
  obtain ⟨f1,f2⟩:=fk b hb
  exact ⟨⟨by rw [upd_ne (eD b o eo)];exact f1,f2⟩,o,Heap.get?_push_of_some _ eo⟩
 have I4:=inv_comp (tk:=s.toks+([]:List (Str×Value)).length) I3 c rfl hns hsb fk3
 obtain ⟨W,⟨m0,w0⟩,turn⟩:=h _ hf
 have st4:tn 0 h1:=T.keep 0 _ _ st fun b hb o e=>by
  have e2:=Heap.get?_push_of_some { cls:=.type "list",dict:=none,data:=.seq ([]:List Value).toArray } e
  exact hsb.extBut b o (Nat.ne_of_lt (Heap.lt_size e2)) (Heap.get?_push_of_some _ e2)
 have stat:∀{H':Hp},(∀b∈fp,H' b=none)→∀b∈fp,FpOk (compCx X ys M scope cl (s.heap.push { cls:=.type "list",dict:=none,data:=.seq ([]:List Value).toArray }).objs.size { s with heap:=s.heap.push { cls:=.type "list",dict:=none,data:=.seq ([]:List Value).toArray } } (upd H s.heap.objs.size (.lst [])) fp pins) [] H' b :=
  fun hn b hb=>⟨hn b hb,(I4.ok.exf b hb).1,I4.ok.exfs b hb,.inl hb,(I4.ok.exf b hb).2,fun p hp=>(fk3 b hb).1.2.2.2.2.2 p (by simpa [compCx] using hp)⟩
 have loop:∀s4:Shared,s4 = { s with heap:=h1,toks:=s.toks+([]:List (Str×Value)).length } →
   codeAny (model X.prog X.w) X.A (.compLoop (.ListComp elt [⟨tg,iter,[],0⟩] scope pos) 0 (.ref it) (.ref s.heap.objs.size) (compEnvC scope cl (s.heap.push { cls:=.type "list",dict:=none,data:=.seq ([]:List Value).toArray }).objs.size X.env))
    (RR (.ref s.heap.objs.size) (s.heap.push { cls:=.type "list",dict:=none,data:=.seq ([]:List Value).toArray }).objs.size) s4:=by
  rintro s4 rfl
  refine comp_loop (fun n s'=>∃(i:Nat) (us:St) (H':Hp),us.length=ys.length∧Inv (compCx X ys M scope cl (s.heap.push { cls:=.type "list",dict:=none,data:=.seq ([]:List Value).toArray }).objs.size { s with heap:=s.heap.push { cls:=.type "list",dict:=none,data:=.seq ([]:List Value).toArray } } (upd H s.heap.objs.size (.lst [])) fp pins) [] (us ++ σ) H' s'∧tn i s'.heap∧(∀b∈fp,H' b=none)∧W i n H')
   ?_ m0 ⟨0,_,_,List.length_replicate,I4,st4,fun b hb=>(fk3 b hb).1.1,w0⟩
  rintro n s5 ⟨i,us,H5,lu,I5,st5,fr5,w5⟩
  rcases turn i n H5 w5 with ⟨stop,q⟩ | ⟨go,step⟩
  ·refine thn (T.done (compCx X ys M scope cl _ _ _ _ _) rfl rfl rfl hc i [] s5 _ H5 _ I5 (stat fr5) st5 stop) fun r s6 ⟨er,I6⟩=>?_
   subst er
   obtain ⟨m,hn6,_⟩:=id I6.loc
   obtain ⟨o6,_,_,ho6,_⟩:=id hn6
   exact fin _ _ H5 s6 (by rw [Heap.size_push];exact Nat.le_succ _) (fun z=>by have z':=ho6.symm.trans z;cases z') ⟨m,hn6⟩ I6.free (inv_uncomp I3 fk3 I6) q
  ·refine thn (T.item (compCx X ys M scope cl _ _ _ _ _) rfl rfl rfl hc i [] s5 _ H5 _ I5 (stat fr5) st5 go) fun r s6 ⟨u,er,h6⟩=>?_
   subst er
   refine thn h6 fun _ s7 ⟨v',H7,I7,r7,y7,st7,fr7⟩=>?_
   have I7':=I7.pinned (stat fr7) (T.obj _ _ st7)
   refine wpAny_mono (hg _ _ _ _ _ _ s7 _ H7 v' u _ I7' r7 (step v' H7 y7 us lu)) (fun _ s8 ⟨σ8,H8,I8,⟨us',lu',e8⟩,q8⟩=>?_) fun _ _ z=>z.elim
   refine wpAny_mono (he _ _ _ _ _ _ s8 _ H8 _ I8 q8) (fun y s9 ⟨yv,H9,I9,ry,xs,hxs,hlen,m',hm,w9⟩=>?_) fun _ _ z=>z.elim
   refine wpAny_mono (mt_append (X:=compCx X ys M scope cl _ _ _ _ _) _ s9 _ H9 (.ref s.heap.objs.size) [yv] (.ref s.heap.objs.size) [y] (fun _ H10=>H10=upd H9 s.heap.objs.size (.lst (xs++[yv]))) I9 rfl (.cons ry .nil) ⟨_,xs,yv,rfl,rfl,hxs,hlen,rfl⟩) (fun _ s10 ⟨z,H10,I10,rz,q10⟩=>?_) fun _ _ z=>z.elim
   subst q10
   subst e8
   refine ⟨m',hm,i+1,us',_,lu',I10.unpinned (pins:=[]),T.keep _ _ _ st7 fun b hb o e=>(I10.pin (b,o) (List.mem_append_right _ (List.mem_append_right _ (mem_pinsAt hb e)))).1,fun b hb=>?_,w9⟩
   obtain ⟨o,e,_⟩:=T.obj _ _ st7 b hb
   exact (I10.pin (b,o) (List.mem_append_right _ (List.mem_append_right _ (mem_pinsAt hb e)))).2.1
 exact codeAny_compStart_list (loop _ rfl) (T.self _ 0 _ _ _ st4 (loop _ rfl))
end
section
variable{X:Cx}{ys M:List Str}{x:Str}{scope:Scope}{cl:List (Str×Addr)}
theorem pe_compG{elt iter tg:Expr}{pos:Pos}{wi:TI}{g:TG}{te:TE}(c:CompSc X ys M scope cl)(hc:X.calm=true)(hi:PI X tg iter wi)(hg:∀C s₀ H₀ fp pins,PG (compCx X ys M scope cl C s₀ H₀ fp pins) tg g)(he:∀C s₀ H₀ fp pins,PE (compCx X ys M scope cl C s₀ H₀ fp pins) elt te)
  (hs:∀v,foldedSetIterable iter X.env v=pure v:=by intro _;rfl):PE X (.ListComp elt [⟨tg,iter,[],0⟩] scope pos) (tCompG wi ys.length g te):=by
 intro pins s σ H Q I h
 rw [eval_ListComp]
 refine wpAny_comprehension_free (use:=none) rfl hs c.clos c.kind c.names (thn (hi pins s σ H _ I h) fun v s1 h1=>thn h1 fun itv s2 h2=>?_)
 obtain ⟨it,fp,tn,J,H2,rfl,I2,T,st2,fk2,h3⟩:=h2
 refine comp_core (E:=X.xe) (QQ:=fun D H'=>Q (.ref D) H') I2 c hc hg he T st2 fk2 h3 fun D C H' s' hC hl ns fr I' q=>?_
 obtain ⟨m,hn⟩:=ns
 refine ⟨m,hn,fun h' hs'=>?_⟩
 have sz:=I2.sz
 exact ⟨.ref D,H',I'.turned (t':=s'.toks) (fun b o hb e=>(hs'.2 b hb).trans e) fr (I2.fpOk hC fr).2.1 (I2.fpOk hC fr).2.2.2.1 (I2.fpOk hC fr).2.2.2.2.1 (I2.fpOk hC fr).2.2.2.2.2,rfl,q⟩
theorem ps_setCG{elt iter tg:Expr}{pos py sp:Pos}{wi:TI}{g:TG}{te:TE}{i:Nat}{y:Str}(hy:X.N[i]? = some y)(ly:X.env.scope.names.lookup y=some .local)(c:CompSc X ys M scope cl)(hN:X.N.Nodup)(hc:X.calm=true)(hi:PI X tg iter wi)
  (hg:∀C s₀ H₀ fp pins,PG (compCx X ys M scope cl C s₀ H₀ fp pins) tg g) (he:∀C s₀ H₀ fp pins,PE (compCx X ys M scope cl C s₀ H₀ fp pins) elt te)
  (hsw:swapsWith (.ListComp elt [⟨tg,iter,[],0⟩] scope pos) (some (.Name y py)) sp.line X.env=pure true:=by rfl) (hs:∀v,foldedSetIterable iter X.env v=pure v:=by intro _;rfl) :
  PS X (.Assign [.Name y py] (.ListComp elt [⟨tg,iter,[],0⟩] scope pos) sp) (tAsg (tCompG wi ys.length g te) (gName i)):=by
 intro pins s σ H D I h
 rw [exec_Assign_Name_used _ _ _ _ hsw]
 refine wpAny_bind (wpAny_standAt (wpAny_bind ?_))
 show wpAny _ X.A (do let _ ← comprehension (.ListComp elt [⟨tg,iter,[],0⟩] scope pos) scope X.env _ (newList []) false (eval iter X.env) (some (assign (.Name y py) X.env))) _ _ s
 refine wpAny_bind (wpAny_mono (wpAny_comprehension_free (use:=some (assign (.Name y py) X.env)) (Q:=fun _ s'=>SP X pins D .next s') rfl hs c.clos c.kind c.names (thn (hi pins s σ H _ I h) fun v s1 h1=>thn h1 fun itv s2 h2=>?_)) (fun _ s' hq=>wpAny_pure (wpAny_pure hq)) fun _ _ z=>z)
 obtain ⟨it,fp,tn,J,H2,rfl,I2,T,st2,fk2,h3⟩:=h2
 refine comp_core (E:=X.xe) (QQ:=fun Da H'=>D.nx (σ.set i (some (.ref Da))) H') I2 c hc hg he T st2 fk2 h3 fun Da C H' s' hC hl ns fr I' q=>?_
 obtain ⟨m,hn⟩:=ns
 refine wpAny_assign_Name (store_ok2 I' hN hy (.inl ly) (v:=.ref Da) rfl (fun s3 I3 ⟨a,hsa,ha⟩=>?_) (.inr ly))
 have nC:C≠a:=by
  rcases ha with z | z
  ·rw [z];exact (I2.fpOk hC fr).2.1
  ·exact fun w'=>(I2.fpOk hC fr).2.2.2.2.1 y a z w'.symm
 refine ⟨m,hn.sameBut hsa nC,fun h' hs'=>⟨_,H',I3.turned (t':=s3.toks) (fun b o hb e=>(hs'.2 b hb).trans e) fr (I2.fpOk hC fr).2.1 (I2.fpOk hC fr).2.2.2.1 (I2.fpOk hC fr).2.2.2.2.1 (I2.fpOk hC fr).2.2.2.2.2,q⟩⟩
theorem own_pg{px:Pos}(c:CompSc X [x] M scope cl)(C:Addr)(s₀ : Shared)(H₀ : Hp)(fp:List Addr)(pins:List (Addr×Obj)):PG (compCx X [x] M scope cl C s₀ H₀ fp pins) (.Name x px) (gName 0):=by
 have hx:(relabel scope X.env).names.lookup x=some .local:=lookup_relabel_local (c.own x (by simp))
 exact pg_name (X:=compCx X [x] M scope cl C s₀ H₀ fp pins) (i:=0) c.nd rfl (.inl hx) (.inr hx)
end
end L2
namespace L2
open PySem PySem.Spec PyProof.Rows
def relS(scope sc:Scope):List (Str×NameKind):=scope.names.map fun (n,k)=>if (k == .free && sc.kind == .function && sc.names.lookup n == some .cell) then (n,.cell) else (n,k)
def clOf(scope:Scope)(cells:List (Str×Addr)):List (Str×Addr):=((scope.names.filter fun n=>n.2 == .free).map fun n=>(n.1,(cells.lookup n.1).getD 0)).reverse
structure CompS (sc:Scope) (N M ys:List Str) (scope:Scope):Prop where
 kind:scope.kind = .function
 nocell:∀y∈scope.names,y.2≠.cell
 names:∀y∈scope.names,y.2 = .local→scope.names.lookup y.1=some .local
 own:∀y∈ys,scope.names.lookup y=some .local
 nd:(ys++M).Nodup
 len:M.length=N.length
 same:∀p∈M.zip N,p.1=p.2∨(relS scope sc).lookup p.1=none
 apart:∀y∈M,(relS scope sc).lookup y≠some .local
 free:∀n∈scope.names,n.2 = .free→sc.names.lookup n.1=some .cell
theorem lookup_const{g:Str→Addr}:∀{l:List (Str×Addr)} {y:Str},(∀n∈l,n.2=g n.1)→∀{c:Addr},l.lookup y=some c→c=g y∧∃n∈l,n.1=y
 | [],_,_,_,h=>by simp at h
 | (n,a) :: r,y,hg,c,h=>by
  by_cases e:y=n
  ·subst e
   rw [List.lookup_cons,beq_self_eq_true] at h
   have h':a=c:=Option.some.inj h
   exact ⟨by rw [← h'];exact hg (y,a) List.mem_cons_self,_,List.mem_cons_self,rfl⟩
  ·have e':(y == n)=false:=beq_eq_false_iff_ne.mpr e
   rw [List.lookup_cons,e'] at h
   obtain ⟨h1,m,hm,h2⟩:=lookup_const (fun n hn=>hg n (List.mem_cons_of_mem _ hn)) h
   exact ⟨h1,m,List.mem_cons_of_mem _ hm,h2⟩
theorem lookup_mem{l:List (Str×Addr)}{y:Str}:(∃n∈l,n.1=y)→∃c,l.lookup y=some c:=by
 induction l with
 | nil=>rintro ⟨n,hn,_⟩;cases hn
 | cons a r ih =>
  rintro ⟨n,hn,e⟩
  obtain ⟨m,b⟩:=a
  by_cases e':y=m
  ·subst e'
   exact ⟨b,by rw [List.lookup_cons,beq_self_eq_true]⟩
  ·have e2:(y == m)=false:=beq_eq_false_iff_ne.mpr e'
   rw [List.lookup_cons,e2]
   refine ih ?_
   rcases List.mem_cons.mp hn with z | z
   ·rw [z] at e
    exact absurd e.symm e'
   ·exact ⟨n,z,e⟩
theorem clOf_mem{scope:Scope}{cells:List (Str×Addr)}{n:Str×Addr}:n∈clOf scope cells↔∃m∈scope.names,m.2 = .free∧n=(m.1,(cells.lookup m.1).getD 0):=by
 unfold clOf
 rw [List.mem_reverse,List.mem_map]
 constructor
 ·rintro ⟨m,hm,rfl⟩
  rw [List.mem_filter] at hm
  exact ⟨m,hm.1,beq_iff_eq.mp hm.2,rfl⟩
 ·rintro ⟨m,hm,hk,rfl⟩
  exact ⟨m,List.mem_filter.mpr ⟨hm,beq_iff_eq.mpr hk⟩,rfl⟩
theorem closure_eq{env:Env}:∀(names:List (Str×NameKind)) (acc:List (Str×Addr)),(∀n∈names,n.2 = .free→∃c,env.cells.lookup n.1=some c) →
  (forIn names acc fun x r=>do
   let (name,kind):=x
   if kind == .free then do
    let c ← cellOf env name
    pure (ForInStep.yield ((name,c) :: r))
   else pure (ForInStep.yield r):Sem (List (Str×Addr)))=pure (((names.filter fun n=>n.2 == .free).map fun n=>(n.1,(env.cells.lookup n.1).getD 0)).reverse++acc)
 | [],acc,_=>rfl
 | (n,k) :: r,acc,h=>by
  have ih:=fun acc=>closure_eq r acc fun m hm=>h m (List.mem_cons_of_mem _ hm)
  rw [List.forIn_cons]
  by_cases hk:k = .free
  ·subst hk
   obtain ⟨c,hc⟩:=h (n,.free) List.mem_cons_self rfl
   have e1:cellOf env n=pure c:=by unfold cellOf;rw [hc]
   simp only [beq_self_eq_true,if_true,e1,pure_bind,List.filter_cons,List.map_cons,List.reverse_cons,List.append_assoc,List.singleton_append]
   rw [hc]
   exact ih _
  ·have hb:(k == NameKind.free)=false:=beq_eq_false_iff_ne.mpr hk
   simp only [hb,Bool.false_eq_true,if_false,pure_bind,List.filter_cons]
   exact ih _
theorem CompS.sc{X:Cx}{ys M:List Str}{scope:Scope}(c:CompS X.env.scope X.N M ys scope)(ok:X.Ok):CompSc X ys M scope (clOf scope X.env.cells):=by
 have hfc:∀n∈scope.names,n.2 = .free→∃a,X.env.cells.lookup n.1=some a:=fun n hn hk=>ok.has n.1 (.inl (c.free n hn hk))
 refine ⟨c.kind,c.nocell,c.names,c.own,?_,c.nd,c.len,c.same,c.apart,fun y a h=>?_,fun y h=>?_⟩
 ·have z:=closure_eq (env:=X.env) scope.names [] hfc
  rw [List.append_nil] at z
  exact (congrArg (fun m:Sem (List (Str×Addr))=>m >>= fun cs=>pure cs) z).trans rfl
 ·obtain ⟨h1,n,hn,e⟩:=lookup_const (g:=fun z=>(X.env.cells.lookup z).getD 0) (fun n hn=>by obtain ⟨m,_,_,rfl⟩:=clOf_mem.mp hn;rfl) h
  obtain ⟨m,hm,hk,e2⟩:=clOf_mem.mp hn
  have ey:m.1=y:=by rw [← e,e2]
  obtain ⟨a',ha'⟩:=hfc m hm hk
  rw [ey] at ha'
  refine ⟨?_,.inl (by rw [← ey];exact c.free m hm hk)⟩
  rw [h1,ha']
  rfl
 ·have hm:∃m∈scope.names,m.1=y∧m.2 = .free:=by
   have go:∀names:List (Str×NameKind),(∀z∈names,z.2≠.cell)→((names.map fun (n,k)=>if (k == .free && X.env.scope.kind == .function && X.env.kindOf n == some .cell) then (n,NameKind.cell) else (n,k)).lookup y=some .cell∨(names.map fun (n,k)=>if (k == .free && X.env.scope.kind == .function && X.env.kindOf n == some .cell) then (n,NameKind.cell) else (n,k)).lookup y=some .free)→∃m∈names,m.1=y∧m.2 = .free:=by
    intro names
    induction names with
    | nil=>intro _ h;simp at h
    | cons a r ih =>
     intro nc h
     obtain ⟨n,k⟩:=a
     by_cases e:y=n
     ·subst e
      refine ⟨_,List.mem_cons_self,rfl,?_⟩
      have nk:k≠.cell:=nc (y,k) List.mem_cons_self
      by_cases hk:k = .free
      ·exact hk
      ·have hb:(k == NameKind.free)=false:=beq_eq_false_iff_ne.mpr hk
       simp only [List.map_cons,hb,Bool.false_and,Bool.false_eq_true,if_false,List.lookup_cons,beq_self_eq_true] at h
       rcases h with z | z
       ·exact absurd (Option.some.inj z) nk
       ·exact absurd (Option.some.inj z) hk
     ·have e':(y == n)=false:=beq_eq_false_iff_ne.mpr e
      have h':(r.map fun (n,k)=>if (k == .free && X.env.scope.kind == .function && X.env.kindOf n == some .cell) then (n,NameKind.cell) else (n,k)).lookup y=some .cell∨(r.map fun (n,k)=>if (k == .free && X.env.scope.kind == .function && X.env.kindOf n == some .cell) then (n,NameKind.cell) else (n,k)).lookup y=some .free:=by
       by_cases hb:(k == .free && X.env.scope.kind == .function && X.env.kindOf n == some .cell)=true
       ·simpa only [List.map_cons,hb,if_true,List.lookup_cons,e'] using h
       ·simpa only [List.map_cons,hb,Bool.false_eq_true,if_false,List.lookup_cons,e'] using h
      obtain ⟨m,hm,r1⟩:=ih (fun z hz=>nc z (List.mem_cons_of_mem _ hz)) h'
      exact ⟨m,List.mem_cons_of_mem _ hm,r1⟩
   exact go scope.names c.nocell h
  obtain ⟨m,hm,e,hk⟩:=hm
  exact lookup_mem ⟨_,clOf_mem.mpr ⟨m,hm,hk,rfl⟩,e⟩
section
variable{X:Cx}{x:Str}{ys M:List Str}{scope:Scope}
theorem pe_lcG{elt iter tg:Expr}{pos:Pos}{wi:TI}{g:TG}{te:TE}(c:CompS X.env.scope X.N M ys scope)(hc:X.calm=true)(hi:PI X tg iter wi)(hg:∀C s₀ H₀ fp pins,PG (compCx X ys M scope (clOf scope X.env.cells) C s₀ H₀ fp pins) tg g)(he:∀C s₀ H₀ fp pins,PE (compCx X ys M scope (clOf scope X.env.cells) C s₀ H₀ fp pins) elt te)
  (hs:∀v,foldedSetIterable iter X.env v=pure v:=by intro _;rfl):PE X (.ListComp elt [⟨tg,iter,[],0⟩] scope pos) (tCompG wi ys.length g te):=fun pins s σ H Q I h=>pe_compG (c.sc I.ok) hc hi hg he hs pins s σ H Q I h
theorem pe_lc{elt iter:Expr}{px pos:Pos}{wi:TI}{te:TE}(c:CompS X.env.scope X.N M [x] scope)(hN:X.N.Nodup)(hc:X.calm=true)(hi:PI X (.Name x px) iter wi)(he:∀C s₀ H₀ fp pins,PE (compCx X [x] M scope (clOf scope X.env.cells) C s₀ H₀ fp pins) elt te)
  (hs:∀v,foldedSetIterable iter X.env v=pure v:=by intro _;rfl):PE X (.ListComp elt [⟨.Name x px,iter,[],0⟩] scope pos) (tComp wi te):=by
 intro pins s σ H Q I h
 have hi':PI X (.Name x px) iter (fun σ H R=>∃R',(∀J H1,R' J H1→R J H1)∧wi σ H R'):=by
  intro pins s σ H R I ⟨R',hR,hw⟩
  refine thn (hi pins s σ H R' I hw) fun v s1 h1=>thn h1 fun itv s2 ⟨it,fp,tn,J,H',e,I',T,t0,fk,r⟩=>⟨it,fp,tn,J,H',e,I',T,t0,fk,hR J H' r⟩
 exact pe_compG (c.sc I.ok) hc hi' (fun C s₀ H₀ fp pins=>own_pg (c.sc I.ok) C s₀ H₀ fp pins) he hs pins s σ H Q I ⟨_,fun J H1 q=>compG_of q,h⟩
theorem ps_lc{elt iter:Expr}{px pos py sp:Pos}{wi:TI}{te:TE}{i:Nat}{y:Str}(hN:X.N.Nodup)(hy:X.N[i]? = some y)(ly:X.env.scope.names.lookup y=some .local)(c:CompS X.env.scope X.N M [x] scope)(hc:X.calm=true)(hi:PI X (.Name x px) iter wi)(he:∀C s₀ H₀ fp pins,PE (compCx X [x] M scope (clOf scope X.env.cells) C s₀ H₀ fp pins) elt te)
  (hsw:swapsWith (.ListComp elt [⟨.Name x px,iter,[],0⟩] scope pos) (some (.Name y py)) sp.line X.env=pure true:=by rfl) (hs:∀v,foldedSetIterable iter X.env v=pure v:=by intro _;rfl) :
  PS X (.Assign [.Name y py] (.ListComp elt [⟨.Name x px,iter,[],0⟩] scope pos) sp) (tAsg (tComp wi te) (gName i)):=by
 intro pins s σ H D I h
 have hi':PI X (.Name x px) iter (fun σ H R=>∃R',(∀J H1,R' J H1→R J H1)∧wi σ H R'):=by
  intro pins s σ H R I ⟨R',hR,hw⟩
  refine thn (hi pins s σ H R' I hw) fun v s1 h1=>thn h1 fun itv s2 ⟨it,fp,tn,J,H',e,I',T,t0,fk,r⟩=>⟨it,fp,tn,J,H',e,I',T,t0,fk,hR J H' r⟩
 exact ps_setCG hy ly (c.sc I.ok) hN hc hi' (fun C s₀ H₀ fp pins=>own_pg (c.sc I.ok) C s₀ H₀ fp pins) he hsw hs pins s σ H D I ⟨_,fun J H1 q=>compG_of q,h⟩
end
end L2
namespace L2
open PySem PySem.Spec PyProof.Rows
def Push(D:Addr)(Pv:Hp→Prop):VK:=fun y H2=>∃xs,H2 D=some (.lst xs)∧xs.length < sizeLine∧Pv (upd H2 D (.lst (xs++[y])))
section
variable{K:PySem.W.Frag}{te:TE}{σ : St}{Q:VK}{H:Hp}
def EltK(D:Addr)(n i:Nat)(Pv:Nat→Hp→Prop):VK:=fun y H2=>∃xs,H2 D=some (.lst xs)∧xs.length < sizeLine∧∃m',m' < n - i∧m'=n - (i+1)∧i+1≤n∧Pv (i+1) (upd H2 D (.lst (xs++[y])))
def Elt(te:TE)(σ : St)(v:V)(H:Hp)(D:Addr)(n i:Nat)(Pv:Nat→Hp→Prop):Prop:=te (some v :: σ) H (EltK D n i Pv)
theorem pushed{D:Addr}{n i:Nat}{Pv:Nat→Hp→Prop}{y:V}{H2:Hp}(hi:i < n)(h:Push D (Pv (i+1)) y H2):EltK D n i Pv y H2:=by
 obtain ⟨xs,h1,h2,h3⟩:=h
 exact ⟨xs,h1,h2,n - (i+1),by omega,rfl,hi,h3⟩
theorem comp_range{lo:Int}{n:Nat}(h:∀D,H D=none→∃Pv:Nat→Hp→Prop,Pv 0 (upd H D (.lst []))∧(∀i H2,i < n→Pv i H2→Elt te σ (.int (lo+i)) H2 D n i Pv)∧∀H2,Pv n H2→Q (.ref D) H2):CompAt (Itr lo n) te σ Q H:=by
 intro D nD
 obtain ⟨Pv,h0,hs,hd⟩:=h D nD
 refine ⟨fun i m H=>m=n - i∧i≤n∧Pv i H,⟨n,by simp,Nat.zero_le _,h0⟩,?_⟩
 rintro i m H ⟨rfl,hi,p⟩
 by_cases hlt:i < n
 ·refine .inr ⟨hlt,fun v H' y=>?_⟩
  obtain ⟨e,y⟩:=y
  subst e y
  exact hs i _ hlt p
 ·have e:i=n:=by omega
  subst e
  exact .inl ⟨Nat.le_refl _,hd H p⟩
theorem comp_list{a:Addr}{xs:List V}(h:∀D,H D=none→∃Pv:Nat→Hp→Prop,Pv 0 (upd H D (.lst []))∧(∀i H2,i≤xs.length→Pv i H2→SqL K H2 a xs)∧(∀i x H2,xs[i]? = some x→Pv i H2→Elt te σ x H2 D xs.length i Pv)∧∀H2,Pv xs.length H2→Q (.ref D) H2):CompAt (Itl K a) te σ Q H:=by
 intro D nD
 obtain ⟨Pv,h0,hl,hs,hd⟩:=h D nD
 refine ⟨fun i m H=>m=xs.length - i∧i≤xs.length∧Pv i H,⟨xs.length,by simp,Nat.zero_le _,h0⟩,?_⟩
 rintro i m H ⟨rfl,hi,p⟩
 have q:=hl i H hi p
 by_cases hlt:i < xs.length
 ·refine .inr ⟨⟨xs,xs[i],q,by simp [hlt]⟩,fun v H' y=>?_⟩
  obtain ⟨e,y⟩:=y
  subst e
  exact hs i v _ (y xs q) p
 ·have e:i=xs.length:=by omega
  subst e
  exact .inl ⟨⟨xs,q,Nat.le_refl _⟩,hd H p⟩
end
end L2
namespace L2
open PySem PySem.Spec PyProof.Rows
open PySem.W (Dat kqdOk)
section
variable{K:PySem.W.Frag}{σ : St}{H:Hp}{Q:VK}{D:Ends}{ta tb tc te:TE}{t u:TS}{c:TT}{QB:Bool→Hp→Prop}{QA:List V→Hp→Prop}{QS:St→Hp→Prop}
theorem k_seq(h:t { D with nx:=u D } σ H):tSeq t u D σ H:=h
theorem k_next(h:D.nx σ H):tNext D σ H:=h
theorem k_drop(h:te σ H fun _ H1=>D.nx σ H1):tDrop te D σ H:=h
theorem k_ret(h:te σ H D.rt):tRet te D σ H:=h
theorem k_ifS(h:c σ H fun b H1=>if b=true then t D σ H1 else u D σ H1):tIfS c t u D σ H:=h
theorem k_asg{g:TG}(h:te σ H fun x H1=>g x σ H1 D.nx):tAsg te g D σ H:=h
theorem k_gName{i:Nat}{v:V}(h:QS (σ.set i (some v)) H):gName i v σ H QS:=h
theorem k_var{i:Nat}{v:V}(e : σ[i]? = some (some v))(h:Q v H):tVar i σ H Q:=⟨v,e,h⟩
theorem k_c{v:V}(h:Q v H):tC v σ H Q:=h
theorem k_op{r:R2}(h:ta σ H fun x H1=>tb σ H1 fun y H2=>r x y H2 Q):tOp r ta tb σ H Q:=h
theorem k_rI0{g:Int→Int→V}{i j:Int}(h:Q (g i j) H):rI0 g (.int i) (.int j) H Q:=⟨i,j,rfl,rfl,h⟩
theorem k_rI{C:Int→Int→Prop}{g:Int→Int→V}{i j:Int}(hc:C i j)(h:Q (g i j) H):rI C g (.int i) (.int j) H Q:=⟨i,j,rfl,rfl,hc,h⟩
theorem k_eqI{i j:Int}(h:Q (.bl (decide (i=j))) H):rEq (.int i) (.int j) H Q:=⟨rfl,by
 have e:decide (V.int i=V.int j)=decide (i=j):=by
  by_cases z:i=j
  ·subst z;simp
  ·simp [z]
 rw [e];exact h⟩
theorem k_neI{i j:Int}(h:Q (.bl (!decide (i=j))) H):rNe (.int i) (.int j) H Q:=⟨rfl,by
 have e:decide (V.int i=V.int j)=decide (i=j):=by
  by_cases z:i=j
  ·subst z;simp
  ·simp [z]
 rw [e];exact h⟩
theorem k_eqS{i j:Str}(h:Q (.bl (decide (i=j))) H):rEq (.str i) (.str j) H Q:=⟨rfl,by
 have e:decide (V.str i=V.str j)=decide (i=j):=by
  by_cases z:i=j
  ·subst z;simp
  ·simp [z]
 rw [e];exact h⟩
theorem k_eqB{i j:Bool}(h:Q (.bl (decide (i=j))) H):rEq (.bl i) (.bl j) H Q:=⟨rfl,by
 have e:decide (V.bl i=V.bl j)=decide (i=j):=by
  by_cases z:i=j
  ·subst z;simp
  ·simp [z]
 rw [e];exact h⟩
theorem k_neB{i j:Bool}(h:Q (.bl (!decide (i=j))) H):rNe (.bl i) (.bl j) H Q:=⟨rfl,by
 have e:decide (V.bl i=V.bl j)=decide (i=j):=by
  by_cases z:i=j
  ·subst z;simp
  ·simp [z]
 rw [e];exact h⟩
theorem k_isN{x:V}(h:Q (.bl (decide (x = .non))) H):rIsN x .non H Q:=⟨rfl,h⟩
theorem k_notN{x:V}(h:Q (.bl (!decide (x = .non))) H):rNotN x .non H Q:=⟨rfl,h⟩
theorem k_test(h:te σ H fun x H'=>∃k,x = .bl k∧QB k H'):tTest te σ H QB:=h
theorem k_tB(h:te σ H fun x H'=>∃k,x = .bl k∧QB k H'):tB te σ H QB:=h
theorem k_bl{P:Bool→Prop}{b:Bool}(h:P b):∃k,V.bl b = .bl k∧P k:=⟨b,rfl,h⟩
theorem k_not(h:c σ H fun b H1=>QB (!b) H1):tNot c σ H QB:=h
theorem k_and{c':TT}(h:c σ H fun b H1=>if b=true then c' σ H1 QB else QB false H1):tAnd c c' σ H QB:=h
theorem k_or{c':TT}(h:c σ H fun b H1=>if b=true then QB true H1 else c' σ H1 QB):tOr c c' σ H QB:=h
theorem k_andV(h:ta σ H fun x H1=>∃k,x = .bl k∧if k=true then tb σ H1 Q else Q (.bl false) H1):tAndV ta tb σ H Q:=h
theorem k_notV(h:ta σ H fun x H1=>∃k,x = .bl k∧Q (.bl (!k)) H1):tNotV ta σ H Q:=h
theorem k_nil(h:QA [] H):tNil σ H QA:=h
theorem k_cons{tr:TA}(h:ta σ H fun x H1=>tr σ H1 fun xs H2=>QA (x :: xs) H2):tCons ta tr σ H QA:=h
theorem k_call{sp:Sp}{dvs:List V}{E:XK}{ts:TA}(h:ts σ H fun vs H1=>sp (vs++dvs) H1 Q E):tCall sp dvs E ts σ H Q:=h
theorem k_cB{r:List V→Hp→VK→Prop}{ts:TA}(h:ts σ H fun vs H1=>r vs H1 Q):tCB r ts σ H Q:=h
theorem k_tup{ts:TA}(h:ts σ H fun xs H1=>xs.length≤sizeLine∧∀p,H1 p=none→Q (.ref p) (upd H1 p (.tup xs))):tTup ts σ H Q:=h
theorem k_lst{ts:TA}(h:ts σ H fun xs H1=>xs.length≤sizeLine∧∀p,H1 p=none→Q (.ref p) (upd H1 p (.lst xs))):tLst ts σ H Q:=h
theorem k_sl{r:V→Option Int→Option Int→Hp→VK→Prop}{tl th:TO}(h:te σ H fun x H1=>tl σ H1 fun l H2=>th σ H2 fun u H3=>r x l u H3 Q):tSl r te tl th σ H Q:=h
theorem k_noPart{QO:Option Int→Hp→Prop}(h:QO none H):tNoPart σ H QO:=h
theorem k_part{QO:Option Int→Hp→Prop}(h:te σ H fun x H1=>∃i,x = .int i∧QO (some i) H1):tPart te σ H QO:=h
theorem k_int{P:Int→Prop}{i:Int}(h:P i):∃j,V.int i = .int j∧P j:=⟨i,rfl,h⟩
theorem k_ite{p:Prop}[Decidable p]{A B:Prop}(h1:p→A)(h2 : ¬ p→B):if decide p=true then A else B:=iteD h1 h2
theorem k_iteN{p:Prop}[Decidable p]{A B:Prop}(h1 : ¬ p→A)(h2:p→B):if (!decide p)=true then A else B:=by
 by_cases h:p
 ·rw [decide_eq_true h];exact iteF (h2 h)
 ·rw [decide_eq_false h];exact iteT (h1 h)
theorem k_iteNF{A B:Prop}(h:A):if (!false)=true then A else B:=iteT h
theorem k_iteNT{A B:Prop}(h:B):if (!true)=true then A else B:=iteF h
def FAt(J:It)(g:TG)(tb:TS)(D:Ends)(σ : St)(H1:Hp):Prop:=∃W:Nat→Nat→St→Hp→Prop,(∃m,W 0 m σ H1)∧∀i m σ H,W i m σ H →
 (J.stop i H∧D.nx σ H)∨(J.go i H∧∃N:St→Hp→Prop,(∀σ' H',N σ' H'→∃m',m' < m∧W (i+1) m' σ' H')∧∀x H',J.yld i H x H'→g x σ H' fun σ2 H2=>tb { D with nx:=N,ct:=N,bk:=D.nx } σ2 H2)
theorem k_for{wi:TI}{g:TG}{tb:TS}(h:wi σ H fun J H1=>FAt J g tb D σ H1):tFor wi g tb D σ H:=h
theorem k_comp{wi:TI}(h:wi σ H fun J H1=>CompAt J te σ Q H1):tComp wi te σ H Q:=h
theorem k_rng1{ts:TA}{R:It→Hp→Prop}(h:ts σ H fun vs H1=>∃j:Int,vs=[.int j]∧-(2 ^ 62)≤j∧j < 2 ^ 62∧R (Itr 0 j.toNat) H1):iRng1 ts σ H R:=h
theorem k_r1F{g:TG}{tb:TS}{j:Int}(h0 : -(2 ^ 62)≤j∧j < 2 ^ 62)(h:FAt (Itr 0 j.toNat) g tb D σ H):∃i:Int,[V.int j]=[.int i]∧-(2 ^ 62)≤i∧i < 2 ^ 62∧FAt (Itr 0 i.toNat) g tb D σ H:=⟨j,rfl,h0.1,h0.2,h⟩
theorem k_r1C{j:Int}(h0 : -(2 ^ 62)≤j∧j < 2 ^ 62)(h:CompAt (Itr 0 j.toNat) te σ Q H):∃i:Int,[V.int j]=[.int i]∧-(2 ^ 62)≤i∧i < 2 ^ 62∧CompAt (Itr 0 i.toNat) te σ Q H:=⟨j,rfl,h0.1,h0.2,h⟩
theorem k_iList{R:It→Hp→Prop}(h:te σ H fun x H1=>∃a,x = .ref a∧(∃xs,SqL K H1 a xs)∧R (Itl K a) H1):iList K te σ H R:=h
theorem k_rlF{g:TG}{tb:TS}{a:Addr}{xs:List V}(e:SqL K H a xs)(h:FAt (Itl K a) g tb D σ H):∃b,V.ref a = .ref b∧(∃xs,SqL K H b xs)∧FAt (Itl K b) g tb D σ H:=⟨a,rfl,⟨xs,e⟩,h⟩
theorem k_rlC{a:Addr}{xs:List V}(e:SqL K H a xs)(h:CompAt (Itl K a) te σ Q H):∃b,V.ref a = .ref b∧(∃xs,SqL K H b xs)∧CompAt (Itl K b) te σ Q H:=⟨a,rfl,⟨xs,e⟩,h⟩
theorem fat_range{lo:Int}{n:Nat}{g:TG}{tb:TS}(Pv:Nat→St→Hp→Prop)(h0:Pv 0 σ H)
  (hs:∀i σ H,i < n→Pv i σ H→g (.int (lo+i)) σ H fun σ2 H2=>tb { D with nx:=Pv (i+1),ct:=Pv (i+1),bk:=D.nx } σ2 H2) (hd:∀σ H,Pv n σ H→D.nx σ H):FAt (Itr lo n) g tb D σ H:=for_range Pv h0 hs hd
theorem fat_list{a:Addr}{xs:List V}{g:TG}{tb:TS}(Pv:Nat→St→Hp→Prop)(h0:Pv 0 σ H)(hl:∀i σ H,i≤xs.length→Pv i σ H→SqL K H a xs)
  (hs:∀i x σ H,xs[i]? = some x→Pv i σ H→g x σ H fun σ2 H2=>tb { D with nx:=Pv (i+1),ct:=Pv (i+1),bk:=D.nx } σ2 H2) (hd:∀σ H,Pv xs.length σ H→D.nx σ H):FAt (Itl K a) g tb D σ H:=for_list Pv h0 hl hs hd
theorem k_elt{v:V}{D:Addr}{n i:Nat}{Pv:Nat→Hp→Prop}(h:te (some v :: σ) H (EltK D n i Pv)):Elt te σ v H D n i Pv:=h
theorem k_gTup{n:Nat}{ts:TGs}{a:Addr}{xs:List V}(e:SqT K H a xs)(l:xs.length=n)(h:ts xs σ H QS):gTup K n ts (.ref a) σ H QS:=⟨a,xs,rfl,e,l,h⟩
theorem k_gCons{tg:TG}{ts:TGs}{v:V}{r:List V}(h:tg v σ H fun σ' H'=>ts r σ' H' QS):gCons tg ts (v :: r) σ H QS:=⟨v,r,rfl,h⟩
theorem k_gNil(h:QS σ H):gNil [] σ H QS:=⟨rfl,h⟩
theorem k_lenL{p:Addr}{xs:List V}(e:SqL K H p xs)(h:Q (.int xs.length) H):rLenQ K [.ref p] H Q:=⟨p,xs,rfl,.inl e,h⟩
theorem k_lenT{p:Addr}{xs:List V}(e:SqT K H p xs)(h:Q (.int xs.length) H):rLenQ K [.ref p] H Q:=⟨p,xs,rfl,.inr e,h⟩
theorem k_ixL{p:Addr}{xs:List V}{i:Int}{v:V}(e:SqL K H p xs)(a:atI xs i=some v)(h:Q v H):rIxL K (.ref p) (.int i) H Q:=⟨p,xs,i,v,rfl,rfl,e,a,h⟩
theorem k_ixT{p:Addr}{xs:List V}{i:Int}{v:V}(e:SqT K H p xs)(a:atI xs i=some v)(h:Q v H):rIxT K (.ref p) (.int i) H Q:=⟨p,xs,i,v,rfl,rfl,e,a,h⟩
theorem k_ixS{z:Str}{i:Int}{c:Nat}(e:z.length≤sizeLine)(a:atI z.cps.toList i=some c)(h:Q (.str ⟨#[c]⟩) H):rIxS (.str z) (.int i) H Q:=⟨z,i,c,rfl,rfl,e,a,h⟩
theorem k_tupL{p:Addr}{xs:List V}(e:SqL K H p xs)(h:∀l,H l=none→Q (.ref l) (upd H l (.tup xs))):rTupOf K [.ref p] H Q:=⟨p,xs,rfl,.inl ⟨e,h⟩⟩
theorem k_tupT{p:Addr}{xs:List V}(e:SqT K H p xs)(h:Q (.ref p) H):rTupOf K [.ref p] H Q:=⟨p,xs,rfl,.inr ⟨e,h⟩⟩
theorem k_listL{p:Addr}{xs:List V}(e:SqL K H p xs)(h:∀l,H l=none→Q (.ref l) (upd H l (.lst xs))):rListOf K [.ref p] H Q:=⟨p,xs,rfl,.inl e,h⟩
theorem k_bm{T:String}{r:V→List V→Hp→VK→Prop}{to:TE}{ts:TA}(h:to σ H fun x H1=>tyV K T x H1∧ts σ H1 fun xs H2=>r x xs H2 Q):tBM K T r to ts σ H Q:=h
theorem k_bm0{T:String}{r:V→List V→Hp→VK→Prop}{to:TE}(h:to σ H fun x H1=>tyV K T x H1∧r x [] H1 Q):tBM0 K T r to σ H Q:=h
theorem k_tyL {p:Addr} {xs:List V} (e:H p=some (.lst xs)):tyV K "list" (.ref p) H:=.inl ⟨rfl,xs,SqL.of e⟩
theorem k_clear{l:Addr}{xs:List V}(e:H l=some (.lst xs))(h:Q .non (upd H l (.lst []))):rClear (.ref l) [] H Q:=⟨l,xs,rfl,rfl,e,h⟩
theorem k_intB{b:Bool}(h:Q (.int (if b then 1 else 0)) H):rInt1 [.bl b] H Q:=.inr ⟨b,rfl,h⟩
theorem k_isi{x:V}{n:String}{ty:Value}{b:Bool}(e:TyOf K H x ty)(k:PySem.W.kitOne K ty (.type n)=some b)(h:Q (.bl b) H):rIsi K [x,.ty n] H Q:=⟨x,n,ty,b,rfl,e,k,h⟩
theorem k_addS{i j:Str}(n:i.length+j.length≤sizeLine)(h:Q (.str (i++j)) H):rAddS (.str i) (.str j) H Q:=⟨i,j,rfl,rfl,n,h⟩
end
mutual
inductive Rp (K:PySem.W.Frag) (S:Addr→Prop) (H:Hp):V→Dat→Prop
 | non:Rp K S H .non .none
 | bl (b:Bool):Rp K S H (.bl b) (.bool b)
 | int (i:Int):Rp K S H (.int i) (.int i)
 | str (x:Str):Rp K S H (.str x) (.str x)
 | tup {a:Addr} {xs:List V} {ds:List Dat}:H a=some (.tup xs)→RpL K S H xs ds→Rp K S H (.ref a) (.tuple ds)
 | lst {a:Addr} {xs:List V} {ds:List Dat}:S a→H a=some (.lst xs)→RpL K S H xs ds→Rp K S H (.ref a) (.list ds)
inductive RpL (K:PySem.W.Frag) (S:Addr→Prop) (H:Hp):List V→List Dat→Prop
 | nil:RpL K S H [] []
 | cons {v:V} {d:Dat} {vs:List V} {ds:List Dat}:Rp K S H v d→RpL K S H vs ds→RpL K S H (v :: vs) (d :: ds)
end
structure Agr (S:Addr→Prop) (H H':Hp):Prop where
 tup:∀a xs,H a=some (.tup xs)→H' a=some (.tup xs)
 lst:∀a xs,S a→H a=some (.lst xs)→H' a=some (.lst xs)
section
variable{K:PySem.W.Frag}{S S':Addr→Prop}{H H':Hp}
theorem Agr.of_same(e:Same H H'):Agr S H H':=⟨fun a xs h=>e _ _ h,fun a xs _ h=>e _ _ h⟩
theorem Agr.of_upd{l:Addr}{ys:List V}{o:HO}(hl:H l=some (.lst ys))(ns : ¬ S l):Agr S H (upd H l o):=by
 refine ⟨fun a xs h=>?_,fun a xs s h=>?_⟩
 ·have ne:a≠l:=by
   rintro rfl
   rw [hl] at h
   cases h
  rw [upd_ne ne];exact h
 ·have ne:a≠l:=by
   rintro rfl
   exact ns s
  rw [upd_ne ne];exact h
mutual
theorem Rp.agr(e:Agr S H H'):∀{v:V} {d:Dat},Rp K S H v d→Rp K S H' v d
 | _,_,.non=>.non
 | _,_,.bl b=>.bl b
 | _,_,.int i=>.int i
 | _,_,.str x=>.str x
 | _,_,.tup h r=>.tup (e.tup _ _ h) (RpL.agr e r)
 | _,_,.lst s h r=>.lst s (e.lst _ _ s h) (RpL.agr e r)
theorem RpL.agr(e:Agr S H H'):∀{vs:List V} {ds:List Dat},RpL K S H vs ds→RpL K S H' vs ds
 | _,_,.nil=>.nil
 | _,_,.cons h r=>.cons (Rp.agr e h) (RpL.agr e r)
end
mutual
theorem Rp.mono(e:∀a,S a→S' a):∀{v:V} {d:Dat},Rp K S H v d→Rp K S' H v d
 | _,_,.non=>.non
 | _,_,.bl b=>.bl b
 | _,_,.int i=>.int i
 | _,_,.str x=>.str x
 | _,_,.tup h r=>.tup h (RpL.mono e r)
 | _,_,.lst s h r=>.lst (e _ s) h (RpL.mono e r)
theorem RpL.mono(e:∀a,S a→S' a):∀{vs:List V} {ds:List Dat},RpL K S H vs ds→RpL K S' H vs ds
 | _,_,.nil=>.nil
 | _,_,.cons h r=>.cons (Rp.mono e h) (RpL.mono e r)
end
mutual
theorem Rp.rep:∀{v:V} {d:Dat},Rp K S H v d→Rep K H v d
 | _,_,.non=>.non
 | _,_,.bl b=>.bl b
 | _,_,.int i=>.int i
 | _,_,.str x=>.str x
 | _,_,.tup h r=>.tup (SqT.of h) (RpL.rep r)
 | _,_,.lst _ h r=>.lst (SqL.of h) (RpL.rep r)
theorem RpL.rep:∀{vs:List V} {ds:List Dat},RpL K S H vs ds→RepL K H vs ds
 | _,_,.nil=>.nil
 | _,_,.cons h r=>.cons (Rp.rep h) (RpL.rep r)
end
theorem Rp.same(e:Same H H'){v:V}{d:Dat}(h:Rp K S H v d):Rp K S H' v d:=h.agr (Agr.of_same e)
theorem RpL.same(e:Same H H'){vs:List V}{ds:List Dat}(h:RpL K S H vs ds):RpL K S H' vs ds:=h.agr (Agr.of_same e)
theorem RpL.length:∀{vs:List V} {ds:List Dat},RpL K S H vs ds→vs.length=ds.length
 | _,_,.nil=>rfl
 | _,_,.cons _ r=>congrArg (· + 1) (RpL.length r)
theorem RpL.get:∀{vs:List V} {ds:List Dat} {i:Nat} {v:V},RpL K S H vs ds→vs[i]? = some v→∃d,ds[i]? = some d∧Rp K S H v d
 | _,_,_,_,.nil,e=>by simp at e
 | _,_,0,_,.cons h _,e=>by simp at e;subst e;exact ⟨_,rfl,h⟩
 | _,_,i+1,v,.cons _ r,e=>by
  obtain ⟨d,h1,h2⟩:=RpL.get (i:=i) (v:=v) r (by simpa using e)
  exact ⟨d,by simpa using h1,h2⟩
theorem RpL.get':∀{vs:List V} {ds:List Dat} {i:Nat} {d:Dat},RpL K S H vs ds→ds[i]? = some d→∃v,vs[i]? = some v∧Rp K S H v d
 | _,_,_,_,.nil,e=>by simp at e
 | _,_,0,_,.cons h _,e=>by simp at e;subst e;exact ⟨_,rfl,h⟩
 | _,_,i+1,v,.cons _ r,e=>by
  obtain ⟨d,h1,h2⟩:=RpL.get' (i:=i) (d:=v) r (by simpa using e)
  exact ⟨d,by simpa using h1,h2⟩
theorem RpL.append:∀{vs ws:List V} {ds es:List Dat},RpL K S H vs ds→RpL K S H ws es→RpL K S H (vs++ws) (ds++es)
 | _,_,_,_,.nil,s=>s
 | _,_,_,_,.cons h r,s=>.cons h (RpL.append r s)
theorem RpL.take:∀{vs:List V} {ds:List Dat} (n:Nat),RpL K S H vs ds→RpL K S H (vs.take n) (ds.take n)
 | _,_,0,_=>.nil
 | _,_,_+1,.nil=>.nil
 | _,_,n+1,.cons h r=>.cons h (RpL.take n r)
theorem RpL.ints:∀ns:List Int,RpL K S H (ns.map V.int) (ns.map Dat.int)
 | []=>.nil
 | n :: ns=>.cons (.int n) (RpL.ints ns)
theorem RpL.strs:∀ns:List Str,RpL K S H (ns.map V.str) (ns.map Dat.str)
 | []=>.nil
 | n :: ns=>.cons (.str n) (RpL.strs ns)
theorem RpL.ints_of:∀{vs:List V} {ns:List Int},RpL K S H vs (ns.map Dat.int)→vs=ns.map V.int
 | _,[],.nil=>rfl
 | _,n :: ns,.cons h r=>by cases h;rw [RpL.ints_of r];rfl
theorem RpL.strs_of:∀{vs:List V} {ns:List Str},RpL K S H vs (ns.map Dat.str)→vs=ns.map V.str
 | _,[],.nil=>rfl
 | _,n :: ns,.cons h r=>by cases h;rw [RpL.strs_of r];rfl
theorem Rp.tup_of{v:V}{ds:List Dat}(h:Rp K S H v (.tuple ds)):∃a xs,v = .ref a∧SqT K H a xs∧RpL K S H xs ds:=by
 cases h with
 | tup h r=>exact ⟨_,_,rfl,SqT.of h,r⟩
theorem Rp.tup_at{v:V}{ds:List Dat}(h:Rp K S H v (.tuple ds)):∃a xs,v = .ref a∧H a=some (.tup xs)∧RpL K S H xs ds:=by
 cases h with
 | tup h r=>exact ⟨_,_,rfl,h,r⟩
theorem Rp.lst_of{v:V}{ds:List Dat}(h:Rp K S H v (.list ds)):∃a xs,v = .ref a∧S a∧SqL K H a xs∧RpL K S H xs ds:=by
 cases h with
 | lst s h r=>exact ⟨_,_,rfl,s,SqL.of h,r⟩
theorem Rp.lst_at{v:V}{ds:List Dat}(h:Rp K S H v (.list ds)):∃a xs,v = .ref a∧S a∧H a=some (.lst xs)∧RpL K S H xs ds:=by
 cases h with
 | lst s h r=>exact ⟨_,_,rfl,s,h,r⟩
end
def F0:Addr→Prop:=fun _=>False
abbrev Rz(K:PySem.W.Frag)(H:Hp):V→Dat→Prop:=Rp K F0 H
abbrev RzL(K:PySem.W.Frag)(H:Hp):List V→List Dat→Prop:=RpL K F0 H
section
variable{K:PySem.W.Frag}{S:Addr→Prop}{H H':Hp}
theorem RpL.z{vs:List V}{ds:List Dat}(h:RzL K H vs ds):RpL K S H vs ds:=h.mono fun _ z=>z.elim
theorem Rz.upd{l:Addr}{ys:List V}{o:HO}{v:V}{d:Dat}(h:Rz K H v d)(hl:H l=some (.lst ys)):Rz K (L2.upd H l o) v d:=h.agr (Agr.of_upd hl fun z=>z)
theorem RzL.upd{l:Addr}{ys:List V}{o:HO}{v:List V}{d:List Dat}(h:RzL K H v d)(hl:H l=some (.lst ys)):RzL K (L2.upd H l o) v d:=h.agr (Agr.of_upd hl fun z=>z)
end
structure Acc (K:PySem.W.Frag) (H0:Hp) (l:Addr) (H:Hp) (ds:List Dat):Prop where
 same:Same H0 H
 new:H0 l=none
 at_:∃xs,H l=some (.lst xs)∧RpL K (fun a=>H0 a=none∧a≠l) H xs ds
section
variable{K:PySem.W.Frag}{H0 H H':Hp}{l:Addr}{ds:List Dat}
theorem Acc.start(n:H0 l=none):Acc K H0 l (upd H0 l (.lst [])) []:=⟨same_new n _,n,[],upd_same,.nil⟩
theorem Acc.on(A:Acc K H0 l H ds)(e:Same H H'):Acc K H0 l H' ds:=by
 obtain ⟨xs,h1,h2⟩:=A.at_
 exact ⟨A.same.trans e,A.new,xs,e _ _ h1,h2.same e⟩
theorem Acc.push(A:Acc K H0 l H ds){S:Addr→Prop}{y:V}{d:Dat}(r:Rp K S H y d)(hS:∀a,S a→H0 a=none∧a≠l):∃xs,H l=some (.lst xs)∧xs.length=ds.length∧Acc K H0 l (upd H l (.lst (xs++[y]))) (ds++[d]):=by
 obtain ⟨xs,h1,h2⟩:=A.at_
 refine ⟨xs,h1,h2.length,⟨fun b o q=>?_,A.new,xs++[y],upd_same,?_⟩⟩
 ·rw [upd_ne (ne_of_none q A.new)]
  exact A.same b o q
 ·exact (h2.append (.cons (r.mono hS) .nil)).agr (Agr.of_upd h1 fun z=>z.2 rfl)
theorem Acc.pushN(A:Acc K H0 l H ds)(e:Same H H'){y:V}{d:Dat}(r:Rp K (fun a=>H a=none) H' y d):∃xs,H' l=some (.lst xs)∧xs.length=ds.length∧Acc K H0 l (upd H' l (.lst (xs++[y]))) (ds++[d]) :=
 (A.on e).push r fun a z=>⟨A.same.free z,fun q=>by obtain ⟨xs,h1,_⟩:=A.at_;rw [q,h1] at z;cases z⟩
end
theorem Acc.ty {K:PySem.W.Frag} {H0 H:Hp} {l:Addr} {ds:List Dat} (A:Acc K H0 l H ds):tyV K "list" (.ref l) H:=by
 obtain ⟨xs,h1,_⟩:=A.at_
 exact k_tyL h1
theorem Acc.sq{K:PySem.W.Frag}{H0 H:Hp}{l:Addr}{ds:List Dat}(A:Acc K H0 l H ds):∃xs,SqL K H l xs∧xs.length=ds.length∧RpL K (fun a=>H0 a=none∧a≠l) H xs ds:=by
 obtain ⟨xs,h1,h2⟩:=A.at_
 exact ⟨xs,SqL.of h1,h2.length,h2⟩
structure AccZ (K:PySem.W.Frag) (H0:Hp) (l:Addr) (H:Hp) (ds:List Dat):Prop where
 same:Same H0 H
 new:H0 l=none
 at_:∃xs,H l=some (.lst xs)∧RzL K H xs ds
section
variable{K:PySem.W.Frag}{H0 H H':Hp}{l m:Addr}{ds:List Dat}
theorem AccZ.start(e:Same H0 H)(n:H l=none):AccZ K H0 l (upd H l (.lst [])) []:=⟨e.trans (same_new n _),e.free n,[],upd_same,.nil⟩
theorem AccZ.on(A:AccZ K H0 l H ds)(e:Same H H'):AccZ K H0 l H' ds:=by
 obtain ⟨xs,h1,h2⟩:=A.at_
 exact ⟨A.same.trans e,A.new,xs,e _ _ h1,h2.same e⟩
theorem AccZ.ref(A:AccZ K H0 l H ds):Rp K (fun a=>H0 a=none) H (.ref l) (.list ds):=by
 obtain ⟨xs,h1,h2⟩:=A.at_
 exact .lst A.new h1 h2.z
theorem AccZ.rep(A:AccZ K H0 l H ds):Rep K H (.ref l) (.list ds):=A.ref.rep
theorem AccZ.ty (A:AccZ K H0 l H ds):tyV K "list" (.ref l) H:=by
 obtain ⟨xs,h1,_⟩:=A.at_
 exact k_tyL h1
theorem AccZ.sq(A:AccZ K H0 l H ds):∃xs,SqL K H l xs∧xs.length=ds.length∧RzL K H xs ds:=by
 obtain ⟨xs,h1,h2⟩:=A.at_
 exact ⟨xs,SqL.of h1,h2.length,h2⟩
theorem AccZ.upd_same(A:AccZ K H0 l H ds){o:HO}:Same H0 (L2.upd H l o):=fun b u q=>by
 rw [L2.upd_ne (ne_of_none q A.new)]
 exact A.same b u q
theorem AccZ.other(A:AccZ K H0 l H ds){ys:List V}{o:HO}(ne:l≠m)(n:H0 m=none)(h:H m=some (.lst ys)):AccZ K H0 l (upd H m o) ds:=by
 obtain ⟨xs,h1,h2⟩:=A.at_
 refine ⟨fun b u q=>?_,A.new,xs,by rw [upd_ne ne];exact h1,h2.upd h⟩
 rw [upd_ne (ne_of_none q n)]
 exact A.same b u q
end
theorem k_appZ{K:PySem.W.Frag}{H0 H:Hp}{l:Addr}{ds:List Dat}{Q:VK}(A:AccZ K H0 l H ds){y:V}{d:Dat}(r:Rz K H y d)(n:ds.length < sizeLine)
  (h:∀H2,AccZ K H0 l H2 (ds++[d])→(∀{v:V} {e:Dat},Rz K H v e→Rz K H2 v e)→(∀b,b≠l→H2 b=H b)→(∀{m:Addr} {es:List Dat},m≠l→AccZ K H0 m H es→AccZ K H0 m H2 es)→Q .non H2):rAppend (.ref l) [y] H Q:=by
 obtain ⟨xs,h1,h2⟩:=A.at_
 refine ⟨l,xs,y,rfl,rfl,h1,by rw [h2.length];exact n,h _ ⟨A.upd_same,A.new,xs++[y],upd_same,?_⟩ (fun q=>Rz.upd q h1) (fun b nb=>upd_ne nb) fun ne B=>B.other ne A.new h1⟩
 exact RzL.upd (h2.append (.cons r .nil)) h1
section
variable{K:PySem.W.Frag}{H:Hp}{Q:VK}{x y:V}{d e:Dat}{ds:List Dat}
open Classical in
theorem k_notInD(hd:Rep K H x d)(he:Rep K H y (.list ds))(ka:∀e∈ds,kqdOk 8 e=true)(kd:kqdOk 8 d=true)(h1:d∉ds→Q (.bl true) H)(h2:d∈ds→Q (.bl false) H):rInD K true x y H Q:=by
 refine ⟨d,ds,hd,he,ka,kd,?_⟩
 by_cases z:d∈ds
 ·have q:=h2 z
  simpa [z] using q
 ·have q:=h1 z
  simpa [z] using q
open Classical in
theorem k_neD(hd:Rep K H x d)(he:Rep K H y e)(kd:kqdOk 8 d=true)(ke:kqdOk 8 e=true)(h1:d≠e→Q (.bl true) H)(h2:d=e→Q (.bl false) H):rNeD K x y H Q:=by
 refine ⟨d,e,hd,he,kd,ke,?_⟩
 by_cases z:d=e
 ·have q:=h2 z
  rw [decide_eq_true z]
  exact q
 ·have q:=h1 z
  rw [decide_eq_false z]
  exact q
end
end L2
namespace L2
open PySem PySem.Spec PyProof.Rows
def hiN(n:Nat):Option Int→Nat
 | none=>n
 | some j=>min j.toNat n
def hiL(l:List Nat):Option Int→List Nat
 | none=>l
 | some j=>l.take j.toNat
theorem hiN_le(n:Nat)(hi:Option Int):hiN n hi≤n:=by
 cases hi with
 | none=>exact Nat.le_refl _
 | some j=>exact Nat.min_le_right _ _
def scut(z:Str)(lo hi:Option Int):Str:=⟨((hiL z.cps.toList hi).drop (lo.getD 0).toNat).toArray⟩
def NN:Option Int→Prop
 | none=>True
 | some i=>0≤i
theorem sidx{lo hi:Option Int}(n:Nat)(hl:NN lo)(hh:NN hi):Builtin.Str.strSliceIndices lo hi 1 n=(List.range (hiN n hi - min (lo.getD 0).toNat n)).map (fun k=>min (lo.getD 0).toNat n+k):=by
 have core:∀(a b:Nat),a≤n→b≤n→sliceRange (a:Int) (b:Int) 1=(List.range (b - a)).map (fun k=>a+k):=by
  intro a b ha hb
  simp only [sliceRange,show ((1:Int) > 0)=True from by simp,if_true]
  by_cases hlt:(a:Int) < b
  ·have e3:(((b:Int) - a+1 - 1) / 1).toNat=b - a:=by rw [Int.ediv_one];omega
   simp only [hlt,if_true,e3]
   refine List.map_congr_left fun k _=>?_
   omega
  ·have:b - a=0:=by omega
   simp [hlt,this]
 have clip:∀i:Int,0≤i→max (0:Int) (min (if i < 0 then i+n else i) n)=((min i.toNat n:Nat):Int):=by
  intro i hi
  rw [if_neg (by omega)]
  omega
 cases lo with
 | none =>
  cases hi with
  | none =>
   have:=core 0 n (by omega) (by omega)
   simpa [Builtin.Str.strSliceIndices,hiN] using this
  | some j =>
   have:=core 0 (min j.toNat n) (by omega) (by omega)
   simp only [Builtin.Str.strSliceIndices,show ((1:Int) > 0)=True from by simp,if_true]
   rw [clip j hh]
   simpa [hiN] using this
 | some i =>
  cases hi with
  | none =>
   have:=core (min i.toNat n) n (by omega) (by omega)
   simp only [Builtin.Str.strSliceIndices,show ((1:Int) > 0)=True from by simp,if_true]
   rw [clip i hl]
   simpa [hiN] using this
  | some j =>
   have:=core (min i.toNat n) (min j.toNat n) (by omega) (by omega)
   simp only [Builtin.Str.strSliceIndices,show ((1:Int) > 0)=True from by simp,if_true]
   rw [clip i hl,clip j hh]
   simpa [hiN] using this
theorem scut_txt(z:Str){lo hi:Option Int}(hl:NN lo)(hh:NN hi):Txt.slice z lo hi=scut z lo hi:=by
 have len:z.cps.toList.length=z.length:=by simp [Str.length]
 have e:=sidx z.length hl hh
 have p:=StrLaws.picks z.cps.toList (hiN z.length hi - min (lo.getD 0).toNat z.length) (min (lo.getD 0).toNat z.length) (by have:=hiN_le z.length hi;rw [len];omega)
 have q:(z.cps.toList.drop (min (lo.getD 0).toNat z.length)).take (hiN z.length hi - min (lo.getD 0).toNat z.length)=(hiL z.cps.toList hi).drop (lo.getD 0).toNat:=by
  generalize (lo.getD 0).toNat=a
  cases hi with
  | none =>
   show List.take (z.length - min a z.length) (List.drop (min a z.length) z.cps.toList)=List.drop a z.cps.toList
   by_cases ha:a≤z.length
   ·rw [Nat.min_eq_left ha,List.take_of_length_le (by rw [List.length_drop,len];exact Nat.le_refl _)]
   ·rw [Nat.min_eq_right (by omega),List.drop_of_length_le (by rw [len];exact Nat.le_refl _),List.drop_of_length_le (by rw [len];omega)]
    simp
  | some j =>
   show List.take (min j.toNat z.length - min a z.length) (List.drop (min a z.length) z.cps.toList)=List.drop a (z.cps.toList.take j.toNat)
   rw [List.drop_take]
   generalize j.toNat=b
   by_cases ha:a≤z.length
   ·rw [Nat.min_eq_left ha]
    by_cases hb:b≤z.length
    ·rw [Nat.min_eq_left hb]
    ·rw [Nat.min_eq_right (by omega),List.take_of_length_le (by rw [List.length_drop,len];exact Nat.le_refl _),List.take_of_length_le (by rw [List.length_drop,len];omega)]
   ·rw [Nat.min_eq_right (by omega:z.length≤a),List.drop_of_length_le (by rw [len];exact Nat.le_refl _),List.drop_of_length_le (by rw [len];omega)]
    simp
 have r:(Builtin.Str.strSliceIndices lo hi 1 z.length).filterMap (z.cps[·]?)=(hiL z.cps.toList hi).drop (lo.getD 0).toNat:=by
  rw [← q,← p,e]
  simp
 unfold Txt.slice scut
 split
 ·rename_i c
  have c':(Builtin.Str.strSliceIndices lo hi 1 z.length).length=z.length:=by simpa using c
  rw [e,List.length_map,List.length_range] at c'
  have w:(z.cps.toList.drop (min (lo.getD 0).toNat z.length)).take (hiN z.length hi - min (lo.getD 0).toNat z.length)=z.cps.toList:=by
   have b:=hiN_le z.length hi
   by_cases h0:z.length=0
   ·have:z.cps.toList=[]:=List.length_eq_zero_iff.mp (by rw [len];exact h0)
    rw [this];simp
   ·have a0:min (lo.getD 0).toNat z.length=0:=by omega
    rw [a0,List.drop_zero,List.take_of_length_le (by rw [len];omega)]
  rw [← q,w]
 ·rw [r]
def rSlS:V→Option Int→Option Int→Hp→VK→Prop:=fun x lo hi H Q=>∃z,x = .str z∧z.length≤sizeLine∧NN lo∧NN hi∧Q (.str (scut z lo hi)) H
def rFind:V→List V→Hp→VK→Prop:=fun x xs H Q=>∃z y,x = .str z∧xs=[.str y]∧Q (.int (Txt.find z y)) H
section
variable{X:Cx}
theorem sl_str:SlR X rSlS:=by
 intro pins s σ H x v vl vu lo hi sl Q I rx hs pl pu h
 obtain ⟨z,rfl,hz,hl,hh,q⟩:=h
 obtain ⟨t,rfl⟩:=rx
 refine ⟨"str",_,F.slot_str_getitem.lookup,typeIs_str _ _ _,?_⟩
 have fin:∀(l u:Option (Int×Tok)),l.map (·.1)=lo→u.map (·.1)=hi→(sliceMade z t l u none).post (EP X pins σ Q) s:=by
  intro l u el eu
  have e:sliceMade z t l u none=if ((1:Int) == 1 && (Builtin.Str.strSliceIndices lo hi 1 z.length).length == z.length)=true then Made.val (.str z t) else .str ⟨((Builtin.Str.strSliceIndices lo hi 1 z.length).filterMap (z.cps[·]?)).toArray⟩:=by
   unfold sliceMade slicePicked
   rw [el,eu]
   rfl
  rw [e]
  have lt:=Txt.slice_le z lo hi
  have eq:=scut_txt z hl hh
  unfold Txt.slice at lt eq
  refine post_val_or_str ⟨Nat.le_trans lt hz,fun t' k=>⟨.str (scut z lo hi),H,I.tok k,⟨t',?_⟩,q⟩⟩
  rw [eq]
 cases pl with
 | none =>
  cases pu with
  | none=>exact wpAny_getItem_str_slice (l:=none) (u:=none) (st:=none) hs rfl (fin none none rfl rfl)
  | int j tj=>exact wpAny_getItem_str_slice (l:=none) (u:=some (j,tj)) (st:=none) hs rfl (fin none (some (j,tj)) rfl rfl)
 | int i ti =>
  cases pu with
  | none=>exact wpAny_getItem_str_slice (l:=some (i,ti)) (u:=none) (st:=none) hs rfl (fin (some (i,ti)) none rfl rfl)
  | int j tj=>exact wpAny_getItem_str_slice (l:=some (i,ti)) (u:=some (j,tj)) (st:=none) hs rfl (fin (some (i,ti)) (some (j,tj)) rfl rfl)
theorem mt_find:MtR X "str.find" rFind:=by
 intro pins s σ H x xs v us Q I rx rv h
 obtain ⟨z,y,rfl,rfl,q⟩:=h
 obtain ⟨t,rfl⟩:=rx
 obtain ⟨u,rfl,t',rfl⟩:=vals1 rv
 exact SC.find ⟨.int _,H,I.tok _,⟨_,rfl⟩,q⟩
end
end L2
namespace L2
open PySem PySem.Spec PyProof.Rows
section
variable{prog:Program}{w:World}{A:Around}{E:Value→Shared→Prop}{s:Shared}{d it:Addr}{es:Array DictEntry}{ep i:Nat}
end
end L2
namespace L2
open PySem PySem.Spec PyProof.Rows
section
variable{X:Cx}{pins:List (Addr×Obj)}{σ : St}{H:Hp}{s:Shared}{h':Heap}
theorem Inv.turnedL{t':Nat}{fp:List Addr}(I:Inv X pins σ H s)(k:∀b o,b∉fp→s.heap.get? b=some o→h'.get? b=some o)(hf:∀b∈fp,FpOk X pins H b):Inv X pins σ H { s with heap:=h',toks:=t' }:=by
 have nit:∀b u,H b=some u→b∉fp:=fun b u e z=>by
  have q:=(hf b z).1
  rw [q] at e
  cases e
 refine I.step (g':=s.gens) (d':=s.drawn) (ch:=fp) (fun b hb=>⟨(hf b hb).2.2.2.1,(hf b hb).2.1,(hf b hb).2.2.2.2.1,(hf b hb).2.2.2.2.2⟩) (fun b o _ _ hc e _=>k b o hc e) (fun b o _ _ hc e _=>⟨o.slots,k b o hc e⟩) (fun _ _ _ _ n=>n)
  (fun b o hc e=>⟨o,k b o hc e⟩) (fun _ _ e=>e) (fun _ _ _ e=>e) (fun b ps e=>⟨#[],by rw [e,Array.append_empty]⟩) (fun m hm=>?_) (fun b u e=>?_) I.bare
 ·obtain ⟨o,es,ep,ho,r⟩:=hm
  exact ⟨o,es,ep,k _ o (fun z=>(hf _ z).2.1 rfl) ho,r⟩
 ·refine (I.hok b u e).stay (fun c v hc q=>k c v ?_ q) (fun _ q=>q) fun _ _ q=>q
  rcases hc with z | z
  ·rw [z];exact nit b u e
  ·exact nit c _ z
end
structure Drw (prog:Program) (w:World) (it l:Addr) (xs:Array Value) (St:Nat→Heap→Prop):Prop where
 keep:∀k h h',St k h→(∀b,b=it∨b=l→∀o,h.get? b=some o→h'.get? b=some o)→St k h'
 there:∀k h,St k h→it < h.objs.size∧∃o,h.get? it=some o∧∀v,o.data≠.cell v
 item:∀(A:Around) (E:Value→Shared→Prop) (s:Shared) (k:Nat) (x:Value) (Q:Value→Shared→Prop),St k s.heap→xs[k]? = some x→(∀h',St (k+1) h'→Heap.SameBut it s.heap h'→Q x { s with heap:=h' })→wpAny (model prog w) A (Builtin.SmallTypes.nextOf (.ref it)) Q E s
 fin:∀(A:Around) (E:Value→Shared→Prop) (s:Shared) (k:Nat) (Q:Value→Shared→Prop),A.handled=none→St k s.heap→xs[k]? = none →
  (∀h' e,Heap.ExtBut it s.heap h'→(∃o,h'.get? e=some o∧o.cls = .type "StopIteration")→E (.ref e) { s with heap:=h' })→wpAny (model prog w) A (Builtin.SmallTypes.nextOf (.ref it)) Q E s
section
variable{prog:Program}{w:World}{A:Around}{E:Value→Shared→Prop}{s:Shared}
theorem drw_list(it l:Addr)(ne:l≠it)(xs:Array Value):Drw prog w it l xs (fun k h=>h.IsListIter it l k∧h.IsList l xs) where
 keep:=fun k h h' st hk=>⟨st.1.at fun o e=>hk it (.inl rfl) o e,st.2.at fun o e=>hk l (.inr rfl) o e⟩
 there:=fun k h ⟨⟨o,e,_,d⟩,_⟩=>⟨Heap.lt_size e,o,e,fun v z=>by rw [d] at z;cases z⟩
 item:=fun A E s k x Q st hx q=>wpAny_nextOf_list_item st.1 st.2 hx fun h' a b=>q h' ⟨a,st.2.at fun o e=>b.extBut l o ne e⟩ b
 fin:=fun A E s k Q hh st hx q=>wpAny_nextOf_list_end hh st.1 st.2 hx q
theorem drw_tup(it l:Addr)(ne:l≠it)(xs:Array Value):Drw prog w it l xs (fun k h=>h.IsTupleIter it l k∧h.IsTuple l xs) where
 keep:=fun k h h' st hk=>⟨st.1.at fun o e=>hk it (.inl rfl) o e,by obtain ⟨o,e,r⟩:=st.2;exact ⟨o,hk l (.inr rfl) o e,r⟩⟩
 there:=fun k h ⟨⟨o,e,_,d⟩,_⟩=>⟨Heap.lt_size e,o,e,fun v z=>by rw [d] at z;cases z⟩
 item:=fun A E s k x Q st hx q=>by
  obtain ⟨o,ho,oc,od⟩:=id st.1
  obtain ⟨ol,hl,_,nl,dl⟩:=id st.2
  unfold Builtin.SmallTypes.nextOf
  refine wpAny_bind (wpAny_callSpecial?_slot (name:=Str.ofString "__next__") st.1.typeIs F.slot_tuple_iterator_next (wpAny_call_entry F.slot_tuple_iterator_next st.1.typeIs F.entry_tuple_iterator_next ?_ (F.args_tuple_iterator_next_1 _)))
  show wpAny _ _ (field (.ref it) 0 >>= _) _ _ s;refine wpAny_bind (wpAny_field ho od (x:=.ref l) rfl ?_);show wpAny _ _ (if (Value.ref l == Value.none)=true then _ else _) _ _ s
  rw [if_neg (show ¬ ((Value.ref l == Value.none)=true) from Bool.false_ne_true)];show wpAny _ _ (field (.ref it) 1 >>= _) _ _ s;refine wpAny_bind (wpAny_field ho od (x:=.int k 0) rfl ?_)
  show wpAny _ _ (seqItems? (.ref l) >>= _) _ _ s;refine wpAny_bind (wpAny_seqItems hl dl ?_);simp only [Int.toNat_natCast,hx]
  have k2:(s.heap.update it (Obj.mapFields (·.setIfInBounds 1 (rawInt ((k:Int)+1))))).IsTupleIter it l (k+1):=⟨_,Heap.get?_update_self _ ho (Obj.isFreed_of_fields (Obj.data_mapFields od _)),(Obj.cls_mapFields ..).trans oc,by rw [Obj.data_mapFields od];simp [rawInt]⟩
  exact wpAny_bind (wpAny_setField ho od (by simp) (wpAny_pure ⟨x,rfl,wpAny_pure (q _ ⟨k2,⟨ol,(Heap.SameBut.update ..).extBut l ol ne hl,by assumption,nl,dl⟩⟩ (Heap.SameBut.update ..))⟩))
 fin:=fun A E s k Q hh st hx q=>by
  obtain ⟨o,ho,oc,od⟩:=id st.1
  obtain ⟨ol,hl,_,nl,dl⟩:=id st.2
  unfold Builtin.SmallTypes.nextOf
  refine wpAny_bind (wpAny_callSpecial?_slot (name:=Str.ofString "__next__") st.1.typeIs F.slot_tuple_iterator_next (wpAny_call_entry F.slot_tuple_iterator_next st.1.typeIs F.entry_tuple_iterator_next ?_ (F.args_tuple_iterator_next_1 _)))
  show wpAny _ _ (field (.ref it) 0 >>= _) _ _ s;refine wpAny_bind (wpAny_field ho od (x:=.ref l) rfl ?_);show wpAny _ _ (if (Value.ref l == Value.none)=true then _ else _) _ _ s
  rw [if_neg (show ¬ ((Value.ref l == Value.none)=true) from Bool.false_ne_true)];show wpAny _ _ (field (.ref it) 1 >>= _) _ _ s;refine wpAny_bind (wpAny_field ho od (x:=.int k 0) rfl ?_)
  show wpAny _ _ (seqItems? (.ref l) >>= _) _ _ s;refine wpAny_bind (wpAny_seqItems hl dl ?_);simp only [Int.toNat_natCast,hx]
  refine wpAny_bind (wpAny_rule (wpAny_bind (wpAny_setField ho od (by simp) ?_)));show wpAny _ _ (newExc (.type "StopIteration") [] >>= _) _ _ _;refine wpAny_bind ?_;simp only [newExc,newTuple]
  refine wpAny_bind (wpAny_newObj_type ?_ (by size_fits));refine wpAny_bind (m:=firstArgMember _ _) (wpAny_of_eq (a:=Value.none) (by simp only [firstArgMember];rfl) ?_);refine wpAny_newObj_type ?_ (by size_fits);simp only [raiseNew]
  refine wpAny_bind (wpAny_handled ?_);rw [show A.in1.handled=none from hh]
  exact wpAny_bind (wpAny_pure (wpAny_throw (q _ _ (((Heap.SameBut.update ..).extBut.push _).push _) ⟨_,Heap.get?_push_size _ rfl,rfl⟩)))
end
end L2
namespace L2
open PySem PySem.Spec PyProof.Rows
structure ZAp (z TI TO i1 i2 l1 l2:Addr):Prop where
 a:i1 < i2
 b:i2 < TI
 c:TI < TO
 d:TO < z
 e:l1 < i1
 f:l2 < i1
theorem zap_nat{z TI TO i1 i2 l1 l2:Nat}(a:i1 < i2)(b:i2 < TI)(c:TI < TO)(d:TO < z)(e:l1 < i1)(f:l2 < i1) :
  i1≠z∧i2≠z∧TO≠i1∧TO≠i2∧TO≠z∧TI≠z∧TI≠TO∧TI≠i1∧TI≠i2∧i1≠i2∧l1≠z∧l1≠TO∧l1≠i2∧l2≠z∧l2≠TO∧l2≠i1:=by
 have iT:=Nat.lt_trans b c;have iz:=Nat.lt_trans iT d;have jI:=Nat.lt_trans a b;have jT:=Nat.lt_trans a iT;have jz:=Nat.lt_trans a iz;have tz:=Nat.lt_trans c d
 exact ⟨Nat.ne_of_lt jz,Nat.ne_of_lt iz,Nat.ne_of_gt jT,Nat.ne_of_gt iT,Nat.ne_of_lt d,Nat.ne_of_lt tz,Nat.ne_of_lt c,Nat.ne_of_gt jI,Nat.ne_of_gt b,Nat.ne_of_lt a,Nat.ne_of_lt (Nat.lt_trans e jz),Nat.ne_of_lt (Nat.lt_trans e jT),Nat.ne_of_lt (Nat.lt_trans e a),Nat.ne_of_lt (Nat.lt_trans f jz),Nat.ne_of_lt (Nat.lt_trans f jT),Nat.ne_of_lt f⟩
section
variable{prog:Program}{w:World}{A:Around}{E:Value→Shared→Prop}{s:Shared}{z TI TO i1 i2 l1 l2:Addr}{xs ys:Array Value}{S1 S2:Nat→Heap→Prop}{k:Nat}
structure ZAt (z TI TO i1 i2:Addr) (S1 S2:Nat→Heap→Prop) (k:Nat) (h:Heap):Prop where
 z:IsZip h z TI TO .none
 i:IsPair h TI (.ref i1) (.ref i2)
 o:∃a b,IsPair h TO a b
 s1:S1 k h
 s2:S2 k h
theorem up_pair {T:Addr} {a b x:Value} {j:Nat} {Q:Unit→Shared→Prop} (hT:IsPair s.heap T a b) (q:∀h',h'.get? T=some { cls:=.type "tuple",data:=.seq ((#[a,b]:Array Value).setIfInBounds j x) }→Heap.SameBut T s.heap h'→Q () { s with heap:=h' }) :
  wpAny (model prog w) A (updateSeq T (·.setIfInBounds j x)) Q E s:=wpAny_updateSeq_pair hT q
theorem z_next(D:ZAp z TI TO i1 i2 l1 l2)(W1:Drw prog w i1 l1 xs S1)(W2:Drw prog w i2 l2 ys S2)(st:ZAt z TI TO i1 i2 S1 S2 k s.heap){Q:Option Value→Shared→Prop} :
  (∀x y,xs[k]? = some x→ys[k]? = some y→(∀h',IsZip h' z TI TO (rawInt s.heap.objs.size)→IsPair h' TI (.ref i1) (.ref i2)→(∃a b,IsPair h' TO a b)→S1 (k+1) h'→S2 (k+1) h'→IsPair h' s.heap.objs.size x y →
   (∀c o,c∉[z,TI,TO,i1,i2]→s.heap.get? c=some o→h'.get? c=some o)→Q (some (.ref s.heap.objs.size)) { s with heap:=h' })→wpAny (model prog w) A (pyNext (.ref z)) Q E s) ∧
  (A.handled=none→(xs[k]? = none∨ys[k]? = none)→(∀h',(∀c o,c∉[z,TI,TO,i1,i2]→s.heap.get? c=some o→h'.get? c=some o)→Q none { s with heap:=h' })→wpAny (model prog w) A (pyNext (.ref z)) Q E s):=by
 obtain ⟨d1,d2,d3,d4,d5,d6⟩:=D
 obtain ⟨hz,hI,⟨a,b,hO⟩,t1,t2⟩:=st
 have ty:s.TypeIs (.ref z) "zip":=⟨_,hz,rfl⟩
 obtain ⟨n1,n2,nO1,nO2,nOz,nIz,nIO,nI1,nI2,n12,q1,q2,q3,q4,q5,q6⟩:=zap_nat d1 d2 d3 d4 d5 d6
 have m1:∀{c h h':_},c∈[z,TO,i2]→Heap.ExtBut c h h'→∀k,S1 k h→S1 k h':=fun {c h h'} hc x k t=>W1.keep k h h' t fun b hb o e=>x b o (by
  rcases hb with rfl | rfl <;> (simp only [List.mem_cons,List.not_mem_nil,or_false] at hc;rcases hc with rfl | rfl | rfl <;> first | assumption | (apply Ne.symm;assumption))) e
 have m2:∀{c h h':_},c∈[z,TO,i1]→Heap.ExtBut c h h'→∀k,S2 k h→S2 k h':=fun {c h h'} hc x k t=>W2.keep k h h' t fun b hb o e=>x b o (by
  rcases hb with rfl | rfl <;> (simp only [List.mem_cons,List.not_mem_nil,or_false] at hc;rcases hc with rfl | rfl | rfl <;> first | assumption | (apply Ne.symm;assumption))) e
 constructor
 ·intro x y hx hy q
  unfold pyNext;refine wpAny_bind (wpAny_attempt (wpAny_callSpecial?_slot (name:=Str.ofString "__next__") ty F.slot_zip_next (wpAny_call_entry F.slot_zip_next ty F.entry_zip_next ?_ (F.args_zip_next_1 _))))
  show wpAny _ _ (field (.ref z) 2 >>= _) _ _ _;refine wpAny_bind (wpAny_field hz rfl (x:=.bool false) rfl ?_);show wpAny _ _ (field (.ref z) 3 >>= _) _ _ _;refine wpAny_bind (wpAny_field hz rfl (x:=.ref TI) rfl (wpAny_bind (wpAny_seqItems hI rfl ?_)))
  show wpAny _ _ (Builtin.SmallTypes.ownedTupleIsFree (.ref z) >>= _) _ _ _;refine wpAny_bind ?_;unfold Builtin.SmallTypes.ownedTupleIsFree;refine wpAny_bind (wpAny_field hz rfl (x:=.none) rfl (wpAny_pure ?_));simp only [if_true]
  refine wpAny_bind (wpAny_rule (wpAny_bind (wpAny_field hz rfl (x:=.ref TO) rfl (wpAny_bind (wpAny_setField_rec hz (by simp) fun h1 hz1 hs1=>?_)))));replace hz1:IsZip h1 z TI TO .ellipsis:=hz1
  refine wpAny_bind ?_;simp only [List.zipIdx_cons,List.zipIdx_nil,List.forIn_cons,List.forIn_nil];refine wpAny_bind (wpAny_bind (wpAny_onRaise ?_));show wpAny _ _ (Builtin.SmallTypes.nextOf (.ref i1) >>= _) _ _ _
  refine wpAny_bind (W1.item _ _ _ k x _ (m1 (by simp) hs1.extBut k t1) hx fun h2 t12 hs2=>wpAny_pure ?_)
  have hO2:IsPair h2 TO a b:=hs2.extBut _ _ nO1 (hs1.extBut _ _ nOz hO)
  refine wpAny_bind (wpAny_seqItems hO2 rfl (wpAny_bind (up_pair hO2 fun h3 hO3 hs3=>?_)));replace hO3:IsPair h3 TO x b:=hO3;refine wpAny_bind (wpAny_letGo (wpAny_pure (wpAny_bind (wpAny_bind (wpAny_onRaise ?_)))))
  show wpAny _ _ (Builtin.SmallTypes.nextOf (.ref i2) >>= _) _ _ _
  refine wpAny_bind (W2.item _ _ _ k y _ (m2 (by simp) hs3.extBut k (m2 (by simp) hs2.extBut k (m2 (by simp) hs1.extBut k t2))) hy fun h4 t24 hs4=>wpAny_pure ?_)
  have hO4:IsPair h4 TO x b:=hs4.extBut _ _ nO2 hO3
  refine wpAny_bind (wpAny_seqItems hO4 rfl (wpAny_bind (up_pair hO4 fun h5 hO5 hs5=>?_)));replace hO5:IsPair h5 TO x y:=hO5;refine wpAny_bind (wpAny_letGo (wpAny_pure (wpAny_pure (wpAny_bind (wpAny_seqItems hO5 rfl (wpAny_bind (wpAny_newTuple ?_)))))))
  have sz:h5.objs.size=s.heap.objs.size:=by rw [hs5.1,hs4.1,hs3.1,hs2.1,hs1.1]
  have hz5:IsZip h5 z TI TO .ellipsis:=hs5.extBut _ _ nOz.symm (hs4.extBut _ _ n2.symm (hs3.extBut _ _ nOz.symm (hs2.extBut _ _ n1.symm hz1)))
  have all5:∀c o,c∉[z,TI,TO,i1,i2]→s.heap.get? c=some o→h5.get? c=some o:=fun c o hc e=>by
   simp only [List.mem_cons,List.not_mem_nil,or_false,not_or] at hc
   exact hs5.extBut _ _ hc.2.2.1 (hs4.extBut _ _ hc.2.2.2.2 (hs3.extBut _ _ hc.2.2.1 (hs2.extBut _ _ hc.2.2.2.1 (hs1.extBut _ _ hc.1 e))))
  have hI5:IsPair h5 TI (.ref i1) (.ref i2):=hs5.extBut _ _ nIO (hs4.extBut _ _ nI2 (hs3.extBut _ _ nIO (hs2.extBut _ _ nI1 (hs1.extBut _ _ nIz hI))))
  have zlt:z < h5.objs.size:=Heap.lt_size hz5
  show wpAny _ _ (Builtin.SmallTypes.ownedTupleHandOut (.ref z) (.ref h5.objs.size) >>= _) _ _ _;refine wpAny_bind ?_;unfold Builtin.SmallTypes.ownedTupleHandOut
  have hz6:IsZip (h5.push { cls:=.type "tuple",data:=.seq #[x,y] }) z TI TO .ellipsis:=Heap.get?_push_of_some _ hz5
  refine wpAny_bind (wpAny_setField_rec hz6 (by simp) fun h7 hz7 hs7=>?_);replace hz7:IsZip h7 z TI TO (rawInt h5.objs.size):=hz7;refine wpAny_setField_rec hz7 (by simp) fun h8 hz8 hs8=>?_;replace hz8:IsZip h8 z TI TO (rawInt h5.objs.size):=hz8
  have up:∀c o,c≠z→h5.get? c=some o→h8.get? c=some o:=fun c o c1 e=>hs8.extBut _ _ c1 (hs7.extBut _ _ c1 (Heap.get?_push_of_some _ e))
  have hT:IsPair h8 h5.objs.size x y:=hs8.extBut _ _ (Nat.ne_of_gt zlt) (hs7.extBut _ _ (Nat.ne_of_gt zlt) (Heap.get?_push_size _ rfl))
  have t1':S1 (k+1) h8:=W1.keep _ _ _ (m1 (by simp) hs5.extBut _ (m1 (by simp) hs4.extBut _ (m1 (by simp) hs3.extBut _ t12))) fun c hc o e=>up c o (by rcases hc with rfl | rfl <;> first | assumption | (apply Ne.symm;assumption)) e
  have t2':S2 (k+1) h8:=W2.keep _ _ _ (m2 (by simp) hs5.extBut _ t24) fun c hc o e=>up c o (by rcases hc with rfl | rfl <;> first | assumption | (apply Ne.symm;assumption)) e
  rw [sz] at hz8 hT
  refine wpAny_pure ⟨_,rfl,?_⟩;show wpAny _ _ (pure (some (Value.ref h5.objs.size))) _ _ _;rw [sz]
  exact wpAny_pure (q h8 hz8 (up _ _ nIz hI5) ⟨_,_,up _ _ nOz hO5⟩ t1' t2' hT fun c o hc e=>up c o (fun x=>hc (by simp [x])) (all5 c o hc e))
 ·intro hh hend q
  have stop:∀(h9:Heap) (e:Addr),(∀c o,c∉[z,TI,TO,i1,i2]→s.heap.get? c=some o→h9.get? c=some o)→(∃o,h9.get? e=some o∧o.cls = .type "StopIteration") →
    wpAny (model prog w) A (isInstance (.ref e) (.type "StopIteration") >>= fun b=>if b=true then pure none else throw (.ref e)) Q E { s with heap:=h9 }:=fun h9 e kp ⟨o,ho,oc⟩ =>
   wpAny_bind (wpAny_isInstance (T:="StopIteration") (b:=true) ⟨o,ho,oc⟩ isSubtype_stop (wpAny_pure (q _ kp)))
  unfold pyNext;refine wpAny_bind (wpAny_attempt (wpAny_callSpecial?_slot (name:=Str.ofString "__next__") ty F.slot_zip_next (wpAny_call_entry F.slot_zip_next ty F.entry_zip_next ?_ (F.args_zip_next_1 _))))
  show wpAny _ _ (field (.ref z) 2 >>= _) _ _ _;refine wpAny_bind (wpAny_field hz rfl (x:=.bool false) rfl ?_);show wpAny _ _ (field (.ref z) 3 >>= _) _ _ _;refine wpAny_bind (wpAny_field hz rfl (x:=.ref TI) rfl (wpAny_bind (wpAny_seqItems hI rfl ?_)))
  show wpAny _ _ (Builtin.SmallTypes.ownedTupleIsFree (.ref z) >>= _) _ _ _;refine wpAny_bind ?_;unfold Builtin.SmallTypes.ownedTupleIsFree;refine wpAny_bind (wpAny_field hz rfl (x:=.none) rfl (wpAny_pure ?_));simp only [if_true]
  refine wpAny_bind (wpAny_rule (wpAny_bind (wpAny_field hz rfl (x:=.ref TO) rfl (wpAny_bind (wpAny_setField_rec hz (by simp) fun h1 hz1 hs1=>?_)))));replace hz1:IsZip h1 z TI TO .ellipsis:=hz1
  refine wpAny_bind ?_;simp only [List.zipIdx_cons,List.zipIdx_nil,List.forIn_cons,List.forIn_nil];refine wpAny_bind (wpAny_bind (wpAny_onRaise ?_));show wpAny _ _ (Builtin.SmallTypes.nextOf (.ref i1) >>= _) _ _ _
  cases hx:xs[k]? with
  | none =>
   refine wpAny_bind (W1.fin _ _ _ k _ hh (m1 (by simp) hs1.extBut k t1) hx fun h2 e hs2 ⟨oe,hoe,hce⟩=>?_)
   have hz2:IsZip h2 z TI TO .ellipsis:=hs2 _ _ n1.symm hz1
   have ez:e≠z:=fun x=>by subst x;rw [hz2] at hoe;cases hoe;simp at hce
   refine wpAny_setField_rec hz2 (by simp) fun h3 _ hs3=>stop h3 e (fun c o hc u=>?_) ⟨oe,hs3.extBut _ _ ez hoe,hce⟩
   simp only [List.mem_cons,List.not_mem_nil,or_false,not_or] at hc
   exact hs3.extBut _ _ hc.1 (hs2 _ _ hc.2.2.2.1 (hs1.extBut _ _ hc.1 u))
  | some x =>
   have hy:ys[k]? = none:=by rcases hend with u | u;rw [hx] at u;cases u;exact u
   refine wpAny_bind (W1.item _ _ _ k x _ (m1 (by simp) hs1.extBut k t1) hx fun h2 t12 hs2=>wpAny_pure ?_)
   have hO2:IsPair h2 TO a b:=hs2.extBut _ _ nO1 (hs1.extBut _ _ nOz hO)
   refine wpAny_bind (wpAny_seqItems hO2 rfl (wpAny_bind (up_pair hO2 fun h3 hO3 hs3=>?_)));refine wpAny_bind (wpAny_letGo (wpAny_pure (wpAny_bind (wpAny_bind (wpAny_onRaise ?_)))));show wpAny _ _ (Builtin.SmallTypes.nextOf (.ref i2) >>= _) _ _ _
   refine wpAny_bind (W2.fin _ _ _ k _ hh (m2 (by simp) hs3.extBut k (m2 (by simp) hs2.extBut k (m2 (by simp) hs1.extBut k t2))) hy fun h4 e hs4 ⟨oe,hoe,hce⟩=>?_)
   have hz4:IsZip h4 z TI TO .ellipsis:=hs4 _ _ n2.symm (hs3.extBut _ _ nOz.symm (hs2.extBut _ _ n1.symm hz1))
   have ez:e≠z:=fun x=>by subst x;rw [hz4] at hoe;cases hoe;simp at hce
   refine wpAny_setField_rec hz4 (by simp) fun h5 _ hs5=>stop h5 e (fun c o hc u=>?_) ⟨oe,hs5.extBut _ _ ez hoe,hce⟩
   simp only [List.mem_cons,List.not_mem_nil,or_false,not_or] at hc
   exact hs5.extBut _ _ hc.1 (hs4 _ _ hc.2.2.2.2 (hs3.extBut _ _ hc.2.2.1 (hs2.extBut _ _ hc.2.2.2.1 (hs1.extBut _ _ hc.1 u))))
end
end L2
namespace L2
open PySem PySem.Spec PyProof.Rows
inductive Kn | L | T
def Kn.sq(k:Kn)(K:PySem.W.Frag)(H:Hp)(a:Addr)(xs:List V):Prop:=match k with
 | .L=>SqL K H a xs
 | .T=>SqT K H a xs
def Kn.it(k:Kn)(h:Heap)(i l:Addr)(j:Nat):Prop:=match k with
 | .L=>h.IsListIter i l j
 | .T=>h.IsTupleIter i l j
def Kn.seq(k:Kn)(h:Heap)(l:Addr)(xs:Array Value):Prop:=match k with
 | .L=>h.IsList l xs
 | .T=>h.IsTuple l xs
def Kn.obj(k:Kn)(l:Addr):Obj:=match k with
 | .L=>{ cls:=.type "list_iterator",data:=.fields #[.ref l,.int 0 0] }
 | .T=>{ cls:=.type "tuple_iterator",data:=.fields #[.ref l,.int 0 0] }
section
variable{prog:Program}{w:World}{A:Around}{E:Value→Shared→Prop}{s:Shared}
theorem Kn.drw(k:Kn)(it l:Addr)(ne:l≠it)(xs:Array Value):Drw prog w it l xs (fun j h=>k.it h it l j∧k.seq h l xs):=by
 cases k
 ·exact drw_list it l ne xs
 ·exact drw_tup it l ne xs
theorem Kn.itAt(k:Kn){h h':Heap}{it l:Addr}{j:Nat}(t:k.it h it l j)(e:∀o,h.get? it=some o→h'.get? it=some o):k.it h' it l j:=by
 cases k
 ·exact Heap.IsListIter.at t e
 ·exact Heap.IsTupleIter.at t e
theorem Kn.itObj(k:Kn){h:Heap}{it l:Addr}{j:Nat}(t:k.it h it l j):∃o,h.get? it=some o∧∀v,o.data≠.cell v:=by
 cases k <;> (obtain ⟨o,e,_,d⟩:=t;exact ⟨o,e,fun v z=>by rw [d] at z;cases z⟩)
theorem Kn.seqAt(k:Kn){h h':Heap}{l:Addr}{xs:Array Value}(t:k.seq h l xs)(e:∀o,h.get? l=some o→h'.get? l=some o):k.seq h' l xs:=by
 cases k
 ·exact Heap.IsList.at t e
 ·obtain ⟨o,a,b⟩:=t
  exact ⟨o,e o a,b⟩
theorem Kn.lt(k:Kn){h:Heap}{l:Addr}{xs:Array Value}(t:k.seq h l xs):l < h.objs.size:=by
 cases k <;> (obtain ⟨o,a,_⟩:=t;exact Heap.lt_size a)
theorem Kn.inv{X:Cx}{pins:List (Addr×Obj)}{σ : St}{H:Hp}{s:Shared}(k:Kn)(I:Inv X pins σ H s){a:Addr}{xs:List V}(q:k.sq X.K H a xs):∃its:List Value,Vals xs its∧k.seq s.heap a its.toArray:=by
 cases k
 ·obtain ⟨its,r,p,_⟩:=I.list q
  exact ⟨its,r,p.isList⟩
 ·obtain ⟨its,r,p,_⟩:=I.tuple q
  exact ⟨its,r,p⟩
theorem Kn.inj{X:Cx}{pins:List (Addr×Obj)}{σ : St}{H:Hp}{s:Shared}(k:Kn)(I:Inv X pins σ H s){a:Addr}{xs ys:List V}(q:k.sq X.K H a xs)(r:k.sq X.K H a ys):xs=ys:=by
 cases k
 ·exact I.list_inj q r
 ·exact I.tuple_inj q r
theorem Kn.iter(k:Kn){l:Addr}{xs:Array Value}{Q:Value→Shared→Prop}(t:k.seq s.heap l xs)(q:Q (.ref s.heap.objs.size) { s with heap:=s.heap.push (k.obj l) }):wpAny (model prog w) A (pyIter (.ref l)) Q E s:=by
 cases k
 ·exact wpAny_pyIter_list t q
 ·exact wpAny_pyIter_tuple t q
theorem Kn.it0(k:Kn)(h:Heap)(l:Addr):k.it (h.push (k.obj l)) h.objs.size l 0:=by
 cases k <;> exact ⟨_,Heap.get?_push_size _ rfl,rfl,rfl⟩
def zh (h:Heap) (k1 k2:Kn) (l1 l2:Addr):Heap:=(((((h.push (k1.obj l1)).push (k2.obj l2)).push { cls:=.type "tuple",data:=.seq #[.ref h.objs.size,.ref (h.push (k1.obj l1)).objs.size] }).push { cls:=.type "tuple",data:=.seq #[.none,.none] }).push
 { cls:=.type "zip",data:=.fields #[.none,.bool false,.bool false,.ref ((h.push (k1.obj l1)).push (k2.obj l2)).objs.size,.ref (((h.push (k1.obj l1)).push (k2.obj l2)).push { cls:=.type "tuple",data:=.seq #[.ref h.objs.size,.ref (h.push (k1.obj l1)).objs.size] }).objs.size] })
theorem z_meets (k1 k2:Kn) (l1 l2:Addr) (xs ys:Array Value):Meets (Builtin.«zip.__new__» ⟨[.type "zip",.ref l1,.ref l2],[]⟩) (fun _ R s=>k1.seq s.heap l1 xs∧k2.seq s.heap l2 ys ∧
  R (.ok (.ret (.ref ((((s.heap.push (k1.obj l1)).push (k2.obj l2)).push { cls:=.type "tuple",data:=.seq #[.ref s.heap.objs.size,.ref (s.heap.push (k1.obj l1)).objs.size] }).push { cls:=.type "tuple",data:=.seq #[.none,.none] }).objs.size))) { s with heap:=zh s.heap k1 k2 l1 l2 }) :=
 .of_wp fun prog w A R s h=>by
  obtain ⟨hp,g,d,tk,os⟩:=s
  obtain ⟨a1,a2,h⟩:=h
  have hsub:=sub_zip
  have b2:k2.seq (hp.push (k1.obj l1)) l2 ys:=k2.seqAt a2 fun o e=>Heap.get?_push_of_some _ e
  cases k1 with
  | L =>
   have c1:Heap.IsList (Shared.heap ⟨hp,g,d,tk,os⟩) l1 xs:=a1
   cases k2 with
   | L =>
    have c2:Heap.IsList (Shared.heap ⟨hp.push { cls:=.type "list_iterator",data:=.fields #[.ref l1,.int 0 0] },g,d,tk,os⟩) l2 ys:=b2
    wp_walk using wpAny_pyIter_list c1,wpAny_pyIter_list c2
    exact ⟨_,rfl,h⟩
   | T =>
    have c2:Heap.IsTuple (Shared.heap ⟨hp.push { cls:=.type "list_iterator",data:=.fields #[.ref l1,.int 0 0] },g,d,tk,os⟩) l2 ys:=b2
    wp_walk using wpAny_pyIter_list c1,wpAny_pyIter_tuple c2
    exact ⟨_,rfl,h⟩
  | T =>
   have c1:Heap.IsTuple (Shared.heap ⟨hp,g,d,tk,os⟩) l1 xs:=a1
   cases k2 with
   | L =>
    have c2:Heap.IsList (Shared.heap ⟨hp.push { cls:=.type "tuple_iterator",data:=.fields #[.ref l1,.int 0 0] },g,d,tk,os⟩) l2 ys:=b2
    wp_walk using wpAny_pyIter_tuple c1,wpAny_pyIter_list c2
    exact ⟨_,rfl,h⟩
   | T =>
    have c2:Heap.IsTuple (Shared.heap ⟨hp.push { cls:=.type "tuple_iterator",data:=.fields #[.ref l1,.int 0 0] },g,d,tk,os⟩) l2 ys:=b2
    wp_walk using wpAny_pyIter_tuple c1,wpAny_pyIter_tuple c2
    exact ⟨_,rfl,h⟩
theorem z_call{k1 k2:Kn}{l1 l2:Addr}{xs ys:Array Value}{Q:Value→Shared→Prop}(a1:k1.seq s.heap l1 xs)(a2:k2.seq s.heap l2 ys)
  (q:∀h' (z TI TO i1 i2:Addr),ZAp z TI TO i1 i2 l1 l2→s.heap.objs.size≤i1→IsZip h' z TI TO .none→IsPair h' TI (.ref i1) (.ref i2)→(∃a b,IsPair h' TO a b)→k1.it h' i1 l1 0→k2.it h' i2 l2 0→(∀c o,s.heap.get? c=some o→h'.get? c=some o)→Q (.ref z) { s with heap:=h' }) :
  wpAny (model prog w) A (call (.type "zip") [.ref l1,.ref l2]) Q E s:=by
 refine callType_new F.called_zip (by decide) (F.typeCall_zip_2 _ _) (F.newCall_zip_2 _ _) (fun obj=>F.args_object_init_3 obj _ _) F.entry_zip_new (z_meets k1 k2 l1 l2 xs ys) ⟨a1,a2,?_⟩
 have lt1:=k1.lt a1
 have lt2:=k2.lt a2
 have g5:(zh s.heap k1 k2 l1 l2).get? _=some _:=Heap.get?_push_size ((((s.heap.push (k1.obj l1)).push (k2.obj l2)).push { cls:=.type "tuple",data:=.seq #[.ref s.heap.objs.size,.ref (s.heap.push (k1.obj l1)).objs.size] }).push { cls:=.type "tuple",data:=.seq #[.none,.none] }) (o:={ cls:=.type "zip",data:=.fields #[.none,.bool false,.bool false,.ref ((s.heap.push (k1.obj l1)).push (k2.obj l2)).objs.size,.ref (((s.heap.push (k1.obj l1)).push (k2.obj l2)).push { cls:=.type "tuple",data:=.seq #[.ref s.heap.objs.size,.ref (s.heap.push (k1.obj l1)).objs.size] }).objs.size] }) rfl
 have g4:(zh s.heap k1 k2 l1 l2).get? _=some _:=Heap.get?_push_of_some _ (Heap.get?_push_size (((s.heap.push (k1.obj l1)).push (k2.obj l2)).push { cls:=.type "tuple",data:=.seq #[.ref s.heap.objs.size,.ref (s.heap.push (k1.obj l1)).objs.size] }) (o:={ cls:=.type "tuple",data:=.seq #[.none,.none] }) rfl)
 have g3:(zh s.heap k1 k2 l1 l2).get? _=some _:=Heap.get?_push_of_some _ (Heap.get?_push_of_some _ (Heap.get?_push_size ((s.heap.push (k1.obj l1)).push (k2.obj l2)) (o:={ cls:=.type "tuple",data:=.seq #[.ref s.heap.objs.size,.ref (s.heap.push (k1.obj l1)).objs.size] }) rfl))
 have g2:k2.it (zh s.heap k1 k2 l1 l2) (s.heap.push (k1.obj l1)).objs.size l2 0:=k2.itAt (k2.it0 _ l2) fun o e=>Heap.get?_push_of_some _ (Heap.get?_push_of_some _ (Heap.get?_push_of_some _ e))
 have g1:k1.it (zh s.heap k1 k2 l1 l2) s.heap.objs.size l1 0:=k1.itAt (k1.it0 _ l1) fun o e=>Heap.get?_push_of_some _ (Heap.get?_push_of_some _ (Heap.get?_push_of_some _ (Heap.get?_push_of_some _ e)))
 show _∧_
 refine ⟨⟨_,g5,rfl⟩,q _ _ _ _ _ _ ⟨?_,?_,?_,?_,lt1,lt2⟩ (Nat.le_refl _) g5 g3 ⟨_,_,g4⟩ g1 g2 fun c o x=>Heap.get?_push_of_some _ (Heap.get?_push_of_some _ (Heap.get?_push_of_some _ (Heap.get?_push_of_some _ (Heap.get?_push_of_some _ x))))⟩ <;>
 ·simp only [Heap.size_push];exact Nat.lt_succ_self _
end
def Itz(K:PySem.W.Frag)(k1 k2:Kn)(a b:Addr):It :=
 ⟨fun i H=>∃xs ys,k1.sq K H a xs∧k2.sq K H b ys∧i < xs.length∧i < ys.length,fun i H v H'=>∃T x y,H T=none∧v = .ref T∧H'=upd H T (.tup [x,y])∧(∀xs,k1.sq K H a xs→xs[i]? = some x)∧(∀ys,k2.sq K H b ys→ys[i]? = some y),
  fun i H=>∃xs ys,k1.sq K H a xs∧k2.sq K H b ys∧(xs.length≤i∨ys.length≤i)⟩
theorem turn_zip{P:Program}{w:World}{K:PySem.W.Frag}{elts:List Expr}{x1}{pos:Pos}{k1 k2:Kn}{a b z TI TO i1 i2:Addr}(D:ZAp z TI TO i1 i2 a b) :
  Turn P w K (.Tuple elts x1 pos) (Itz K k1 k2 a b) [z,TI,TO,i1,i2] z (fun i h=>IsZip h z TI TO .none∧IsPair h TI (.ref i1) (.ref i2)∧(∃x y,IsPair h TO x y)∧k1.it h i1 a i∧k2.it h i2 b i) where
 mem:=by simp
 obj:=fun i h ⟨hz,hI,⟨x,y,hO⟩,t1,t2⟩ c hc=>by
  simp only [List.mem_cons,List.not_mem_nil,or_false] at hc
  rcases hc with rfl | rfl | rfl | rfl | rfl
  ·exact ⟨_,hz,fun v q=>by cases (show Data.fields _=Data.cell v from q)⟩
  ·exact ⟨_,hI,fun v q=>by cases (show Data.seq _ _=Data.cell v from q)⟩
  ·exact ⟨_,hO,fun v q=>by cases (show Data.seq _ _=Data.cell v from q)⟩
  ·exact k1.itObj t1
  ·exact k2.itObj t2
 keep:=fun i h h' ⟨hz,hI,⟨x,y,hO⟩,t1,t2⟩ kp=>⟨kp z (by simp) _ hz,kp TI (by simp) _ hI,⟨x,y,kp TO (by simp) _ hO⟩,k1.itAt t1 fun o e=>kp i1 (by simp) o e,k2.itAt t2 fun o e=>kp i2 (by simp) o e⟩
 item:=by
  intro X hP hw hK hc i pins s σ H E I hf ⟨hz,hI,hO,t1,t2⟩ hg
  subst hP hw hK
  obtain ⟨xs,ys,q1,q2,l1,l2⟩:=hg
  obtain ⟨v1,r1,p1⟩:=k1.inv I q1
  obtain ⟨v2,r2,p2⟩:=k2.inv I q2
  obtain ⟨u1,e1,ru1⟩:=r1.get (List.getElem?_eq_getElem l1)
  obtain ⟨u2,e2,ru2⟩:=r2.get (List.getElem?_eq_getElem l2)
  obtain ⟨n1,n2,nO1,nO2,nOz,nIz,nIO,nI1,nI2,n12,c1,c2,c3,c4,c5,c6⟩:=zap_nat D.a D.b D.c D.d D.e D.f
  refine (z_next D (k1.drw i1 a (Nat.ne_of_lt D.e) v1.toArray) (k2.drw i2 b (Nat.ne_of_lt (Nat.lt_trans D.f D.a)) v2.toArray) ⟨hz,hI,hO,⟨t1,p1⟩,⟨t2,p2⟩⟩).1 u1 u2 (by simpa using e1) (by simpa using e2) fun h' hz' hI' hO' s1' s2' hT all=>⟨_,rfl,?_⟩
  refine wpAny_letOwnedTupleGo_zip hz' fun h2 hz2 sb=>?_
  have nT:∀c∈[z,TI,TO,i1,i2],c≠s.heap.objs.size:=fun c hc'=>by
   simp only [List.mem_cons,List.not_mem_nil,or_false] at hc'
   rcases hc' with rfl | rfl | rfl | rfl | rfl
   ·exact Nat.ne_of_lt (Heap.lt_size hz)
   ·exact Nat.ne_of_lt (Heap.lt_size hI)
   ·obtain ⟨_,_,q⟩:=hO;exact Nat.ne_of_lt (Heap.lt_size q)
   ·obtain ⟨_,q,_⟩:=k1.itObj t1;exact Nat.ne_of_lt (Heap.lt_size q)
   ·obtain ⟨_,q,_⟩:=k2.itObj t2;exact Nat.ne_of_lt (Heap.lt_size q)
  have hfr:H s.heap.objs.size=none:=I.hok.fresh (Nat.le_refl _)
  have I1:Inv X pins σ (upd H s.heap.objs.size (.tup [xs[i],ys[i]])) { s with heap:=s.heap.push { cls:=.type "tuple",data:=.seq #[u1,u2] } } :=
   I.laid (t':=s.toks) (fun b u e=>Heap.get?_push_of_some _ e) (Nat.le_refl _) ⟨by show 2≤sizeLine;decide,[u1,u2],.cons ru1 (.cons ru2 .nil),⟨_,Heap.get?_push_size _ rfl,rfl,_,rfl⟩⟩
  have zT:s.heap.objs.size≠z:=(nT z (by simp)).symm
  have I2:Inv X pins σ (upd H s.heap.objs.size (.tup [xs[i],ys[i]])) { s with heap:=h2 }:=Inv.turnedL (s:={ s with heap:=s.heap.push { cls:=.type "tuple",data:=.seq #[u1,u2] } }) (t':=s.toks) (fp:=[z,TI,TO,i1,i2]) I1 (fun c o hc' e=>by
   have hcz:c≠z:=fun x=>hc' (by simp [x])
   rcases Heap.get?_push_cases e with ⟨ec,eo⟩ | e
   ·rw [ec,eo];exact sb.extBut _ _ zT hT
   ·exact sb.extBut _ _ hcz (all c o hc' e)) fun c hc'=>⟨by rw [upd_ne (nT c hc')];exact (hf c hc').1,(hf c hc').2⟩
  refine ⟨.ref s.heap.objs.size,_,I2,rfl,⟨s.heap.objs.size,xs[i],ys[i],hfr,rfl,rfl,fun zs hz=>?_,fun zs hz=>?_⟩,⟨hz2,sb.extBut _ _ nIz hI',?_,k1.itAt s1'.1 fun o e=>sb.extBut _ _ n1 e,k2.itAt s2'.1 fun o e=>sb.extBut _ _ n2 e⟩,fun c hc'=>by rw [upd_ne (nT c hc')];exact (hf c hc').1⟩
  ·rw [k1.inj I hz q1,List.getElem?_eq_getElem l1]
  ·rw [k2.inj I hz q2,List.getElem?_eq_getElem l2]
  ·obtain ⟨x,y,q⟩:=hO'
   exact ⟨x,y,sb.extBut _ _ nOz q⟩
 done:=by
  intro X hP hw hK hc i pins s σ H E I hf ⟨hz,hI,hO,t1,t2⟩ hg
  subst hP hw hK
  obtain ⟨xs,ys,q1,q2,le⟩:=hg
  obtain ⟨v1,r1,p1⟩:=k1.inv I q1
  obtain ⟨v2,r2,p2⟩:=k2.inv I q2
  have e1:=r1.length
  have e2:=r2.length
  refine (z_next D (k1.drw i1 a (Nat.ne_of_lt D.e) v1.toArray) (k2.drw i2 b (Nat.ne_of_lt (Nat.lt_trans D.f D.a)) v2.toArray) ⟨hz,hI,hO,⟨t1,p1⟩,⟨t2,p2⟩⟩).2 (I.ok.hd hc) (by
   rcases le with q | q
   ·exact .inl (by simp;omega)
   ·exact .inr (by simp;omega)) fun h' all=>⟨rfl,I.turnedL (t':=s.toks) (fun c o hc' e=>all c o hc' e) hf⟩
 self:=fun _ _ _ _ _ st q=>wpAny_pyIter_zip st.1 q
section
variable{X:Cx}
def iZip(K:PySem.W.Frag)(k1 k2:Kn)(ta:TA):TI:=fun σ H R=>ta σ H fun vs H1=>∃a b xs ys,vs=[.ref a,.ref b]∧k1.sq K H1 a xs∧k2.sq K H1 b ys∧R (Itz K k1 k2 a b) H1
theorem bb_zip:bootBuiltins "zip" = some (.type "zip"):=by decide +kernel
theorem pi_zip {k1 k2:Kn} {x y:Expr} {ta:TA} {elts:List Expr} {x1} {p pos tp:Pos} (hg:Gl X "zip") (hm:X.mg "zip" = none) (ha:PA X [x,y] ta) (hs:starEach [x,y] X.env=[(false,eval x X.env),(false,eval y X.env)]:=by rfl) (hs2:starEach [y] X.env=[(false,eval y X.env)]:=by rfl) :
  PI X (.Tuple elts x1 tp) (.Call (.Name "zip" p) [x,y] [] pos) (iZip X.K k1 k2 ta):=by
 intro pins s σ H R I h
 refine Call_ (ld_blt I hg hm bb_zip (PyProof.Rows.callWith_type1 (thn (ha pos pins s σ H _ I h) fun us s1 ⟨vs,H1,I1,r1,q1⟩=>?_) (by rw [hs,hs2]) (by rw [hs2];rfl)))
 obtain ⟨a,b,xs,ys,e,s1q,s2q,q⟩:=q1
 subst e
 obtain ⟨u1,u2,rfl,ra,rb⟩:=vals2 r1
 cases ra
 cases rb
 obtain ⟨v1,w1,p1⟩:=k1.inv I1 s1q
 obtain ⟨v2,w2,p2⟩:=k2.inv I1 s2q
 refine z_call p1 p2 fun h' z TI TO i1 i2 D le hz hI hO t1 t2 kp=>?_
 refine wpAny_pyIter_zip (s:={ s1 with heap:=h' }) hz ?_
 refine ⟨z,[z,TI,TO,i1,i2],_,_,H1,rfl,I1.kept (t':=s1.toks) kp,turn_zip D,⟨hz,hI,hO,t1,t2⟩,fun c hc=>?_,q⟩
 have le2:s1.heap.objs.size≤c:=by
  have d1:=D.a
  have d2:=D.b
  have d3:=D.c
  have d4:=D.d
  simp only [List.mem_cons,List.not_mem_nil,or_false] at hc
  rcases hc with rfl | rfl | rfl | rfl | rfl
  ·exact Nat.le_of_lt (Nat.lt_of_le_of_lt le (Nat.lt_trans d1 (Nat.lt_trans d2 (Nat.lt_trans d3 d4))))
  ·exact Nat.le_of_lt (Nat.lt_of_le_of_lt le (Nat.lt_trans d1 d2))
  ·exact Nat.le_of_lt (Nat.lt_of_le_of_lt le (Nat.lt_trans d1 (Nat.lt_trans d2 d3)))
  ·exact le
  ·exact Nat.le_of_lt (Nat.lt_of_le_of_lt le d1)
 exact I1.fpOk le2 (I1.hok.fresh le2)
end
section
variable{K:PySem.W.Frag}{te:TE}{σ : St}{Q:VK}{H:Hp}
def EltG(g:TG)(n:Nat)(te:TE)(σ : St)(v:V)(H:Hp)(D:Addr)(m i:Nat)(Pv:Nat→Hp→Prop):Prop:=∀us:St,us.length=n→g v (us ++ σ) H fun σ2 H2=>(∃us':St,us'.length=n∧σ2=us' ++ σ)∧te σ2 H2 (EltK D m i Pv)
theorem comp_zip{k1 k2:Kn}{a b:Addr}{xs ys:List V}{n:Nat}{g:TG}(h:∀D,H D=none→∃Pv:Nat→Hp→Prop,Pv 0 (upd H D (.lst []))∧(∀i H2,i≤min xs.length ys.length→Pv i H2→k1.sq K H2 a xs∧k2.sq K H2 b ys) ∧
  (∀i x y H2 T,xs[i]? = some x→ys[i]? = some y→Pv i H2→H2 T=none→EltG g n te σ (.ref T) (upd H2 T (.tup [x,y])) D (min xs.length ys.length) i Pv)∧∀H2,Pv (min xs.length ys.length) H2→Q (.ref D) H2):CompG (Itz K k1 k2 a b) n g te σ Q H:=by
 intro D nD
 obtain ⟨Pv,h0,hl,hs,hd⟩:=h D nD
 refine ⟨fun i m H=>m=min xs.length ys.length - i∧i≤min xs.length ys.length∧Pv i H,⟨_,rfl,Nat.zero_le _,h0⟩,?_⟩
 rintro i m H ⟨rfl,hi,p⟩
 obtain ⟨q1,q2⟩:=hl i H hi p
 by_cases hlt:i < min xs.length ys.length
 ·refine .inr ⟨⟨xs,ys,q1,q2,by omega,by omega⟩,fun v H' y us hu=>?_⟩
  obtain ⟨T,x,y,nT,rfl,rfl,z1,z2⟩:=y
  exact hs i x y H T (z1 xs q1) (z2 ys q2) p nT us hu
 ·have e:i=min xs.length ys.length:=by omega
  subst e
  refine .inl ⟨⟨xs,ys,q1,q2,?_⟩,hd H p⟩
  rcases Nat.le_total xs.length ys.length with q | q
  ·exact .inl (by rw [Nat.min_eq_left q];exact Nat.le_refl _)
  ·exact .inr (by rw [Nat.min_eq_right q];exact Nat.le_refl _)
end
end L2
namespace L2
open PySem PySem.Spec PyProof.Rows
section
variable{prog:Program}{w:World}{A:Around}{E:Value→Shared→Prop}{s:Shared}
end
section
variable{X:Cx}{e k:Expr}{te tk:TE}{p2 pos:Pos}
end
end L2
namespace L2
open PySem PySem.Spec PyProof.Rows
open PySem.W (Dat kqdOk)
theorem AccZ.pushK{K:PySem.W.Frag}{H0 H:Hp}{l:Addr}{ds:List Dat}(A:AccZ K H0 l H ds){y:V}{d:Dat}(r:Rz K H y d)(n:ds.length < sizeLine){Pv:Hp→Prop}(h:∀H2,AccZ K H0 l H2 (ds++[d])→Pv H2):Push l Pv y H:=by
 obtain ⟨xs,h1,h2⟩:=A.at_
 refine ⟨xs,h1,by rw [h2.length];exact n,h _ ⟨A.upd_same,A.new,xs++[y],L2.upd_same,?_⟩⟩
 exact RzL.upd (h2.append (.cons r .nil)) h1
end L2
namespace L2
open PySem
section
variable{K:PySem.W.Frag}{σ : St}{H:Hp}{Q:VK}{te:TE}
theorem k_compG{wi:TI}{n:Nat}{g:TG}(h:wi σ H fun J H1=>CompG J n g te σ Q H1):tCompG wi n g te σ H Q:=h
theorem k_zip{k1 k2:Kn}{ta:TA}{R:It→Hp→Prop}(h:ta σ H fun vs H1=>∃a b xs ys,vs=[.ref a,.ref b]∧k1.sq K H1 a xs∧k2.sq K H1 b ys∧R (Itz K k1 k2 a b) H1):iZip K k1 k2 ta σ H R:=h
end
end L2
namespace L2
open PySem
section
variable{K:PySem.W.Frag}{σ : St}{H:Hp}{Q:VK}{D:Ends}{td ty tv te tk:TE}
theorem k_dput(h:tv σ H fun v H1=>td σ H1 fun x H2=>ty σ H2 fun y H3=>∃a H4,x = .ref a∧DPut H3 a y v H4∧D.nx σ H4):sDPut td ty tv D σ H:=h
end
end L2
namespace L2
open PySem PySem.Spec PyProof.Rows
section
variable{X:Cx}{scope:Scope}
theorem pe_lcN{elt iter tg:Expr}{pos:Pos}{wi:TI}{g:TG}{te:TE}{n:Nat}(ys M:List Str)(c:CompS X.env.scope X.N M ys scope)(hc:X.calm=true)(hi:PI X tg iter wi)(hg:∀C s₀ H₀ fp pins,PG (compCx X ys M scope (clOf scope X.env.cells) C s₀ H₀ fp pins) tg g)(he:∀C s₀ H₀ fp pins,PE (compCx X ys M scope (clOf scope X.env.cells) C s₀ H₀ fp pins) elt te)
  (hn:ys.length=n:=by rfl) (hs:∀v,foldedSetIterable iter X.env v=pure v:=by intro _;rfl):PE X (.ListComp elt [⟨tg,iter,[],0⟩] scope pos) (tCompG wi n g te):=by
 subst hn
 exact pe_lcG c hc hi hg he hs
end
end L2
namespace L2
open PySem PySem.Spec PyProof.Rows
section
variable{X:Cx}
def rAll(K:PySem.W.Frag):List V→Hp→VK→Prop:=fun xs H Q=>∃(a:Addr) (bs:List Bool),xs=[.ref a]∧SqL K H a (bs.map V.bl)∧Q (.bl (bs.all id)) H
theorem bls_bools:∀{bs:List Bool} {us:List Value},Vals (bs.map V.bl) us→LSm.BoolsAre us bs
 | [],_,.nil=>.nil
 | b :: bs,_,.cons r rr=>by
  cases (show _=Value.bool b from r)
  exact .cons b (bls_bools rr)
theorem walk_bools{M:Model}{A:Around}{E:Value→Shared→Prop}{s:Shared}{pins:List (Addr×Obj)}{σ : St}{H:Hp}{a:Addr}{bs:List Bool}(d:Bool)(I:Inv X pins σ H s)(q1:SqL X.K H a (bs.map V.bl))(hh:A.handled=none)(hM:M=model X.prog X.w)
  {Qr:Bool→Value→Shared→Prop} {f:(Nat→Bool)→Nat→Bool} {r:Bool} (hf:f (fun i=>(bs[i]?).getD d) bs.length=r) (q:∀h' tk,Inv X pins σ H { s with heap:=h',toks:=tk }→Qr r (.bool r) { s with heap:=h',toks:=tk }) :
  wpAny M A (pyIter (.ref a)) (fun it s₂=>∃I fp wr n P St tr,it = .ref I∧Walks X.prog X.w A I fp wr n P St∧St 0 s₂.heap∧TruthOf X.prog X.w A P tr∧∀h' tk,(∀b o,b∉wr→s₂.heap.get? b=some o→h'.get? b=some o)→Qr r (.bool (f tr n)) { s₂ with heap:=h',toks:=tk }) E s:=by
 subst hM
 obtain ⟨its,rv,p,_⟩:=I.list q1
 have hl:s.heap.IsList a its.toArray:=p.isList
 have hb:=bls_bools rv
 have hlt:a < s.heap.objs.size:=by obtain ⟨_,e,_⟩:=hl;exact Heap.lt_size e
 refine wpAny_pyIter_list hl ⟨s.heap.objs.size,[s.heap.objs.size,a],[s.heap.objs.size],its.toArray.size,_,_,fun i=>(bs[i]?).getD d,rfl,Walks.list hh _ a (Nat.ne_of_lt hlt) its.toArray,⟨⟨_,Heap.get?_push_size _ rfl,rfl,rfl⟩,hl.push _⟩,fun i v s' Q' E' hP hQ=>?_,fun h' tk hk=>?_⟩
 ·obtain ⟨b,e,rfl⟩:=hb.get i v (by simpa using hP)
  dsimp only at hQ;rw [e] at hQ;exact wpAny_truthy_bool hQ
 ·rw [List.size_toArray,hb.length,hf]
  exact q h' tk (I.kept (t':=tk) fun b o e=>hk b o (fun z=>absurd (Heap.lt_size e) (by rw [List.mem_singleton.mp z];exact Nat.lt_irrefl _)) (Heap.get?_push_of_some _ e))
theorem call_all (hc:X.calm=true):CallR X (.builtin "all") (rAll X.K):=by
 intro pins s σ H xs us Q I r h
 obtain ⟨a,bs,rfl,q1,q⟩:=h
 obtain ⟨u,rfl,ru⟩:=vals1 r
 cases ru
 refine call_all_walk (walk_bools (f:=fun tr n=>(List.range n).all tr) (r:=bs.all id) true I q1 (by have:=I.ok.hd hc;simpa using this) rfl (LSm.range_all bs) (Qr:=fun _ v s'=>EP X pins σ Q v s') fun h' tk I2=>⟨.bl _,H,I2,rfl,q⟩)
theorem bb_all:bootBuiltins "all" = some (.builtin "all"):=by decide +kernel
end
end L2
namespace L2
open PySem PySem.Spec PyProof.Rows
section
variable{X:Cx}{ys M:List Str}{scope:Scope}{cl:List (Str×Addr)}{C:Addr}{s:Shared}{H:Hp}{fp:List Addr}{pins:List (Addr×Obj)}{σ : St}
end
section
variable{K:PySem.W.Frag}{tc:TT}{te:TE}{σ : St}{Q:VK}{H:Hp}
end
end L2
namespace L2
open PySem PySem.Spec PyProof.Rows
section
variable{X:Cx}{pos:Pos}
end
section
variable{K:PySem.W.Frag}{σ : St}{H:Hp}{Q:VK}{te:TE}
end
end L2
namespace L2
open PySem PySem.Spec PyProof.Rows
section
variable{X:Cx}{tg:Expr}
end
end L2
namespace L2
open PySem PySem.Spec PyProof.Rows
section
variable{X:Cx}{tg:Expr}
theorem pe_globI {x:Str} {i:Int} {pos:Pos} (hg:Gl X x) (hm:∃t,X.mg x=some (.int i t)) (hd:(x == ("__debug__" : Str))=false:=by decide):PE X (.Name x pos) (tC (.int i)):=by
 obtain ⟨t,e⟩:=hm
 exact pe_glob hg e ⟨t,rfl⟩ hd
end
section
variable{K:PySem.W.Frag}{te:TE}{σ : St}{Q:VK}{H:Hp}
theorem k_all{a:Addr}{bs:List Bool}(e:SqL K H a (bs.map V.bl))(h:Q (.bl (bs.all id)) H):rAll K [.ref a] H Q:=⟨a,bs,rfl,e,h⟩
theorem AccZ.bls{H0:Hp}{l:Addr}{bs:List Bool}(A:AccZ K H0 l H (bs.map PySem.W.Dat.bool)):SqL K H l (bs.map V.bl):=by
 obtain ⟨xs,h1,h2⟩:=A.at_
 have:∀{vs:List V} {bs:List Bool},RzL K H vs (bs.map PySem.W.Dat.bool)→vs=bs.map V.bl:=by
  intro vs bs
  induction bs generalizing vs with
  | nil=>intro h;cases h;rfl
  | cons b bs ih =>
   intro h
   cases h with
   | cons h1 h2 =>
    cases h1
    rw [ih h2]
    rfl
 rw [this h2] at h1
 exact SqL.of h1
end
end L2
namespace Gd
def gd(a b:Int):Int:=(Int.gcd a b:Nat)
theorem gd_turn(a b:Int):gd b (Int.fmod a b)=gd a b:=by
 unfold gd
 have e:Int.fmod a b=a+b*(-(Int.fdiv a b)):=by
  rw [Int.fmod_def,Int.mul_neg];omega
 rw [e,Int.gcd_add_mul_left_right,Int.gcd_comm]
theorem gd_less{a b:Int}(h:b≠0):(Int.fmod a b).natAbs < b.natAbs:=by
 rcases (by omega:0 < b∨b < 0) with p | p
 ·have h1:=Int.fmod_nonneg_of_pos a p
  have h2:=Int.fmod_lt_of_pos a p
  omega
 ·have e:Int.fmod a b = -(Int.fmod (-a) (-b)):=by
   rw [Int.fmod_def,Int.fmod_def,Int.neg_fdiv_neg]
   rw [Int.neg_mul];omega
  have h1:=Int.fmod_nonneg_of_pos (-a) (b:=-b) (by omega)
  have h2:=Int.fmod_lt_of_pos (-a) (b:=-b) (by omega)
  omega
theorem gd_zero(a:Int):gd a 0=(a.natAbs:Int):=by
 unfold gd
 rw [Int.gcd_zero_right]
theorem gd_out(a:Int):(if a < 0 then -a else a)=gd a 0:=by
 rw [gd_zero];split <;> omega
theorem gd_pos{a b:Int}(h:b≠0):0 < gd a b:=by
 unfold gd
 have:Int.gcd a b≠0:=fun e=>h (Int.gcd_eq_zero_iff.mp e).2
 omega
theorem gd_le{a b:Int}(h:b≠0):gd a b≤(b.natAbs:Int):=by
 unfold gd
 have:=Int.gcd_le_natAbs_right a h
 omega
structure Low (top bottom q p:Int):Prop where
 pos:0 < p
 low:gd q p=1
 worth:q*bottom=top*p
theorem low_of{t b d:Int}(hb:b≠0)(hd:d=gd t b∧0 < b∨d = - gd t b∧b < 0):Low t b (Int.fdiv t d) (Int.fdiv b d):=by
 have gp:=gd_pos (a:=t) hb
 have d1:gd t b∣t:=Int.gcd_dvd_left t b
 have d2:gd t b∣b:=Int.gcd_dvd_right t b
 have e1:d∣t:=by rcases hd with ⟨e,_⟩ | ⟨e,_⟩ <;> rw [e];exact d1;exact Int.neg_dvd.mpr d1
 have e2:d∣b:=by rcases hd with ⟨e,_⟩ | ⟨e,_⟩ <;> rw [e];exact d2;exact Int.neg_dvd.mpr d2
 have d0:d≠0:=by rcases hd with ⟨e,_⟩ | ⟨e,_⟩ <;> omega
 obtain ⟨q,rfl⟩:=e1
 obtain ⟨p,rfl⟩:=e2
 rw [Int.mul_fdiv_cancel_left _ d0,Int.mul_fdiv_cancel_left _ d0]
 refine ⟨?_,?_,?_⟩
 ·rcases hd with ⟨e,z⟩ | ⟨e,z⟩
  ·exact Int.pos_of_mul_pos_right z (by omega) |> fun h=>h
  ·have z':0 < (-d)*p:=by rw [Int.neg_mul];omega
   exact Int.pos_of_mul_pos_right z' (by omega)
 ·have m:gd (d*q) (d*p)=(d.natAbs:Int)*gd q p:=by
   unfold gd;rw [Int.gcd_mul_left];simp
  have n:gd (d*q) (d*p)=(d.natAbs:Int):=by
   rcases hd with ⟨e,z⟩ | ⟨e,z⟩ <;> omega
  rw [n] at m
  have k:(d.natAbs:Int)*gd q p=(d.natAbs:Int)*1:=by omega
  exact Int.eq_of_mul_eq_mul_left (by omega) k
 ·rw [← Int.mul_assoc,Int.mul_comm q d]
theorem fdiv_abs{t d:Int}(h:d≠0)(hd:d∣t):(Int.fdiv t d).natAbs≤t.natAbs:=by
 obtain ⟨q,rfl⟩:=hd
 rw [Int.mul_fdiv_cancel_left _ h,Int.natAbs_mul]
 exact Nat.le_mul_of_pos_left _ (by omega)
theorem low_abs{t b d:Int}(hb:b≠0)(hd:d=gd t b∧0 < b∨d = - gd t b∧b < 0):(Int.fdiv t d).natAbs≤t.natAbs∧(Int.fdiv b d).natAbs≤b.natAbs:=by
 have gp:=gd_pos (a:=t) hb
 have d1:gd t b∣t:=Int.gcd_dvd_left t b
 have d2:gd t b∣b:=Int.gcd_dvd_right t b
 have d0:d≠0:=by rcases hd with ⟨e,_⟩ | ⟨e,_⟩ <;> omega
 refine ⟨fdiv_abs d0 ?_,fdiv_abs d0 ?_⟩
 ·rcases hd with ⟨e,_⟩ | ⟨e,_⟩ <;> rw [e];exact d1;exact Int.neg_dvd.mpr d1
 ·rcases hd with ⟨e,_⟩ | ⟨e,_⟩ <;> rw [e];exact d2;exact Int.neg_dvd.mpr d2
theorem wide{i:Int}(h:i.natAbs < 10000000000000000000000000000000000000001):i.natAbs < 2 ^ 9000 :=
 Nat.lt_of_lt_of_le h (by
  have:10000000000000000000000000000000000000001≤2 ^ 133:=by decide
  exact Nat.le_trans this (Nat.pow_le_pow_right (by decide) (by decide)))
end Gd
namespace Fr
open PySem L2
def spDiv:Sp:=fun vs H Q _=>∃a b:Int,vs=[.int a,.int b]∧Q (.int (Gd.gd a b)) H
theorem len_div{vs:List V}{H:Hp}{Q:VK}{E:XK}{y z:Str}(h:spDiv vs H Q E):vs.length=[y,z].length:=by
 obtain ⟨a,b,rfl,_⟩:=h
 rfl
def tDiv:TS:=(tSeq (tWhile (tTest (tOp rNe (tVar 1) (tC (.int 0))))
 (tSeq (tAsg (tOp rModN (tVar 0) (tVar 1)) (gName 2))
 (tSeq (tAsg (tVar 1) (gName 0))
 (tAsg (tVar 2) (gName 1)))))
 (tRet (tCB rAbs (tCons (tVar 0) tNil))))
theorem rd_div(a b:Int)(H:Hp)(D:Ends)(k:D.rt (.int (Gd.gd a b)) H):tDiv D [some (.int a),some (.int b),none] H:=by
 refine while_by (fun σ H'=>H'=H∧∃(i j:Int) (v:Option V),σ = [some (.int i),some (.int j),v]∧Gd.gd i j=Gd.gd a b)
  (fun σ _=>match σ with | [_,some (.int j),_]=>j.natAbs | _=>0) ⟨rfl,a,b,none,rfl,rfl⟩ ?_ ?_
 ·rintro σ H' ⟨rfl,i,j,v,rfl,e⟩
  refine ⟨_,rfl,rfl,_,rfl,iteNE (fun hj=>?_) (fun hj=>?_)⟩
  ·refine ⟨_,rfl,_,rfl,_,_,rfl,rfl,hj,_,rfl,_,rfl,⟨rfl,j,i.fmod j,_,rfl,(Gd.gd_turn i j).trans e⟩,?_⟩
   exact Gd.gd_less hj
  ·subst hj
   refine ⟨_,rfl,_,rfl,?_⟩
   rw [Gd.gd_out,e]
   exact k
 ·rintro σ H' R R' h ⟨v,e,sc,c,ec,q⟩
  exact ⟨v,e,sc,c,ec,h _ _ q⟩
def tLowT:TS:=(tSeq (tAsg (tCall spDiv [] E0 (tCons (tVar 0) (tCons (tVar 1) tNil))) (gName 2))
 (tRet (tTup (tCons (tOp rDivW (tVar 0) (tVar 2)) (tCons (tOp rDivW (tVar 1) (tVar 2)) tNil)))))
def tLow0:TS:=(tSeq (tIfS (tTest (tOp rLt (tVar 1) (tC (.int 0)))) tNever tNext)
 (tSeq (tIfS (tTest (tOp rEq (tVar 1) (tC (.int 0)))) (tAsg (tC (.int 1)) (gName 1)) tNext) tLowT))
end Fr
namespace Fr
open PySem L2
open PySem.W (Dat kqdOk)
def cellOf(ns:List Int)(k:Int):Int:=(ns[k.toNat]?).getD 0
def spCell(K:PySem.W.Frag):Sp:=fun vs H Q _=>∃(a:Addr) (ns:List Int) (k:Int),vs=[.ref a,.int k]∧SqL K H a (ns.map V.int)∧0≤k∧Q (.int (cellOf ns k)) H
theorem len_cell{K:PySem.W.Frag}{vs:List V}{H:Hp}{Q:VK}{E:XK}{y z:Str}(h:spCell K vs H Q E):vs.length=[y,z].length:=by
 obtain ⟨a,ns,k,rfl,_⟩:=h
 rfl
def tCell(K:PySem.W.Frag):TS:=(tSeq (tIfS (tTest (tOp rLt (tVar 1) (tCB (rLenQ K) (tCons (tVar 0) tNil))))
 (tRet (tOp (rIxL K) (tVar 0) (tVar 1)))
 tNext)
 (tRet (tC (.int 0))))
theorem rd_cell{K:PySem.W.Frag}{a:Addr}{ns:List Int}{k:Int}{H:Hp}{D:Ends}(hS:SqL K H a (ns.map V.int))(h0:0≤k)(q:D.rt (.int (cellOf ns k)) H):tCell K D [some (.ref a),some (.int k)] H:=by
 have el:(ns.map V.int).length=ns.length:=List.length_map _
 refine ⟨_,rfl,_,rfl,a,_,rfl,.inl hS,_,_,rfl,rfl,_,rfl,iteD (fun c=>?_) (fun c=>?_)⟩
 ·rw [el] at c
  have hk:k.toNat < ns.length:=by omega
  have e:k=((k.toNat:Nat):Int):=by omega
  have z:cellOf ns k=ns[k.toNat]:=by
   unfold cellOf
   rw [List.getElem?_eq_getElem hk]
   rfl
  have w:atI (ns.map V.int) ((k.toNat:Nat):Int)=some (.int ns[k.toNat]):=atI_nat (by rw [List.getElem?_map];simp [hk])
  rw [← e] at w
  rw [z] at q
  exact ⟨_,rfl,_,rfl,a,_,_,_,rfl,rfl,hS,w,q⟩
 ·rw [el] at c
  have z:cellOf ns k=0:=by
   unfold cellOf
   rw [List.getElem?_eq_none (by omega)]
   rfl
  rw [z] at q
  exact q
def spWhole:Sp:=fun vs H Q _=>∃i:Int,vs=[.int i]∧Q (.bl true) H
theorem len_whole{vs:List V}{H:Hp}{Q:VK}{E:XK}{y:Str}(h:spWhole vs H Q E):vs.length=[y].length:=by
 obtain ⟨i,rfl,_⟩:=h
 rfl
def tWhole (K:PySem.W.Frag):TS:=(tRet (tAndV (tCB (rIsi K) (tCons (tVar 0) (tCons (tC (.ty "int")) tNil))) (tNotV (tCB (rIsi K) (tCons (tVar 0) (tCons (tC (.ty "bool")) tNil))))))
theorem rd_whole{K:PySem.W.Frag}{i:Int}{H:Hp}{D:Ends}(q:D.rt (.bl true) H):tWhole K D [some (.int i)] H :=
 ⟨_,rfl,_,_,_,_,rfl,TyOf.int i,kit_ii,_,rfl,iteT ⟨_,rfl,_,_,_,_,rfl,TyOf.int i,kit_ib,_,rfl,q⟩⟩
end Fr
namespace Kd
open PySem L2
def tKind(K:PySem.W.Frag)(c:V)(nm:Str):TS:=(tIfS (tB (tCB (rIsiE K) (tCons (tVar 0) (tCons (tC c) tNil))))
 (tDrop (tBM K "list" rAppend (tVar 1) (tCons (tC (.str nm)) tNil)))
 tNext)
theorem rd_no{K:PySem.W.Frag}{c:V}{nm:Str}{e l C:Addr}{H:Hp}{D:Ends}(he:ExH H e C)(a:ExcA K C)(k:KitE K C c false)(q:D.nx [some (.ref e),some (.ref l)] H) :
  tKind K c nm D [some (.ref e),some (.ref l)] H:=⟨_,rfl,e,C,c,false,rfl,he,a,k,_,rfl,iteF q⟩
theorem rd_yes{K:PySem.W.Frag}{c:V}{nm:Str}{e l C:Addr}{H:Hp}{D:Ends}(he:ExH H e C)(a:ExcA K C)(k:KitE K C c true)(hl:H l=some (.lst []))(q:D.nx [some (.ref e),some (.ref l)] (upd H l (.lst [.str nm]))) :
  tKind K c nm D [some (.ref e),some (.ref l)] H :=
 ⟨_,rfl,e,C,c,true,rfl,he,a,k,_,rfl,iteT ⟨_,rfl,.inl ⟨rfl,_,SqL.of hl⟩,l,_,_,rfl,rfl,hl,(by show 0 < sizeLine;decide),q⟩⟩
end Kd
namespace Ex0
open PySem L2 Fr Kd
structure Ad where
 V:Addr
 c0:Addr
 c1:Addr
 c2:Addr
 c3:Addr
 c4:Addr
 c5:Addr
 c6:Addr
 c7:Addr
 c8:Addr
 c9:Addr
 c10:Addr
 c11:Addr
 c12:Addr
 c13:Addr
def tKinds(K:PySem.W.Frag)(x:Ad):TS:=(tSeq (tAsg (tLst tNil) (gName 1))
 (tSeq (tKind K (.ref x.c0) "NoFraction")
 (tSeq (tKind K (.ref x.c1) "NoStuffs")
 (tSeq (tKind K (.ref x.c2) "NoHeap")
 (tSeq (tKind K (.ref x.c3) "NoPace")
 (tSeq (tKind K (.ref x.c4) "NoTurnings")
 (tSeq (tKind K (.ref x.c5) "NoTurning")
 (tSeq (tKind K (.ref x.c6) "NoText")
 (tSeq (tKind K (.ref x.c7) "NotNow")
 (tSeq (tKind K (.ref x.c8) "TooMany")
 (tSeq (tKind K (.ref x.c9) "NoDrain")
 (tSeq (tKind K (.ref x.c10) "NotEven")
 (tSeq (tKind K (.ref x.c11) "NoStuff")
 (tSeq (tKind K (.ref x.c12) "NoPieces")
 (tSeq (tKind K (.ref x.c13) "NoDeed")
 (tSeq (tIfS (tNot (tB (tCB (rIsiE K) (tCons (tVar 0) (tCons (tC (.ty "ValueError")) tNil)))))
 (tDrop (tBM K "list" rAppend (tVar 1) (tCons (tC (.str "other")) tNil)))
 tNext)
 (tRet (tVar 1))))))))))))))))))
end Ex0
namespace L2
open PySem PySem.SetTable
def tb0(m:Nat):SetTable:={ mask:=m,place:=#[],dummies:=#[],finger:=0,led:=true,moves:=0,plain:=true }
def adv(m:Nat)(p:Probe):Probe:=(tb0 m).advance p
def st(m:Nat)(h:Int):Probe:=(tb0 m).probeStart h
def wlk(m:Nat):Nat→Probe→Probe
 | 0,p=>p
 | n+1,p=>wlk m n (adv m p)
theorem wlk_add(m:Nat):∀(a b:Nat) (p:Probe),wlk m (a+b) p=wlk m b (wlk m a p)
 | 0,b,p=>by rw [Nat.zero_add];rfl
 | a+1,b,p=>by rw [show a+1+b=(a+b)+1 by omega];exact wlk_add m a b (adv m p)
theorem wlk_succ(m n:Nat)(p:Probe):wlk m (n+1) p=adv m (wlk m n p):=by rw [wlk_add m n 1 p];rfl
theorem adv_dummy(m:Nat)(p:Probe):(adv m p).dummy=p.dummy:=by unfold adv SetTable.advance;split <;> rfl
theorem wlk_dummy(m:Nat):∀(n:Nat) (p:Probe),(wlk m n p).dummy=p.dummy
 | 0,_=>rfl
 | n+1,p=>by rw [wlk,wlk_dummy m n,adv_dummy]
theorem runEnd_le(m i:Nat):runEnd m i - i≤9:=by unfold runEnd;split <;> omega
theorem adv_more{m:Nat}{p:Probe}(h:p.more≤9):(adv m p).more≤9:=by
 unfold adv SetTable.advance
 split
 ·show p.more - 1≤9;omega
 ·exact runEnd_le _ _
theorem wlk_more(m:Nat):∀(n:Nat) {p:Probe},p.more≤9→(wlk m n p).more≤9
 | 0,_,h=>h
 | n+1,_,h=>wlk_more m n (adv_more h)
theorem st_more(m:Nat)(h:Int):(st m h).more≤9:=runEnd_le _ _
def lp(m:Nat)(x:Nat×Nat):Nat×Nat:=leap m x.1 x.2
def lps(m:Nat):Nat→Nat×Nat→Nat×Nat
 | 0,x=>x
 | n+1,x=>lps m n (lp m x)
theorem adv_more_pos{m:Nat}{p:Probe}(h:0 < p.more):adv m p = { p with j:=p.j+1,more:=p.more - 1 }:=by unfold adv SetTable.advance;rw [if_pos h]
theorem adv_more_zero{m:Nat}{p:Probe}(h:p.more=0):adv m p = { p with j:=(lp m (p.i,p.perturb)).1,more:=runEnd m (lp m (p.i,p.perturb)).1 - (lp m (p.i,p.perturb)).1,i:=(lp m (p.i,p.perturb)).1,perturb:=(lp m (p.i,p.perturb)).2 }:=by
 unfold adv SetTable.advance
 rw [if_neg (by omega)]
 rfl
theorem to_leap(m:Nat):∀(r:Nat) (p:Probe),p.more=r→∃q,wlk m (r+1) p=q∧q.j=(lp m (p.i,p.perturb)).1∧q.i=(lp m (p.i,p.perturb)).1∧q.perturb=(lp m (p.i,p.perturb)).2
 | 0,p,h=>⟨_,rfl,by rw [wlk,wlk,adv_more_zero h],by rw [wlk,wlk,adv_more_zero h],by rw [wlk,wlk,adv_more_zero h]⟩
 | r+1,p,h=>by
  have e:wlk m (r+1+1) p=wlk m (r+1) { p with j:=p.j+1,more:=p.more - 1 }:=by rw [wlk,adv_more_pos (by omega)]
  obtain ⟨q,h1,h2,h3,h4⟩:=to_leap m r { p with j:=p.j+1,more:=p.more - 1 } (by show p.more - 1=r;omega)
  exact ⟨q,e.trans h1,h2,h3,h4⟩
theorem to_leaps(m:Nat):∀(k:Nat) (p:Probe),p.more≤9→∃n,n≤10*(k+1)∧(wlk m n p).j=(lps m (k+1) (p.i,p.perturb)).1∧(wlk m n p).i=(lps m (k+1) (p.i,p.perturb)).1∧(wlk m n p).perturb=(lps m (k+1) (p.i,p.perturb)).2
 | 0,p,h=>by
  obtain ⟨q,h1,h2,h3,h4⟩:=to_leap m p.more p rfl
  exact ⟨p.more+1,by omega,by rw [h1];exact h2,by rw [h1];exact h3,by rw [h1];exact h4⟩
 | k+1,p,h=>by
  obtain ⟨q,h1,h2,h3,h4⟩:=to_leap m p.more p rfl
  have hq:q.more≤9:=h1 ▸ wlk_more m _ h
  obtain ⟨n,g1,g2,g3,g4⟩:=to_leaps m k q hq
  have e:lps m (k+1) (q.i,q.perturb)=lps m (k+1+1) (p.i,p.perturb):=by rw [h3,h4];rfl
  rw [e] at g2 g3 g4
  exact ⟨p.more+1+n,by omega,by rw [wlk_add,h1];exact g2,by rw [wlk_add,h1];exact g3,by rw [wlk_add,h1];exact g4⟩
theorem lps_add(m:Nat):∀(a b:Nat) (x:Nat×Nat),lps m (a+b) x=lps m b (lps m a x)
 | 0,b,x=>by rw [Nat.zero_add];rfl
 | a+1,b,x=>by rw [show a+1+b=(a+b)+1 by omega];exact lps_add m a b (lp m x)
theorem lps_perturb(m:Nat):∀(a:Nat) (x:Nat×Nat),(lps m a x).2=x.2 / 32 ^ a
 | 0,x=>by simp [lps]
 | a+1,x=>by
  rw [lps,lps_perturb m a]
  show x.2 / 32 / 32 ^ a=x.2 / 32 ^ (a+1)
  rw [Nat.div_div_eq_div_mul,Nat.pow_succ,Nat.mul_comm]
theorem lps_lt(m:Nat):∀(a:Nat) (x:Nat×Nat),(lps m (a+1) x).1 < m+1
 | 0,x=>Nat.mod_lt _ (Nat.succ_pos _)
 | a+1,x=>lps_lt m a (lp m x)
def lc(m:Nat):Nat→Nat→Nat
 | 0,i=>i
 | n+1,i=>lc m n ((i*5+1) % (m+1))
theorem lps_zero(m:Nat):∀(a i:Nat),(lps m a (i,0)).1=lc m a i
 | 0,_=>rfl
 | a+1,i=>by
  have e:lp m (i,0)=((i*5+1) % (m+1),0):=by unfold lp leap;simp
  rw [lps,e,lps_zero m a];rfl
def Full(m:Nat):Prop:=∀i,i < m+1→∀j,j < m+1→∃k,k < m+1∧lc m k i=j
def fullB(m:Nat):Bool:=(List.range (m+1)).all fun i=>(List.range (m+1)).all fun j=>(List.range (m+1)).any fun k=>lc m k i == j
theorem full_of{m:Nat}(h:fullB m=true):Full m:=by
 intro i hi j hj
 have h1:=List.all_eq_true.mp h i (List.mem_range.mpr hi)
 have h2:=List.all_eq_true.mp h1 j (List.mem_range.mpr hj)
 obtain ⟨k,h3,h4⟩:=List.any_eq_true.mp h2
 exact ⟨k,List.mem_range.mp h3,by simpa using h4⟩
theorem full7:Full 7:=full_of (by decide +kernel)
theorem full31:Full 31:=full_of (by decide +kernel)
theorem hits{m:Nat}(F:Full m){p:Probe}(h1:p.more≤9)(h2:p.perturb < 2 ^ 64){j:Nat}(hj:j < m+1):∃n,n < 10*turns m∧(wlk m n p).j=j:=by
 obtain ⟨k,hk,ek⟩:=F (lps m 13 (p.i,p.perturb)).1 (lps_lt m 12 _) j hj
 have z:(lps m 13 (p.i,p.perturb)).2=0:=by
  rw [lps_perturb]
  exact Nat.div_eq_of_lt (Nat.lt_of_lt_of_le h2 (by decide))
 have e:(lps m (12+k+1) (p.i,p.perturb)).1=j:=by
  rw [show 12+k+1=13+k by omega,lps_add]
  have e2:lps m 13 (p.i,p.perturb)=((lps m 13 (p.i,p.perturb)).1,0):=Prod.ext rfl z
  rw [e2,lps_zero];exact ek
 obtain ⟨n,g1,g2,_⟩:=to_leaps m (12+k) p h1
 exact ⟨n,by unfold turns;omega,g2.trans e⟩
theorem bits_lt(h:Int):bits h < 2 ^ 64:=by unfold bits;omega
theorem st_perturb(m:Nat)(h:Int):(st m h).perturb < 2 ^ 64:=bits_lt h
theorem adv_perturb{m:Nat}{p:Probe}(h:p.perturb < 2 ^ 64):(adv m p).perturb < 2 ^ 64:=by
 unfold adv SetTable.advance
 split
 ·exact h
 ·show p.perturb / 32 < 2 ^ 64;omega
theorem wlk_perturb(m:Nat):∀(n:Nat) {p:Probe},p.perturb < 2 ^ 64→(wlk m n p).perturb < 2 ^ 64
 | 0,_,h=>h
 | n+1,_,h=>wlk_perturb m n (adv_perturb h)
theorem probe_go {t : SetTable} (hd : ∀ j, t.slot j ≠ .dummy) (hashAt : Nat → Int) (h : Int) : ∀ (fuel : Nat) (p : Probe), (∃ n, n < fuel ∧ t.slot (wlk t.mask n p).j = .empty) →
    ∃ n, n < fuel ∧ (∀ k, k < n → ∃ i, t.slot (wlk t.mask k p).j = .live i ∧ hashAt i ≠ h) ∧
      ((t.slot (wlk t.mask n p).j = .empty ∧ SetTable.probe.go t hashAt h fuel p = some (.empty (wlk t.mask n p).j p.dummy)) ∨
       (∃ i, t.slot (wlk t.mask n p).j = .live i ∧ hashAt i = h ∧ SetTable.probe.go t hashAt h fuel p = some (.candidate (wlk t.mask n p).j i (wlk t.mask (n + 1) p))))
  | 0, _, ⟨_, h0, _⟩ => absurd h0 (by omega)
  | fuel + 1, p, ⟨n, h0, h1⟩ => by
    cases hs : t.slot p.j with
    | empty => exact ⟨0, by omega, fun k hk => absurd hk (by omega), .inl ⟨hs, by rw [SetTable.probe.go, hs]; rfl⟩⟩
    | dummy => exact absurd hs (hd _)
    | live i =>
      by_cases e : hashAt i = h
      · refine ⟨0, by omega, fun k hk => absurd hk (by omega), .inr ⟨i, hs, e, ?_⟩⟩
        rw [SetTable.probe.go, hs]
        show (if hashAt i == h then _ else _) = _
        rw [if_pos (by simpa using e)]; rfl
      · have hn : ∃ n, n < fuel ∧ t.slot (wlk t.mask n (adv t.mask p)).j = .empty := by
          cases n with
          | zero => rw [wlk, hs] at h1; exact absurd h1 (by simp)
          | succ n => exact ⟨n, by omega, h1⟩
        obtain ⟨n', g0, g1, g2⟩ := probe_go hd hashAt h fuel (adv t.mask p) hn
        have ego : SetTable.probe.go t hashAt h (fuel + 1) p = SetTable.probe.go t hashAt h fuel (adv t.mask p) := by
          rw [SetTable.probe.go, hs]
          show (if hashAt i == h then _ else _) = _
          rw [if_neg (by simpa using e)]; rfl
        refine ⟨n' + 1, by omega, ?_, ?_⟩
        · intro k hk
          cases k with
          | zero => exact ⟨i, hs, e⟩
          | succ k => exact g1 k (by omega)
        · rw [ego]
          rcases g2 with ⟨a, b⟩ | ⟨i', a, b, c⟩
          · exact .inl ⟨a, by rw [b, adv_dummy]; rfl⟩
          · exact .inr ⟨i', a, b, c⟩
end L2
namespace L2
open PySem PySem.SetTable
theorem lc_add(m:Nat):∀(a b i:Nat),lc m (a+b) i=lc m b (lc m a i)
 | 0,b,i=>by rw [Nat.zero_add];rfl
 | a+1,b,i=>by rw [show a+1+b=(a+b)+1 by omega];exact lc_add m a b _
theorem below_go(xs:Array Nat)(j:Nat)(hs:∀a b,a < b→b < xs.size→xs.getD a j < xs.getD b j):∀(fuel lo hi:Nat),lo≤hi→hi≤xs.size→hi - lo≤fuel→(∀k,k < lo→xs.getD k j < j)→(∀k,hi≤k→k < xs.size→¬ xs.getD k j < j) →
  lo≤below.go xs j fuel lo hi∧below.go xs j fuel lo hi≤xs.size∧(∀k,k < below.go xs j fuel lo hi→xs.getD k j < j)∧(∀k,below.go xs j fuel lo hi≤k→k < xs.size→¬ xs.getD k j < j)
 | 0,lo,hi,h1,h2,h3,h4,h5=>by
  have:lo=hi:=by omega
  subst this
  exact ⟨Nat.le_refl _,h2,h4,h5⟩
 | fuel+1,lo,hi,h1,h2,h3,h4,h5=>by
  unfold below.go
  by_cases hl:lo < hi
  ·rw [if_pos hl]
   show lo≤(if xs.getD ((lo+hi) / 2) j < j then _ else _)∧_
   by_cases hm:xs.getD ((lo+hi) / 2) j < j
   ·rw [if_pos hm]
    have:=below_go xs j hs fuel ((lo+hi) / 2+1) hi (by omega) h2 (by omega) (fun k hk=>by
     rcases Nat.lt_or_ge k ((lo+hi) / 2) with g | g
     ·exact Nat.lt_trans (hs k _ g (by omega)) hm
     ·have:k=(lo+hi) / 2:=by omega
      rw [this];exact hm) h5
    exact ⟨by omega,this.2⟩
   ·rw [if_neg hm]
    exact below_go xs j hs fuel lo ((lo+hi) / 2) (by omega) (by omega) (by omega) h4 (fun k h6 h7 h8=>by
     rcases Nat.lt_or_ge ((lo+hi) / 2) k with g | g
     ·exact hm (Nat.lt_trans (hs _ k g h7) h8)
     ·have:k=(lo+hi) / 2:=by omega
      rw [this] at h8;exact hm h8)
  ·rw [if_neg hl]
   have:lo=hi:=by omega
   subst this
   exact ⟨Nat.le_refl _,h2,h4,h5⟩
def Srt(l:List Nat):Prop:=l.Pairwise (· < ·)
theorem srt_getD{l:List Nat}(h:Srt l)(d:Nat):∀a b,a < b→b < l.toArray.size→l.toArray.getD a d < l.toArray.getD b d:=by
 intro a b h1 h2
 have h3:b < l.length:=by simpa using h2
 have:=List.pairwise_iff_getElem.mp h a b (by omega) h3 h1
 simpa [Array.getD,h3,show a < l.length by omega] using this
theorem below_spec{l:List Nat}(h:Srt l)(j:Nat):below l.toArray j≤l.length∧(∀k x,k < below l.toArray j→l[k]? = some x→x < j)∧(∀k x,below l.toArray j≤k→l[k]? = some x→j≤x):=by
 have:=below_go l.toArray j (srt_getD h j) l.toArray.size 0 l.toArray.size (by omega) (Nat.le_refl _) (by omega) (fun k hk=>absurd hk (by omega)) (fun k h1 h2=>absurd h2 (by omega))
 obtain ⟨_,h2,h3,h4⟩:=this
 have gd:∀k x,l[k]? = some x→k < l.length∧l.toArray.getD k j=x:=by
  intro k x hx
  obtain ⟨hk,e⟩:=List.getElem?_eq_some_iff.mp hx
  exact ⟨hk,by simp [Array.getD,hk,e]⟩
 refine ⟨by unfold below;simpa using h2,?_,?_⟩
 ·intro k x hk hx
  have:=h3 k hk
  rw [(gd k x hx).2] at this;exact this
 ·intro k x hk hx
  have:=h4 k hk (by simpa using (gd k x hx).1)
  rw [(gd k x hx).2] at this;omega
theorem below_at{l:List Nat}(h:Srt l){j i:Nat}(hi:l[i]? = some j):below l.toArray j=i:=by
 obtain ⟨h1,h2,h3⟩:=below_spec h j
 rcases Nat.lt_trichotomy i (below l.toArray j) with g | g | g
 ·exact absurd (h2 i j g hi) (by omega)
 ·exact g.symm
 ·obtain ⟨hk,e⟩:=List.getElem?_eq_some_iff.mp hi
  have hb:below l.toArray j < l.length:=by omega
  have h4:=h3 (below l.toArray j) _ (Nat.le_refl _) (List.getElem?_eq_getElem hb)
  have h5:=List.pairwise_iff_getElem.mp h (below l.toArray j) i hb hk g
  omega
theorem srt_ins{l:List Nat}(h:Srt l){j:Nat}(hj:j∉l):Srt (l.take (below l.toArray j)++j :: l.drop (below l.toArray j)):=by
 obtain ⟨h1,h2,h3⟩:=below_spec h j
 have ht:∀x∈l.take (below l.toArray j),x < j:=by
  intro x hx
  obtain ⟨k,hk,e⟩:=List.mem_take_iff_getElem.mp hx
  exact h2 k x (by omega) (by rw [← e];exact List.getElem?_eq_getElem _)
 have hd:∀x∈l.drop (below l.toArray j),j < x:=by
  intro x hx
  obtain ⟨k,hk,e⟩:=List.mem_drop_iff_getElem.mp hx
  have:=h3 (below l.toArray j+k) x (by omega) (by rw [← e];exact List.getElem?_eq_getElem _)
  have hne:x≠j:=fun e2=>hj (e2 ▸ List.mem_of_mem_drop hx)
  omega
 unfold Srt
 rw [List.pairwise_append]
 refine ⟨List.Pairwise.sublist (List.take_sublist _ _) h,?_,?_⟩
 ·rw [List.pairwise_cons]
  exact ⟨hd,List.Pairwise.sublist (List.drop_sublist _ _) h⟩
 ·intro a ha b hb
  rcases List.mem_cons.mp hb with rfl | hb
  ·exact ht a ha
  ·exact Nat.lt_trans (ht a ha) (hd b hb)
theorem insertAt_list{α : Type}(l:List α)(p:Nat)(x : α)(_hp:p≤l.length):insertAt l.toArray p x=(l.take p++x :: l.drop p).toArray:=by
 unfold insertAt
 apply Array.ext'
 simp [List.extract_eq_take_drop]
 rw [List.take_of_length_le (by simp)]
theorem slot_live{t:SetTable}{l:List Nat}(hp:t.place=l.toArray)(hs:Srt l){i j:Nat}(h:l[i]? = some j):t.slot j = .live i:=by
 unfold SetTable.slot
 rw [hp]
 show (if l.toArray[below l.toArray j]? == some j then _ else _)=_
 rw [below_at hs h,if_pos (by simpa using h)]
theorem slot_empty{t:SetTable}{l:List Nat}(hp:t.place=l.toArray)(hd:t.dummies = #[]){j:Nat}(h:j∉l):t.slot j = .empty:=by
 unfold SetTable.slot
 rw [hp,hd]
 show (if l.toArray[below l.toArray j]? == some j then _ else _)=_
 rw [if_neg,if_neg]
 ·simp [has,below,below.go]
 ·intro e
  exact h (List.mem_of_getElem? (by simpa using e))
theorem slot_of_live{t:SetTable}{l:List Nat}(hp:t.place=l.toArray)(hd:t.dummies = #[])(hs:Srt l){i j:Nat}(h:t.slot j = .live i):l[i]? = some j:=by
 by_cases hj:j∈l
 ·obtain ⟨i',hi⟩:=List.mem_iff_getElem?.mp hj
  rw [slot_live hp hs hi] at h
  cases h;exact hi
 ·rw [slot_empty hp hd hj] at h;cases h
theorem slot_not_dummy{t:SetTable}{l:List Nat}(hp:t.place=l.toArray)(hd:t.dummies = #[])(hs:Srt l)(j:Nat):t.slot j≠.dummy:=by
 by_cases hj:j∈l
 ·obtain ⟨i',hi⟩:=List.mem_iff_getElem?.mp hj
  rw [slot_live hp hs hi];simp
 ·rw [slot_empty hp hd hj];simp
theorem slot_of_empty{t:SetTable}{l:List Nat}(hp:t.place=l.toArray)(hs:Srt l){j:Nat}(h:t.slot j = .empty):j∉l:=by
 intro hj
 obtain ⟨i',hi⟩:=List.mem_iff_getElem?.mp hj
 rw [slot_live hp hs hi] at h;cases h
theorem adv_le{m:Nat}{p:Probe}(h:p.j+p.more≤m):(adv m p).j+(adv m p).more≤m:=by
 by_cases g:0 < p.more
 ·rw [adv_more_pos g];show p.j+1+(p.more - 1)≤m;omega
 ·rw [adv_more_zero (by omega)]
  have hl:(lp m (p.i,p.perturb)).1 < m+1:=Nat.mod_lt _ (Nat.succ_pos _)
  show (lp m (p.i,p.perturb)).1+(runEnd m (lp m (p.i,p.perturb)).1 - (lp m (p.i,p.perturb)).1)≤m
  unfold runEnd;split <;> omega
theorem wlk_le(m:Nat):∀(n:Nat) {p:Probe},p.j+p.more≤m→(wlk m n p).j+(wlk m n p).more≤m
 | 0,_,h=>h
 | n+1,_,h=>wlk_le m n (adv_le h)
theorem st_le(m:Nat)(h:Int):(st m h).j+(st m h).more≤m:=by
 have hl:bits h % (m+1) < m+1:=Nat.mod_lt _ (Nat.succ_pos _)
 show bits h % (m+1)+(runEnd m (bits h % (m+1)) - bits h % (m+1))≤m
 unfold runEnd;split <;> omega
def at_(m:Nat)(h:Int)(n:Nat):Nat:=(wlk m n (st m h)).j
theorem at_le(m:Nat)(h:Int)(n:Nat):at_ m h n≤m:=by have:=wlk_le m n (st_le m h);unfold at_;omega
structure Lain (t:SetTable) (l:List Nat) (hs:List Int):Prop where
 full:Full t.mask
 place:t.place=l.toArray
 nodum:t.dummies = #[]
 size:l.length=hs.length
 srt:Srt l
 le:∀j∈l,j≤t.mask
 fill:l.length≤t.mask
 met:∀(i j:Nat) (h:Int),l[i]? = some j→hs[i]? = some h→∃n,at_ t.mask h n=j∧∀k,k < n→at_ t.mask h k∈l
theorem range_len:∀(n:Nat) (l:List Nat),(∀j,j < n→j∈l)→n≤l.length
 | 0,_,_=>Nat.zero_le _
 | n+1,l,h=>by
  have h1:=range_len n (l.erase n) (fun j hj=>(List.mem_erase_of_ne (by omega)).mpr (h j (by omega)))
  have h2:=h n (by omega)
  rw [List.length_erase_of_mem h2] at h1
  have h3:=List.length_pos_of_mem h2
  omega
theorem some_free{l:List Nat}{m:Nat}(h:l.length≤m):∃j,j < m+1∧j∉l:=by
 by_cases hx:∃j,j < m+1∧j∉l
 ·exact hx
 ·exfalso
  have hall:∀j,j < m+1→j∈l:=fun j hj=>Classical.byContradiction fun hn=>hx ⟨j,hj,hn⟩
  have:=range_len (m+1) l hall
  omega
theorem Lain.search {t : SetTable} {l : List Nat} {hs : List Int} (L : Lain t l hs) (hashAt : Nat → Int) (ha : ∀ (i : Nat) (h : Int), hs[i]? = some h → hashAt i = h) (h : Int) (n0 : Nat) :
    ∃ n, n0 ≤ n ∧ (∀ k, n0 ≤ k → k < n → ∃ i : Nat, l[i]? = some (at_ t.mask h k) ∧ hs[i]? ≠ some h) ∧
      ((at_ t.mask h n ∉ l ∧ t.probe hashAt h (wlk t.mask n0 (st t.mask h)) = some (.empty (at_ t.mask h n) none)) ∨
       (∃ i : Nat, l[i]? = some (at_ t.mask h n) ∧ hs[i]? = some h ∧ t.probe hashAt h (wlk t.mask n0 (st t.mask h)) = some (.candidate (at_ t.mask h n) i (wlk t.mask (n + 1) (st t.mask h))))) := by
  obtain ⟨j, hj, hjl⟩ := some_free L.fill
  obtain ⟨nf, hf, ef⟩ := hits L.full (p := wlk t.mask n0 (st t.mask h)) (wlk_more _ _ (st_more _ _)) (wlk_perturb _ _ (st_perturb _ _)) hj
  obtain ⟨n, _, h1, h2⟩ := probe_go (t := t) (slot_not_dummy L.place L.nodum L.srt) hashAt h (10 * turns t.mask) (wlk t.mask n0 (st t.mask h)) ⟨nf, hf, by rw [ef]; exact slot_empty L.place L.nodum hjl⟩
  have ew : ∀ k, (wlk t.mask k (wlk t.mask n0 (st t.mask h))).j = at_ t.mask h (n0 + k) := fun k => by unfold at_; rw [wlk_add]
  refine ⟨n0 + n, by omega, ?_, ?_⟩
  · intro k hk1 hk2
    obtain ⟨i, g1, g2⟩ := h1 (k - n0) (by omega)
    rw [ew, show n0 + (k - n0) = k by omega] at g1
    exact ⟨i, slot_of_live L.place L.nodum L.srt g1, fun e => g2 (ha i h e)⟩
  · rcases h2 with ⟨a, b⟩ | ⟨i, a, b, c⟩
    · rw [ew] at a b
      exact .inl ⟨slot_of_empty L.place L.srt a, by rw [SetTable.probe, b, wlk_dummy]; rfl⟩
    · rw [ew] at a c
      have hi := slot_of_live L.place L.nodum L.srt a
      refine .inr ⟨i, hi, ?_, ?_⟩
      · have hlt : i < hs.length := by rw [← L.size]; exact (List.getElem?_eq_some_iff.mp hi).1
        have e := ha i _ (List.getElem?_eq_getElem hlt)
        rw [List.getElem?_eq_getElem hlt, ← e, b]
      · rw [SetTable.probe, c, ← wlk_add, show n0 + (n + 1) = n0 + n + 1 by omega]
theorem Lain.ahead{t:SetTable}{l:List Nat}{hs:List Int}(L:Lain t l hs){h:Int}{n:Nat}(hn:at_ t.mask h n∉l){i:Nat}(hi:hs[i]? = some h):∃k,k < n∧l[i]? = some (at_ t.mask h k):=by
 have hlt:i < l.length:=by rw [L.size];exact (List.getElem?_eq_some_iff.mp hi).1
 obtain ⟨k,h1,h2⟩:=L.met i _ h (List.getElem?_eq_getElem hlt) hi
 refine ⟨k,?_,by rw [h1];exact List.getElem?_eq_getElem hlt⟩
 rcases Nat.lt_trichotomy k n with g | g | g
 ·exact g
 ·subst g;exact absurd (h1 ▸ List.getElem_mem hlt) hn
 ·exact absurd (h2 n g) hn
end L2
namespace L2
open PySem PySem.SetTable
theorem mem_ins{α : Type}{l:List α}{p:Nat}{x y : α}:y∈l.take p++x :: l.drop p↔y=x∨y∈l:=by
 rw [List.mem_append,List.mem_cons]
 constructor
 ·rintro (h | h | h)
  ·exact .inr (List.mem_of_mem_take h)
  ·exact .inl h
  ·exact .inr (List.mem_of_mem_drop h)
 ·rintro (h | h)
  ·exact .inr (.inl h)
  ·rw [← List.take_append_drop p l,List.mem_append] at h
   rcases h with h | h
   ·exact .inl h
   ·exact .inr (.inr h)
theorem get_ins{α : Type}{l:List α}{p:Nat}(hp:p≤l.length)(x : α)(i:Nat):(l.take p++x :: l.drop p)[i]? = if i < p then l[i]? else if i=p then some x else l[i - 1]?:=by
 have ht:(l.take p).length=p:=by rw [List.length_take];omega
 by_cases h1:i < p
 ·rw [if_pos h1,List.getElem?_append_left (by omega),List.getElem?_take,if_pos h1]
 ·rw [if_neg h1,List.getElem?_append_right (by omega),ht]
  by_cases h2:i=p
  ·rw [if_pos h2,h2,Nat.sub_self];rfl
  ·rw [if_neg h2,show i - p=(i - p - 1)+1 by omega,List.getElem?_cons_succ,List.getElem?_drop]
   congr 1;omega
theorem Lain.put{t:SetTable}{l:List Nat}{hs:List Int}(L:Lain t l hs){h:Int}{n:Nat}(hn:at_ t.mask h n∉l)(hk:∀k,k < n→at_ t.mask h k∈l)(hm:l.length+1≤t.mask) :
  ∃p,p≤l.length∧(t.put (at_ t.mask h n)).2=p∧Lain (t.put (at_ t.mask h n)).1 (l.take p++at_ t.mask h n :: l.drop p) (hs.take p++h :: hs.drop p)∧(t.put (at_ t.mask h n)).1.mask=t.mask∧(t.put (at_ t.mask h n)).1.led=t.led∧(t.put (at_ t.mask h n)).1.plain=t.plain∧(t.put (at_ t.mask h n)).1.moves=t.moves:=by
 have hb:=(below_spec L.srt (at_ t.mask h n)).1
 have hp2:(t.put (at_ t.mask h n)).2=below l.toArray (at_ t.mask h n):=by unfold SetTable.put;rw [L.place]
 have hp1:(t.put (at_ t.mask h n)).1 = { t with place:=(l.take (below l.toArray (at_ t.mask h n))++at_ t.mask h n :: l.drop (below l.toArray (at_ t.mask h n))).toArray }:=by
  unfold SetTable.put
  show ({ t with place:=_,dummies:=_ }:SetTable)=_
  rw [L.place,L.nodum,insertAt_list _ _ _ hb,if_neg (by simp [has,below,below.go])]
 refine ⟨below l.toArray (at_ t.mask h n),hb,hp2,?_,by rw [hp1],by rw [hp1],by rw [hp1],by rw [hp1]⟩
 rw [hp1]
 have hbh:below l.toArray (at_ t.mask h n)≤hs.length:=by rw [← L.size];exact hb
 refine ⟨L.full,rfl,L.nodum,?_,srt_ins L.srt hn,?_,?_,?_⟩
 ·simp only [List.length_append,List.length_cons,List.length_take,List.length_drop,L.size]
 ·intro j hj
  rcases mem_ins.mp hj with rfl | hj
  ·exact at_le _ _ _
  ·exact L.le j hj
 ·simp only [List.length_append,List.length_cons,List.length_take,List.length_drop]
  show _≤t.mask;omega
 ·intro i j h' hi hj
  rw [get_ins hb] at hi
  rw [get_ins hbh] at hj
  by_cases g1:i < below l.toArray (at_ t.mask h n)
  ·rw [if_pos g1] at hi hj
   obtain ⟨m,h1,h2⟩:=L.met i j h' hi hj
   exact ⟨m,h1,fun k hk=>mem_ins.mpr (.inr (h2 k hk))⟩
  ·rw [if_neg g1] at hi hj
   by_cases g2:i=below l.toArray (at_ t.mask h n)
   ·rw [if_pos g2] at hi hj
    cases hi;cases hj
    exact ⟨n,rfl,fun k hk'=>mem_ins.mpr (.inr (hk k hk'))⟩
   ·rw [if_neg g2] at hi hj
    obtain ⟨m,h1,h2⟩:=L.met (i - 1) j h' hi hj
    exact ⟨m,h1,fun k hk=>mem_ins.mpr (.inr (h2 k hk))⟩
theorem Lain.plain{t:SetTable}{l:List Nat}{hs:List Int}(L:Lain t l hs)(b:Bool):Lain { t with plain:=b } l hs:=⟨L.full,L.place,L.nodum,L.size,L.srt,L.le,L.fill,L.met⟩
theorem Lain.fresh(f m:Nat)(b:Bool):Lain (.fresh f m b) [] []:=⟨full7,rfl,rfl,rfl,List.Pairwise.nil,fun j h=>absurd h (by simp),Nat.zero_le _,fun i j h hi=>absurd hi (by simp)⟩
theorem run_at(m:Nat):∀(k:Nat) (p:Probe),k≤p.more→(wlk m k p).j=p.j+k∧(wlk m k p).more=p.more - k∧(wlk m k p).i=p.i∧(wlk m k p).perturb=p.perturb
 | 0,p,_=>⟨rfl,rfl,rfl,rfl⟩
 | k+1,p,h=>by
  rw [wlk,adv_more_pos (by omega)]
  obtain ⟨h1,h2,h3,h4⟩:=run_at m k { p with j:=p.j+1,more:=p.more - 1 } (by show k≤p.more - 1;omega)
  refine ⟨h1.trans ?_,h2.trans ?_,h3,h4⟩
  ·show p.j+1+k=p.j+(k+1);omega
  ·show p.more - 1 - k=p.more - (k+1);omega
theorem free_at(m:Nat)(owner:Array (Option Nat))(ho:owner.size=m+1):∀(fuel:Nat) (p:Probe),p.j=p.i→p.more=runEnd m p.i - p.i→p.j+p.more≤m →
  (∃a,a < fuel∧owner[(lps m a (p.i,p.perturb)).1]? = some none) →
  ∃n,layClean.free m owner fuel p.i p.perturb=some (wlk m n p).j∧owner[(wlk m n p).j]? = some none∧∀k,k < n→∃w,owner[(wlk m k p).j]? = some (some w)
 | 0,_,_,_,_,⟨_,h,_⟩=>absurd h (by omega)
 | fuel+1,p,hj,hmore,hle,⟨a,ha,hf⟩=>by
  have hlen:runEnd m p.i+1 - p.i=p.more+1:=by rw [hmore];unfold runEnd;split <;> omega
  unfold layClean.free
  rw [hlen]
  have hget:∀k,k≤p.more→∃w,owner[(wlk m k p).j]? = some w∧owner.getD (p.i+k) (some 0)=w:=by
   intro k hk
   obtain ⟨e1,_⟩:=run_at m k p hk
   have hlt:p.i+k < owner.size:=by rw [ho];omega
   refine ⟨owner[p.i+k],?_,?_⟩
   ·rw [e1,hj];exact Array.getElem?_eq_getElem hlt
   ·simp [Array.getD,hlt]
  cases hfd:(List.range (p.more+1)).find? (fun k=>(owner.getD (p.i+k) (some 0)).isNone) with
  | some k =>
   rw [List.find?_range_eq_some] at hfd
   obtain ⟨h1,h2,h3⟩:=hfd
   have hk:k≤p.more:=by have:=List.mem_range.mp h2;omega
   refine ⟨k,?_,?_,?_⟩
   ·obtain ⟨e1,_⟩:=run_at m k p hk
    show some (p.i+k)=_
    rw [e1,hj]
   ·obtain ⟨w,g1,g2⟩:=hget k hk
    rw [g1]
    rw [g2] at h1
    cases w with
    | none=>rfl
    | some w=>cases h1
   ·intro k' hk'
    obtain ⟨w,g1,g2⟩:=hget k' (by omega)
    have:=h3 k' hk'
    rw [g2] at this
    cases w with
    | none=>simp at this
    | some w=>exact ⟨w,g1⟩
  | none =>
   rw [List.find?_eq_none] at hfd
   have hall:∀k,k≤p.more→∃w,owner[(wlk m k p).j]? = some (some w):=by
    intro k hk
    obtain ⟨w,g1,g2⟩:=hget k hk
    have:=hfd k (List.mem_range.mpr (by omega))
    rw [g2] at this
    cases w with
    | none=>simp at this
    | some w=>exact ⟨w,g1⟩
   have hq:∃q,wlk m (p.more+1) p=q∧q.i=(lp m (p.i,p.perturb)).1∧q.perturb=(lp m (p.i,p.perturb)).2∧q.j=q.i∧q.more=runEnd m q.i - q.i∧q.j+q.more≤m:=by
    obtain ⟨e1,e2,e3,e4⟩:=run_at m p.more p (Nat.le_refl _)
    refine ⟨_,rfl,?_⟩
    rw [wlk_succ,adv_more_zero (by omega),e3,e4]
    refine ⟨rfl,rfl,rfl,rfl,?_⟩
    have hl:(lp m (p.i,p.perturb)).1 < m+1:=Nat.mod_lt _ (Nat.succ_pos _)
    show (lp m (p.i,p.perturb)).1+(runEnd m (lp m (p.i,p.perturb)).1 - (lp m (p.i,p.perturb)).1)≤m
    unfold runEnd;split <;> omega
   obtain ⟨q,hq0,hq1,hq2,hq3,hq4,hq5⟩:=hq
   have hne:a≠0:=by
    intro e
    subst e
    obtain ⟨w,hw⟩:=hall 0 (Nat.zero_le _)
    have e2:(wlk m 0 p).j=(lps m 0 (p.i,p.perturb)).1:=hj
    rw [e2,hf] at hw;cases hw
   obtain ⟨a',rfl⟩:∃a',a=a'+1:=⟨a - 1,by omega⟩
   obtain ⟨n,g1,g2,g3⟩:=free_at m owner ho fuel q hq3 hq4 hq5 ⟨a',by omega,by rw [hq1,hq2];exact hf⟩
   refine ⟨p.more+1+n,?_,?_,?_⟩
   ·rw [wlk_add,hq0,← g1,hq1,hq2];rfl
   ·rw [wlk_add,hq0];exact g2
   ·intro k hk
    by_cases g:k≤p.more
    ·exact hall k g
    ·obtain ⟨w,hw⟩:=g3 (k - (p.more+1)) (by omega)
     refine ⟨w,?_⟩
     rw [← hw,← hq0,← wlk_add,show p.more+1+(k - (p.more+1))=k by omega]
end L2
namespace L2
open PySem PySem.SetTable
structure Own (m:Nat) (H:List Int) (owner:Array (Option Nat)) (k:Nat):Prop where
 size:owner.size=m+1
 met:∀(j w:Nat),owner[j]? = some (some w)→w < k∧∃h,H[w]? = some h∧∃n,at_ m h n=j∧∀k',k' < n→∃w',owner[at_ m h k']? = some (some w')
 all:∀w,w < k→∃j:Nat,owner[j]? = some (some w)
 cnt:owner.toList.countP Option.isSome=k
theorem Own.zero(m:Nat)(H:List Int):Own m H (Array.replicate (m+1) none) 0:=by
 refine ⟨by simp,?_,fun w hw=>absurd hw (by omega),?_⟩
 ·intro j w h
  rw [Array.getElem?_replicate] at h
  split at h <;> simp at h
 ·simp [List.countP_replicate]
theorem Own.free{m:Nat}{H:List Int}{owner:Array (Option Nat)}{k:Nat}(O:Own m H owner k)(hk:k < m+1):∃j,j < m+1∧owner[j]? = some none:=by
 by_cases hx:∃j,j < m+1∧owner[j]? = some none
 ·exact hx
 ·exfalso
  have hall:∀x∈owner.toList,Option.isSome x=true:=by
   intro x hx'
   obtain ⟨j,hj,e⟩:=List.mem_iff_getElem.mp hx'
   cases x with
   | some w=>rfl
   | none =>
    have hj':j < owner.size:=by simpa using hj
    exact absurd ⟨j,by rw [← O.size];exact hj',by rw [Array.getElem?_eq_getElem hj'];simpa using e⟩ hx
  have h1:=List.countP_eq_length.mpr hall
  rw [O.cnt,Array.length_toList,O.size] at h1
  omega
theorem Own.step{m:Nat}(F:Full m){H:List Int}{owner:Array (Option Nat)}{k:Nat}(O:Own m H owner k)(hk:k < m+1){h:Int}(hh:H[k]? = some h) :
  ∃j,layClean.free m owner (turns m) (bits h % (m+1)) (bits h)=some j∧Own m H (owner.setIfInBounds j (some k)) (k+1):=by
 obtain ⟨j,hj,hf⟩:=O.free hk
 obtain ⟨c,hc,ec⟩:=F (lps m 13 ((st m h).i,(st m h).perturb)).1 (lps_lt m 12 _) j hj
 have z:(lps m 13 ((st m h).i,(st m h).perturb)).2=0:=by
  rw [lps_perturb]
  exact Nat.div_eq_of_lt (Nat.lt_of_lt_of_le (st_perturb m h) (by decide))
 have e:(lps m (13+c) ((st m h).i,(st m h).perturb)).1=j:=by
  rw [lps_add]
  have e2:lps m 13 ((st m h).i,(st m h).perturb)=((lps m 13 ((st m h).i,(st m h).perturb)).1,0):=Prod.ext rfl z
  rw [e2,lps_zero];exact ec
 obtain ⟨n,g1,g2,g3⟩:=free_at m owner O.size (turns m) (st m h) rfl rfl (st_le m h) ⟨13+c,by unfold turns;omega,by rw [e];exact hf⟩
 have hb:at_ m h n < owner.size:=by rw [O.size];have:=at_le m h n;omega
 have keep:∀(i w:Nat),owner[i]? = some (some w)→(owner.setIfInBounds (at_ m h n) (some k))[i]? = some (some w):=by
  intro i w hi
  rw [Array.getElem?_setIfInBounds]
  split
  ·rename_i e2
   subst e2
   exact absurd (hi.symm.trans g2) (by simp)
  ·exact hi
 have new:(owner.setIfInBounds (at_ m h n) (some k))[at_ m h n]? = some (some k):=by rw [Array.getElem?_setIfInBounds];simp [hb]
 refine ⟨at_ m h n,g1,by simp [O.size],?_,?_,?_⟩
 ·intro i w hi
  rw [Array.getElem?_setIfInBounds] at hi
  split at hi
  ·rename_i e2
   subst e2
   cases hi
   exact ⟨by omega,h,hh,n,rfl,fun k' hk'=>(g3 k' hk').elim fun w' hw'=>⟨w',keep _ _ hw'⟩⟩
  ·obtain ⟨h1,h',h2,n',h3,h4⟩:=O.met i w hi
   exact ⟨by omega,h',h2,n',h3,fun k' hk'=>(h4 k' hk').elim fun w' hw'=>⟨w',keep _ _ hw'⟩⟩
 ·intro w hw
  by_cases g:w=k
  ·exact ⟨at_ m h n,by rw [g];exact new⟩
  ·obtain ⟨i,hi⟩:=O.all w (by omega)
   exact ⟨i,keep i w hi⟩
 ·rw [Array.toList_setIfInBounds,List.countP_set (by simpa using hb),O.cnt]
  have e3:owner.toList[at_ m h n]'(by simpa using hb)=none:=by
   have:=(Array.getElem?_eq_getElem hb).symm.trans g2
   simpa using this
  rw [e3];simp
theorem Own.fold{m:Nat}(F:Full m){H:List Int}:∀(rest:List Int) (owner:Array (Option Nat)) (k:Nat),Own m H owner k→H.drop k=rest→H.length≤m+1→k≤H.length →
  ∃owner',rest.foldl (fun (acc:Option (Array (Option Nat)×Nat)) h=>do
   let (owner,k) ← acc
   let j ← layClean.free m owner (turns m) (bits h % (m+1)) (bits h)
   pure (owner.setIfInBounds j (some k),k+1)) (some (owner,k))=some (owner',H.length)∧Own m H owner' H.length
 | [],owner,k,O,hd,_,hk=>by
  have:H.length≤k:=by simpa using hd
  have e:k=H.length:=by omega
  subst e
  exact ⟨owner,rfl,O⟩
 | h :: rest,owner,k,O,hd,hl,hk=>by
  have hh:H[k]? = some h:=by
   have:=congrArg (·[0]?) hd
   simpa using this
  have hlt:k < H.length:=(List.getElem?_eq_some_iff.mp hh).1
  obtain ⟨j,e1,O2⟩:=O.step F (by omega) hh
  obtain ⟨owner',e2,O3⟩:=Own.fold F rest _ (k+1) O2 (by rw [← List.drop_drop,hd];rfl) hl (by omega)
  refine ⟨owner',?_,O3⟩
  rw [List.foldl_cons,← e2]
  congr 1
  show (layClean.free m owner (turns m) (bits h % (m+1)) (bits h)).bind _=_
  rw [e1];rfl
theorem laid_spec{m:Nat}(F:Full m)(H:List Int)(hl:H.length≤m)(f mv:Nat)(led plain:Bool) :
  ∃(t:SetTable) (l ws:List Nat),SetTable.laid m f mv led plain H.toArray=some (t,ws.toArray)∧Lain t l (ws.map (H.getD · 0))∧(∀w∈ws,w < H.length)∧(∀w,w < H.length→w∈ws)∧ws.length=H.length∧t.mask=m∧t.led=led∧t.plain=plain:=by
 obtain ⟨owner,e,O⟩:=Own.fold F H _ 0 (Own.zero m H) rfl (by omega) (Nat.zero_le _)
 have ec:layClean m H.toArray=some owner:=by
  unfold layClean
  rw [← Array.foldl_toList]
  show Option.map _ (List.foldl _ _ H)=_
  exact (congrArg (Option.map (·.1)) e).trans rfl
 let live:=(List.range (m+1)).filterMap fun j=>(owner.getD j none).map (j,·)
 have gd:∀(j w:Nat),owner.getD j none=some w↔owner[j]? = some (some w):=by
  intro j w
  by_cases hj:j < owner.size
  ·rw [Array.getElem?_eq_getElem hj];simp [Array.getD,hj]
  ·rw [Array.getElem?_eq_none (by omega)];simp [Array.getD,hj]
 have hmem:∀(j w:Nat),(j,w)∈live↔owner[j]? = some (some w):=by
  intro j w
  show (j,w)∈(List.range (m+1)).filterMap _↔_
  rw [List.mem_filterMap]
  constructor
  ·rintro ⟨j',_,h2⟩
   obtain ⟨w',h3,h4⟩:=Option.map_eq_some_iff.mp h2
   cases h4
   exact (gd _ _).mp h3
  ·intro h
   refine ⟨j,List.mem_range.mpr ?_,by rw [(gd j w).mpr h];rfl⟩
   have:=(Array.getElem?_eq_some_iff.mp h).1
   rw [O.size] at this;exact this
 have hsrt:Srt (live.map (·.1)):=by
  unfold Srt
  rw [List.pairwise_map]
  refine List.Pairwise.filterMap _ ?_ List.pairwise_lt_range
  intro a a' haa b hb b' hb'
  obtain ⟨_,_,h3⟩:=Option.map_eq_some_iff.mp hb
  obtain ⟨_,_,h4⟩:=Option.map_eq_some_iff.mp hb'
  rw [← h3,← h4];exact haa
 have hlen:live.length=H.length:=by
  have gen:∀(xs:List Nat),(xs.filterMap fun j=>(owner.getD j none).map (j,·)).length=(xs.map fun j=>owner.getD j none).countP Option.isSome:=by
   intro xs
   induction xs with
   | nil=>rfl
   | cons x xs ih =>
    rw [List.filterMap_cons,List.map_cons,List.countP_cons]
    cases owner.getD x none with
    | none=>simpa using ih
    | some w=>simpa using ih
  have el:(List.range (m+1)).map (fun j=>owner.getD j none)=owner.toList:=by
   apply List.ext_getElem?
   intro i
   by_cases hi:i < m+1
   ·have hi':i < owner.size:=by rw [O.size];exact hi
    rw [List.getElem?_map,List.getElem?_range hi]
    simp [Array.getD,hi']
   ·rw [List.getElem?_eq_none (by simp;omega),List.getElem?_eq_none (by simp [O.size];omega)]
  show ((List.range (m+1)).filterMap _).length=_
  rw [gen,el,O.cnt]
 refine ⟨{ mask:=m,place:=(live.map (·.1)).toArray,dummies:=#[],finger:=f,led:=led,moves:=mv,plain:=plain },live.map (·.1),live.map (·.2),?_,?_,?_,?_,?_,rfl,rfl,rfl⟩
 ·unfold SetTable.laid
  rw [ec];rfl
 ·refine ⟨F,rfl,rfl,by simp,hsrt,?_,?_,?_⟩
  ·intro j hj
   obtain ⟨⟨j',w⟩,h1,h2⟩:=List.mem_map.mp hj
   cases h2
   have:=(Array.getElem?_eq_some_iff.mp ((hmem _ _).mp h1)).1
   rw [O.size] at this
   show j'≤m;omega
  ·show (live.map (·.1)).length≤m
   rw [List.length_map,hlen];exact hl
  ·intro i j h hi hj
   rw [List.getElem?_map] at hi
   rw [List.map_map,List.getElem?_map] at hj
   cases hx:live[i]? with
   | none=>rw [hx] at hi;cases hi
   | some x =>
    rw [hx] at hi hj
    obtain ⟨j',w⟩:=x
    cases hi
    obtain ⟨h1,h',h2,n,h3,h4⟩:=O.met j' w ((hmem _ _).mp (List.mem_of_getElem? hx))
    have eh:h=h':=by
     have e5:H.getD w 0=h:=by simpa using hj
     rw [List.getD_eq_getElem?_getD,h2] at e5
     exact e5.symm
    subst eh
    refine ⟨n,h3,fun k hk=>?_⟩
    obtain ⟨w',hw'⟩:=h4 k hk
    exact List.mem_map.mpr ⟨(_,w'),(hmem _ _).mpr hw',rfl⟩
 ·intro w hw
  obtain ⟨⟨j',w'⟩,h1,h2⟩:=List.mem_map.mp hw
  cases h2
  exact (O.met j' w' ((hmem _ _).mp h1)).1
 ·intro w hw
  obtain ⟨j,hj⟩:=O.all w hw
  exact List.mem_map.mpr ⟨(j,w),(hmem _ _).mpr hj,rfl⟩
 ·rw [List.length_map,hlen]
end L2
namespace L2
open PySem PySem.Spec PyProof.Rows
mutual
def hkP:Nat→PyData→Bool
 | _,.int _=>true
 | _,.str _=>true
 | 0,.tuple _=>false
 | n+1,.tuple xs=>hkPs n xs
 | _,_=>false
def hkPs:Nat→List PyData→Bool
 | _,[]=>true
 | n,x :: xs=>hkP n x && hkPs n xs
end
mutual
def hashP(w:World):PyData→Int
 | .int i=>hashInt i
 | .str x=>hashStr w x
 | .tuple xs=>reduceHash (Builtin.Tuple.tupleHashOf (hashPs w xs))
 | _=>0
def hashPs(w:World):List PyData→List Int
 | []=>[]
 | x :: xs=>hashP w x :: hashPs w xs
end
section
variable{prog:Program}{w:World}{E:Value→Shared→Prop}
set_option maxRecDepth 100000 in
mutual
theorem hash_rd:∀(n:Nat) (d:PyData) (v:Value) (A:Around) (s:Shared) (Q:Int→Shared→Prop) (as:List Addr),hkP n d=true→Reads s.heap v d as→A.units+n < cLine→(∀tk,Q (hashP w d) { s with toks:=tk })→wpAny (model prog w) A (pyHash v) Q E s
 | n,.int i,v,A,s,Q,as,_,r,hu,h=>by
  cases r
  exact wpAny_pyHash_int (by rw [hashP] at h;exact h _)
 | n,.str y,v,A,s,Q,as,_,r,hu,h=>by
  cases r
  exact wpAny_pyHash_str (by rw [hashP] at h;exact h _)
 | n+1,.tuple xs,v,A,s,Q,as,hk,r,hu,h=>by
  cases r with
  | @tuple a o vs m _ _ ho hc hd ra =>
   refine PySem.W.pyHash_slot (T:="tuple") ⟨_,ho,hc⟩ F.slot_tuple_hash F.entry_tuple_hash (F.args_tuple_hash_1 _) (beq_builtin_none _) (.inr (by omega)) ?_
   refine wpAny_bind (m:=Builtin.Tuple.tupleItemsOf (.ref a)) (wpAny_tupleItemsOf ho hd (wpAny_bind ?_));rw [← Array.forIn_toList]
   refine hash_rds n xs vs.toList A.in1 s #[] _ _ (by rw [hkP] at hk;exact hk) ra (by rw [Around.in1_units];omega) fun tk b hb=>?_
   refine (show wpAny _ _ (retInt (Builtin.Tuple.tupleHashOf b.toList)) _ _ _ from ?_);rw [hb]
   rw [hashP] at h;exact wpAny_bind (wpAny_mkInt (wpAny_pure ⟨_,_,rfl,h _⟩))
 | 0,.tuple xs,v,A,s,Q,as,hk,r,hu,h=>by rw [hkP] at hk;cases hk
 | n,.none,v,A,s,Q,as,hk,r,hu,h=>by cases n <;> (rw [hkP] at hk;cases hk;all_goals simp)
 | n,.bool _,v,A,s,Q,as,hk,r,hu,h=>by cases n <;> (rw [hkP] at hk;cases hk;all_goals simp)
 | n,.list _,v,A,s,Q,as,hk,r,hu,h=>by cases n <;> (rw [hkP] at hk;cases hk;all_goals simp)
 | n,.dict _,v,A,s,Q,as,hk,r,hu,h=>by cases n <;> (rw [hkP] at hk;cases hk;all_goals simp)
theorem hash_rds:∀(n:Nat) (ds:List PyData) (vs:List Value) (A:Around) (s:Shared) (b:Array Int) (Q:Array Int→Shared→Prop) (as:List Addr),hkPs n ds=true→ReadsAll s.heap vs ds as→A.units+n < cLine →
  (∀tk b',b'.toList=b.toList++hashPs w ds→Q b' { s with toks:=tk })→wpAny (model prog w) A (forIn vs b fun x r=>do let h ← pyHash x;pure PUnit.unit;pure (ForInStep.yield (r.push h))) Q E s
 | n,[],_,A,s,b,Q,_,_,.nil,_,h=>wpAny_pure (h s.toks b (by rw [hashPs,List.append_nil]))
 | n,d :: ds,_,A,s,b,Q,_,hk,.cons r rr,hu,h=>by
  rw [hkPs,Bool.and_eq_true] at hk
  rw [List.forIn_cons]
  refine wpAny_bind (wpAny_bind (hash_rd n d _ A s _ _ hk.1 r hu fun tk=>?_))
  refine wpAny_bind (wpAny_pure (wpAny_pure ?_))
  exact hash_rds n ds _ A _ _ Q _ hk.2 rr hu fun tk' b' hb=>h tk' b' (by rw [hb,hashPs];simp)
end
end
section
variable{prog:Program}{w:World}{A:Around}{E:Value→Shared→Prop}
theorem hk_val {n:Nat} {d:PyData} {v:Value} {h:Heap} {as:List Addr} (hk:hkP n d=true) (r:Reads h v d as):carriedByValue v=true∨∃a o vs m xs k,v = .ref a∧n=k+1∧d = .tuple xs∧h.get? a=some o∧o.cls = .type "tuple"∧o.data = .seq vs m∧ReadsAll h vs.toList xs as∧hkPs k xs=true:=by
 cases r with
 | int i t=>exact .inl rfl
 | str x t=>exact .inl rfl
 | none=>exact .inl rfl
 | bool b=>exact .inl rfl
 | tuple ho hc hd ra =>
  cases n with
  | zero=>rw [hkP] at hk;cases hk
  | succ k=>exact .inr ⟨_,_,_,_,_,k,rfl,rfl,rfl,ho,hc,hd,ra,by rw [hkP] at hk;exact hk⟩
 | list ho hc hd ra=>exfalso;cases n <;> simp [hkP] at hk
 | dict ho hc hd ra rb=>exfalso;cases n <;> simp [hkP] at hk
inductive AllV (p:Value→Prop):List Value→Prop
 | nil:AllV p []
 | cons {v:Value} {vs:List Value}:p v→AllV p vs→AllV p (v :: vs)
theorem rds_all{h:Heap}{n:Nat}:∀{vs:List Value} {ds:List PyData} {as:List Addr},ReadsAll h vs ds as→hkPs n ds=true→AllV (fun v=>∃d bs,hkP n d=true∧Reads h v d bs) vs
 | _,_,_,.nil,_=>.nil
 | _,_,_,.cons r rr,hk=>by
  rw [hkPs,Bool.and_eq_true] at hk
  exact .cons ⟨_,_,hk.1,r⟩ (rds_all rr hk.2)
theorem quiet_rd:∀(n:Nat) {d:PyData} {v:Value} {s:Shared} {Q:Bool→Shared→Prop} {as:List Addr},hkP n d=true→Reads s.heap v d as→Q true s→wpAny (model prog w) A (eqIsQuiet n v) Q E s:=by
 intro n
 induction n with
 | zero =>
  intro d v s Q as hk r q
  rcases hk_val hk r with hv | ⟨_,_,_,_,_,k,_,e,_⟩
  ·rw [eqIsQuiet_byValue _ hv];exact wpAny_pure q
  ·cases e
 | succ n ih =>
  intro d v s Q as hk r q
  rcases hk_val hk r with hv | ⟨a,o,vs,m,xs,k,rfl,e,rfl,ho,hc,hd,ra,hks⟩
  ·rw [eqIsQuiet_byValue _ hv];exact wpAny_pure q
  ·cases e
   have ty:s.TypeIs (.ref a) "tuple":=⟨o,ho,hc⟩
   unfold eqIsQuiet;refine wpAny_bind (wpAny_specialOf ty F.slot_tuple_eq.lookup ?_)
   refine (show wpAny _ _ (isInstance (.ref a) (.type "tuple") >>= _) _ _ s from wpAny_bind (wpAny_isInstance ty isSubtype_tuple_tuple ?_));simp only [Bool.not_true,Bool.false_eq_true,if_false]
   refine wpAny_bind (wpAny_seqItems ho hd (wpAny_bind ?_));rw [Option.getD_some,← Array.forIn_toList]
   refine wpAny_forIn_list _ (fun rest z s'=>z.1=none∧s'=s∧AllV (fun v=>∃d bs,hkP n d=true∧Reads s.heap v d bs) rest) _ ?_ ?_ _ _ ⟨rfl,rfl,rds_all ra hks⟩
   ·rintro v rest z s' ⟨_,rfl,al⟩
    cases al with
    | cons p al =>
     obtain ⟨d',bs,p1,p2⟩:=p
     refine wpAny_bind (ih p1 p2 ?_);simp only [Bool.not_true,Bool.false_eq_true,if_false]
     exact wpAny_pure ⟨rfl,rfl,al⟩
   ·rintro ⟨z1,z2⟩ s' ⟨hz,rfl,_⟩
    cases (show z1=none from hz)
    exact wpAny_pure q
theorem byvalue_any(n:Nat){v:Value}(h:carriedByValue v=true):∃b,hashByValue n v=pure b:=by
 cases v with
 | ref a=>cases h
 | _=>exact ⟨_,by cases n <;> (unfold hashByValue;rfl)⟩
theorem hbv_rd:∀(n m:Nat) {d:PyData} {v:Value} {s:Shared} {Q:Bool→Shared→Prop} {as:List Addr},hkP n d=true→n≤m→Reads s.heap v d as→(∀b,Q b s)→wpAny (model prog w) A (hashByValue m v) Q E s:=by
 intro n
 induction n with
 | zero =>
  intro m d v s Q as hk _ r q
  rcases hk_val hk r with hv | ⟨_,_,_,_,_,k,_,e,_⟩
  ·obtain ⟨b,e⟩:=byvalue_any m hv
   rw [e];exact wpAny_pure (q b)
  ·cases e
 | succ n ih =>
  intro m d v s Q as hk hm r q
  rcases hk_val hk r with hv | ⟨a,o,vs,m',xs,k,rfl,e,rfl,ho,hc,hd,ra,hks⟩
  ·obtain ⟨b,e⟩:=byvalue_any m hv
   rw [e];exact wpAny_pure (q b)
  ·cases e
   obtain ⟨m,rfl⟩:∃k,m=k+1:=⟨m - 1,by omega⟩
   have ty:s.TypeIs (.ref a) "tuple":=⟨o,ho,hc⟩
   unfold hashByValue;refine wpAny_bind (wpAny_specialOf ty F.slot_tuple_hash.lookup ?_)
   refine (show wpAny _ _ (seqItems? (.ref a) >>= _) _ _ s from wpAny_bind (wpAny_seqItems ho hd (wpAny_bind ?_)));rw [Option.getD_some,← Array.forIn_toList]
   refine wpAny_forIn_list _ (fun rest z s'=>z.1=none∧s'=s∧AllV (fun v=>∃d bs,hkP n d=true∧Reads s.heap v d bs) rest) _ ?_ ?_ _ _ ⟨rfl,rfl,rds_all ra hks⟩
   ·rintro v rest z s' ⟨_,rfl,al⟩
    cases al with
    | cons p al =>
     obtain ⟨d',bs,p1,p2⟩:=p
     refine wpAny_bind (ih m p1 (by omega) p2 fun b=>?_)
     cases b with
     | true =>
      simp only [Bool.not_true,Bool.false_eq_true,if_false]
      exact wpAny_pure ⟨rfl,rfl,al⟩
     | false =>
      simp only [Bool.not_false,if_true]
      exact wpAny_pure (wpAny_pure (q _))
   ·rintro ⟨z1,z2⟩ s' ⟨hz,rfl,_⟩
    cases (show z1=none from hz)
    exact wpAny_pure (q _)
theorem oac_byvalue(n:Nat){v:Value}(h:carriedByValue v=true):ofAClassStatement n v=pure false:=by
 cases v with
 | ref a=>cases h
 | _=>unfold ofAClassStatement;rfl
theorem oac_rd:∀(n:Nat) {d:PyData} {v:Value} {s:Shared} {Q:Bool→Shared→Prop} {as:List Addr},hkP n d=true→Reads s.heap v d as→Q false s→wpAny (model prog w) A (ofAClassStatement n v) Q E s:=by
 intro n
 induction n with
 | zero =>
  intro d v s Q as hk r q
  rcases hk_val hk r with hv | ⟨_,_,_,_,_,k,_,e,_⟩
  ·rw [oac_byvalue _ hv];exact wpAny_pure q
  ·cases e
 | succ n ih =>
  intro d v s Q as hk r q
  rcases hk_val hk r with hv | ⟨a,o,vs,m,xs,k,rfl,e,rfl,ho,hc,hd,ra,hks⟩
  ·rw [oac_byvalue _ hv];exact wpAny_pure q
  ·cases e
   have ty:s.TypeIs (.ref a) "tuple":=⟨o,ho,hc⟩
   unfold ofAClassStatement;refine wpAny_bind (wpAny_typeOf ty ?_)
   dsimp only;rw [if_pos (by decide)];refine wpAny_bind (wpAny_pure ?_);simp only [Bool.not_true,Bool.false_eq_true,if_false]
   refine wpAny_bind (wpAny_seqItems ho hd (wpAny_bind ?_));rw [← Array.forIn_toList]
   refine wpAny_forIn_list _ (fun rest z s'=>z.1=none∧s'=s∧AllV (fun v=>∃d bs,hkP n d=true∧Reads s.heap v d bs) rest) _ ?_ ?_ _ _ ⟨rfl,rfl,rds_all ra hks⟩
   ·rintro v rest z s' ⟨_,rfl,al⟩
    cases al with
    | cons p al =>
     obtain ⟨d',bs,p1,p2⟩:=p
     refine wpAny_bind (ih p1 p2 ?_);simp only [Bool.false_eq_true,if_false]
     exact wpAny_pure ⟨rfl,rfl,al⟩
   ·rintro ⟨z1,z2⟩ s' ⟨hz,rfl,_⟩
    cases (show z1=none from hz)
    exact wpAny_pure q
theorem seen_rd {x : Value} {dx : PyData} {s : Shared} {as : List Addr} {Q : Bool → Shared → Prop} (hx : hkP 8 dx = true) (rx : Reads s.heap x dx as) {ys : List Value} (hy : ∀ y ∈ ys, ∃ d bs, hkP 8 d = true ∧ Reads s.heap y d bs) (q : Q false s) : wpAny (model prog w) A (searchCouldBeSeen x ys) Q E s := by
  unfold searchCouldBeSeen
  refine wpAny_bind (wpAny_forIn_list _ (fun rest z s' => z.1 = none ∧ s' = s ∧ ∀ y ∈ rest, ∃ d bs, hkP 8 d = true ∧ Reads s.heap y d bs) _ ?_ ?_ _ _ ⟨rfl, rfl, hy⟩)
  · rintro y rest z s' ⟨_, rfl, al⟩
    obtain ⟨d', bs, p1, p2⟩ := al y List.mem_cons_self
    have al' : ∀ y ∈ rest, ∃ d bs, hkP 8 d = true ∧ Reads s'.heap y d bs := fun u hu => al u (List.mem_cons_of_mem _ hu)
    dsimp only
    split
    all_goals split
    all_goals first
      | exact wpAny_pure ⟨rfl, rfl, al'⟩
      | (refine wpAny_bind (quiet_rd 8 hx rx ?_); simp only [Bool.not_true, Bool.false_eq_true, if_false]
         refine wpAny_bind (quiet_rd 8 p1 p2 ?_); simp only [Bool.not_true, Bool.false_eq_true, if_false]
         refine wpAny_bind (oac_rd 8 hx rx ?_); simp only [Bool.false_eq_true, if_false]
         refine wpAny_bind (oac_rd 8 p1 p2 ?_); simp only [Bool.false_eq_true, if_false]
         exact wpAny_pure ⟨rfl, rfl, al'⟩)
  · rintro ⟨z1, z2⟩ s' ⟨hz, rfl, _⟩
    cases (show z1 = none from hz)
    exact wpAny_pure q
end
end L2
namespace L2
open PySem PySem.Spec PyProof.Rows
open PySem.W (Dat kqdP kqdOk)
theorem Lain.search' {t : SetTable} {l : List Nat} {hs : List Int} (L : Lain t l hs) {hashAt : Nat → Int} {h : Int} {n0 : Nat} {p : SetTable.Probe} {r : Option SetTable.Met} (hr : t.probe hashAt h p = r) (hp : p = wlk t.mask n0 (st t.mask h)) (ha : ∀ (i : Nat) (h : Int), hs[i]? = some h → hashAt i = h) :
    ∃ n, n0 ≤ n ∧ (∀ k, n0 ≤ k → k < n → ∃ i : Nat, l[i]? = some (at_ t.mask h k) ∧ hs[i]? ≠ some h) ∧
      ((at_ t.mask h n ∉ l ∧ r = some (.empty (at_ t.mask h n) none)) ∨
       (∃ i : Nat, l[i]? = some (at_ t.mask h n) ∧ hs[i]? = some h ∧ r = some (.candidate (at_ t.mask h n) i (wlk t.mask (n + 1) (st t.mask h))))) := by
  subst hp; subst hr
  exact L.search hashAt ha h n0
theorem Lain.fits{t:SetTable}{l:List Nat}{hs:List Int}(L:Lain t l hs){n:Nat}(e:hs.length=n):t.fits n=true:=by
 have h1:t.place.size=n:=by rw [L.place,← e,← L.size];simp
 have h2:t.fill≤t.mask:=by
  unfold SetTable.fill;rw [L.place,L.nodum]
  have:=L.fill
  simpa using this
 simp [SetTable.fits,h1,h2]
def Good(d:Dat):Prop:=kqdOk 8 d=true∧hkP 8 (kqdP d)=true∧∃xs,kqdP d = .tuple xs
section
variable{prog:Program}{w:World}{A:Around}{E:Value→Shared→Prop}{s:Shared}
open Classical in
theorem eq_rd{x y:Value}{d e:Dat}{as bs:List Addr}{Q:Bool→Shared→Prop}(gd:Good d)(ge:Good e)(rx:Reads s.heap x (kqdP d) as)(ry:Reads s.heap y (kqdP e) bs)(hu:A.units+16 < cLine)(q:Q (decide (d=e)) s):wpAny (model prog w) A (eqBool x y) Q E s:=by
 have l1:=PySem.W.kqd_lay 8 d gd.1
 have l2:=PySem.W.kqd_lay 8 e ge.1
 refine SeqAt.eqBoolOverData prog w A E s x y _ _ as bs Q rx ry l1.1 l2.1 ?_ (by rw [eqv_dec gd.1 ge.1];exact q)
 have:=Nat.min_le_left (kqdP d).depth (kqdP e).depth
 omega
theorem rd_uniq{x:Value}{d e:Dat}{as bs:List Addr}{h:Heap}(gd:Good d)(ge:Good e)(rx:Reads h x (kqdP d) as)(ry:Reads h x (kqdP e) bs):d=e:=by
 have q:=(Reads.unique rx _ _ ry).1
 exact (PySem.W.kqd_eqv 8 d e 8 gd.1 ge.1).mp (by rw [← q];exact (PySem.W.kqd_eqv 8 d d 8 gd.1 gd.1).mpr rfl)
def Mb(w:World)(h:Heap)(e:Int×Value)(d:Dat):Prop:=Good d∧(∃as,Reads h e.2 (kqdP d) as)∧e.1=hashP w (kqdP d)
open Classical in
theorem search_rd{S:Addr}{o:Obj}{es:Array (Int×Value)}{ep:Nat}{t:SetTable}{l:List Nat}{x:Value}{d:Dat}{Q:SetFound→Shared→Prop}{nE:Nat}(ho:s.heap.get? S=some o)(hd:o.data = .set es ep t)
  (L:Lain t l (es.toList.map (·.1))) (hm:∀e∈es.toList,∃d,Mb w s.heap e d) (hg:t.gaveWay=false) (gx:Good d) {as:List Addr} (rx:Reads s.heap x (kqdP d) as) (hu:A.units+16 < cLine)
  (hE:at_ t.mask (hashP w (kqdP d)) nE∉l) (q1:(∃e∈es.toList,Mb w s.heap e d)→Q (.there none) s)
  (q2:∀n,at_ t.mask (hashP w (kqdP d)) n∉l→(∀k,k < n→at_ t.mask (hashP w (kqdP d)) k∈l)→(∀e∈es.toList,¬ Mb w s.heap e d)→Q (.free (at_ t.mask (hashP w (kqdP d)) n) false) s) :
  ∀(k n0 fuel:Nat) (stand:Option SetTable.Probe),nE - n0=k→n0≤nE→k < fuel→stand.getD (t.probeStart (hashP w (kqdP d)))=wlk t.mask n0 (st t.mask (hashP w (kqdP d)))→(∀j,j < n0→at_ t.mask (hashP w (kqdP d)) j∈l) →
   (∀(j i:Nat) (e:Int×Value),j < n0→l[i]? = some (at_ t.mask (hashP w (kqdP d)) j)→es.toList[i]? = some e→¬ Mb w s.heap e d) →
   wpAny (model prog w) A (setSearchFrom S x (hashP w (kqdP d)) true fuel stand) Q E s:=by
 have hf:t.fits es.size=true:=L.fits (by simp)
 intro k
 induction k using Nat.strongRecOn with
 | _ k ih =>
 intro n0 fuel stand hk hn hfu hst hin hne
 obtain ⟨fuel,rfl⟩:∃f,fuel=f+1:=⟨fuel - 1,by omega⟩
 unfold setSearchFrom
 refine wpAny_bind (wpAny_setState_of ho hd hf ?_);dsimp only;rw [hg];simp only [Bool.false_eq_true,if_false]
 have go:=fun (f:Nat→Int) (r:Option SetTable.Met) (hr:t.probe f (hashP w (kqdP d)) (stand.getD (t.probeStart (hashP w (kqdP d))))=r)=>L.search' (n0:=n0) hr hst
 split
 ·rename_i met hpr
  obtain ⟨n,g1,g2,g3⟩:=go _ _ hpr (fun i h' e=>by
   show (es[i]?.map (·.1)).getD 0=h'
   rw [List.getElem?_map,Array.getElem?_toList] at e
   rw [e];rfl)
  have hnE:n≤nE:=by
   rcases Nat.lt_or_ge nE n with z | z
   ·obtain ⟨i,z1,_⟩:=g2 nE hn z
    exact absurd (List.mem_of_getElem? z1) hE
   ·exact z
  have hin':∀j,j < n→at_ t.mask (hashP w (kqdP d)) j∈l:=by
   intro j hj
   rcases Nat.lt_or_ge j n0 with z | z
   ·exact hin j z
   ·obtain ⟨i,z1,_⟩:=g2 j z hj
    exact List.mem_of_getElem? z1
  have hne':∀(j i:Nat) (e:Int×Value),j < n→l[i]? = some (at_ t.mask (hashP w (kqdP d)) j)→es.toList[i]? = some e→¬ Mb w s.heap e d:=by
   intro j i e hj hi he
   rcases Nat.lt_or_ge j n0 with z | z
   ·exact hne j i e z hi he
   ·obtain ⟨i',z1,z2⟩:=g2 j z hj
    intro mb
    have hii:i'=i:=by
     rcases Nat.lt_trichotomy i' i with y | y | y
     ·have:=List.pairwise_iff_getElem.mp L.srt i' i (List.getElem?_eq_some_iff.mp z1).1 (List.getElem?_eq_some_iff.mp hi).1 y
      rw [(List.getElem?_eq_some_iff.mp z1).2,(List.getElem?_eq_some_iff.mp hi).2] at this;omega
     ·exact y
     ·have:=List.pairwise_iff_getElem.mp L.srt i i' (List.getElem?_eq_some_iff.mp hi).1 (List.getElem?_eq_some_iff.mp z1).1 y
      rw [(List.getElem?_eq_some_iff.mp z1).2,(List.getElem?_eq_some_iff.mp hi).2] at this;omega
    subst hii
    exact z2 (by rw [List.getElem?_map,he,← mb.2.2];rfl)
  rcases g3 with ⟨y1,y2⟩ | ⟨i,y1,y2,y3⟩
  ·cases y2
   dsimp only
   refine wpAny_pure (q2 n y1 hin' fun e he mb=>?_)
   obtain ⟨i,hi⟩:=List.mem_iff_getElem?.mp he
   obtain ⟨j,z1,z2⟩:=L.ahead y1 (i:=i) (by rw [List.getElem?_map,hi,← mb.2.2];rfl)
   exact hne' j i e z1 z2 hi mb
  ·cases y3
   dsimp only
   obtain ⟨e,he⟩:∃e,es.toList[i]? = some e:=by
    rw [List.getElem?_map] at y2
    cases hq:es.toList[i]? with
    | none=>rw [hq] at y2;cases y2
    | some e=>exact ⟨e,rfl⟩
   have hea:es[i]? = some e:=by rw [← Array.getElem?_toList];exact he
   obtain ⟨de,mb⟩:=hm e (List.mem_of_getElem? he)
   obtain ⟨ge,⟨bs,re⟩,hh⟩:=id mb
   have seen:∀{Q':Bool→Shared→Prop},Q' false s→wpAny (model prog w) A (searchCouldBeSeen x ((es.filter (·.1 == hashP w (kqdP d))).toList.map (·.2))) Q' E s:=fun {Q'} q'=>by
    refine seen_rd gx.2.1 rx (fun y hy=>?_) q'
    obtain ⟨e',h1,h2⟩:=List.mem_map.mp hy
    obtain ⟨d',m1,⟨cs,m2⟩,_⟩:=hm e' (by
     have:=Array.mem_toList_iff.mp h1
     exact Array.mem_toList_iff.mpr (Array.mem_filter.mp this).1)
    exact ⟨_,cs,m1.2.1,by rw [← h2];exact m2⟩
   obtain ⟨e1,e2⟩:=e
   obtain ⟨a,ea⟩:∃a,e2 = .ref a:=by
    obtain ⟨xs,ex⟩:=ge.2.2
    have re':Reads s.heap e2 (kqdP de) bs:=re
    rw [ex] at re'
    cases re' with
    | tuple _ _ _ _=>exact ⟨_,rfl⟩
   cases ea
   by_cases hl:t.led=true
   all_goals simp only [hl,Bool.not_true,Bool.not_false,Bool.false_eq_true,if_false,if_true]
   ·skip
    rw [hea];dsimp only;refine wpAny_bind (wpAny_holding (eq_rd ge gx re rx hu (wpAny_bind (wpAny_setState_of ho hd hf ?_))));dsimp only
    by_cases hde:de=d
    ·rw [decide_eq_true hde];exact wpAny_pure (q1 ⟨_,List.mem_of_getElem? he,hde ▸ mb⟩)
    ·rw [decide_eq_false hde];simp only [Bool.and_false,Bool.false_eq_true,if_false]
     rw [show t.sameMemory t.moves t.mask=some true by simp [SetTable.sameMemory]];dsimp only;rw [if_pos rfl,slot_live L.place L.srt y1];dsimp only;rw [hea];dsimp only
     refine wpAny_bind (wpAny_isSame_ref_self (wpAny_bind (wpAny_pure ?_)));rw [if_pos rfl];dsimp only
     have hnn:n < nE:=by
      rcases Nat.lt_or_ge n nE with z | z
      ·exact z
      ·have:n=nE:=by omega
       subst this;exact absurd (List.mem_of_getElem? y1) hE
     refine ih (nE - (n+1)) (by omega) (n+1) fuel _ rfl hnn (by omega) rfl ?_ ?_
     ·intro j hj
      rcases Nat.lt_or_ge j n with z | z
      ·exact hin' j z
      ·have:j=n:=by omega
       subst this;exact List.mem_of_getElem? y1
     ·intro j i' e' hj hi he' mb'
      rcases Nat.lt_or_ge j n with z | z
      ·exact hne' j i' e' z hi he' mb'
      ·have:j=n:=by omega
       subst this
       have hii:i'=i:=by have a1:=below_at L.srt hi;have a2:=below_at L.srt y1;omega
       subst hii
       rw [he] at he';cases he'
       obtain ⟨_,⟨cs,c2⟩,_⟩:=mb'
       exact hde (rd_uniq ge gx re c2)
   ·refine wpAny_bind (seen ?_);simp only [Bool.false_eq_true,if_false]
    rw [hea];dsimp only;refine wpAny_bind (wpAny_holding (eq_rd ge gx re rx hu (wpAny_bind (wpAny_setState_of ho hd hf ?_))));dsimp only
    by_cases hde:de=d
    ·rw [decide_eq_true hde];exact wpAny_pure (q1 ⟨_,List.mem_of_getElem? he,hde ▸ mb⟩)
    ·rw [decide_eq_false hde];simp only [Bool.and_false,Bool.false_eq_true,if_false]
     rw [show t.sameMemory t.moves t.mask=some true by simp [SetTable.sameMemory]];dsimp only;rw [if_pos rfl,slot_live L.place L.srt y1];dsimp only;rw [hea];dsimp only
     refine wpAny_bind (wpAny_isSame_ref_self (wpAny_bind (wpAny_pure ?_)));rw [if_pos rfl];dsimp only
     have hnn:n < nE:=by
      rcases Nat.lt_or_ge n nE with z | z
      ·exact z
      ·have:n=nE:=by omega
       subst this;exact absurd (List.mem_of_getElem? y1) hE
     refine ih (nE - (n+1)) (by omega) (n+1) fuel _ rfl hnn (by omega) rfl ?_ ?_
     ·intro j hj
      rcases Nat.lt_or_ge j n with z | z
      ·exact hin' j z
      ·have:j=n:=by omega
       subst this;exact List.mem_of_getElem? y1
     ·intro j i' e' hj hi he' mb'
      rcases Nat.lt_or_ge j n with z | z
      ·exact hne' j i' e' z hi he' mb'
      ·have:j=n:=by omega
       subst this
       have hii:i'=i:=by have a1:=below_at L.srt hi;have a2:=below_at L.srt y1;omega
       subst hii
       rw [he] at he';cases he'
       obtain ⟨_,⟨cs,c2⟩,_⟩:=mb'
       exact hde (rd_uniq ge gx re c2)
 ·rename_i hpr
  exfalso
  cases hq:t.probe (fun i=>(es[i]?.map (·.1)).getD 0) (hashP w (kqdP d)) (stand.getD (t.probeStart (hashP w (kqdP d)))) with
  | some met=>exact hpr met hq
  | none =>
   obtain ⟨n,_,_,g3⟩:=go _ _ hq (fun i h' e=>by
    rw [List.getElem?_map,Array.getElem?_toList] at e
    show (es[i]?.map (·.1)).getD 0=h';rw [e];rfl)
   rcases g3 with ⟨_,y⟩ | ⟨_,_,_,y⟩ <;> cases y
end
end L2
namespace L2
open PySem PySem.Spec PyProof.Rows
open PySem.W (Dat kqdP kqdOk)
open Classical in
noncomputable def cntR:List Dat→Nat
 | []=>0
 | d :: ds=>cntR ds+if d∈ds then 0 else 1
noncomputable def cnt (ds:List Dat):Nat:=cntR ds.reverse
open Classical in
theorem cnt_snoc(ds:List Dat)(d:Dat):cnt (ds++[d])=cnt ds+if d∈ds then 0 else 1:=by
 unfold cnt
 rw [List.reverse_append]
 show cntR (d :: ds.reverse)=_
 rw [cntR]
 simp
theorem cntR_le:∀ds:List Dat,cntR ds≤ds.length
 | []=>Nat.le_refl _
 | d :: ds=>by
  have:=cntR_le ds
  rw [cntR,List.length_cons]
  split <;> omega
theorem cnt_le(ds:List Dat):cnt ds≤ds.length:=by have:=cntR_le ds.reverse;simpa [cnt] using this
theorem cntR_nodup:∀ds:List Dat,cntR ds=ds.length↔ds.Nodup
 | []=>by simp [cntR]
 | d :: ds=>by
  have h1:=cntR_le ds
  have h2:=cntR_nodup ds
  rw [cntR,List.length_cons,List.nodup_cons]
  split
  ·rename_i h
   constructor
   ·intro e;omega
   ·intro e;exact absurd h e.1
  ·rename_i h
   rw [← h2]
   constructor
   ·intro e;exact ⟨h,by omega⟩
   ·intro e;omega
theorem cnt_nodup(ds:List Dat):cnt ds=ds.length↔ds.Nodup:=by
 have:=cntR_nodup ds.reverse
 rw [List.length_reverse,(List.reverse_perm ds).nodup_iff] at this
 exact this
theorem Mb.at{w:World}{h h':Heap}{e:Int×Value}{d:Dat}(m:Mb w h e d)(k:∀b o,h.get? b=some o→h'.get? b=some o):Mb w h' e d:=by
 obtain ⟨g,⟨as,r⟩,x⟩:=m
 exact ⟨g,⟨as,Reads.keeps k r⟩,x⟩
theorem Mb.uniq{w:World}{h:Heap}{e:Int×Value}{d d':Dat}(m:Mb w h e d)(m':Mb w h e d'):d=d':=by
 obtain ⟨g,⟨as,r⟩,_⟩:=m
 obtain ⟨g',⟨as',r'⟩,_⟩:=m'
 exact rd_uniq g g' r r'
section
variable{prog:Program}{w:World}{A:Around}{E:Value→Shared→Prop}{s:Shared}
theorem put_at{h:Heap}{S:Addr}{o:Obj}{es:Array (Int×Value)}{ep:Nat}{t:SetTable}(es':Array (Int×Value))(t':SetTable)(e:h.get? S=some o)(hd:o.data = .set es ep t)(x:o.ExactSet) :
  ∃o',(h.update S (Obj.putSet es' t')).get? S=some o'∧o'.ExactSet∧o'.data = .set es' (ep+1) t':=by
 have z:Obj.putSet es' t' o = { o with data:=.set es' (ep+1) t' }:=putSet_of es' t' hd
 refine ⟨_,Heap.get?_update_self (Obj.putSet es' t') e (by rw [z];rfl),?_,by rw [z]⟩
 rw [z];exact x
end
end L2
namespace L2
open PySem PySem.Spec PyProof.Rows
open PySem.W (Dat kqdP kqdOk)
section
variable{prog:Program}{w:World}{A:Around}{R:Result→Shared→Prop}{I:Addr}{fp wr:List Addr}{n:Nat}{P:Nat→Value→Prop}{St:Nat→Heap→Prop}
theorem set_loop(W:Walks prog w A.in1 I fp wr n P St)(S:Addr)(nS:S∉fp)(Z:Nat→Heap→Prop)(zk:∀i h h',Z i h→(∀b o,b∉wr→h.get? b=some o→h'.get? b=some o)→Z i h')
  (za:∀i v (s:Shared) (Q:Bool→Shared→Prop) (E:Value→Shared→Prop),i < n→P i v→Z i s.heap→(∀r h' tk,Z (i+1) h'→(∀b,b≠S→h'.get? b=s.heap.get? b)→Q r { s with heap:=h',toks:=tk })→wpAny (model prog w) A.in1 (setAdd S v) Q E s) :
  ∀(k i:Nat) (s:Shared),n - i=k→i≤n→St i s.heap→Z i s.heap→(∀h' tk,Z n h'→(∀b o,b∉S :: wr→s.heap.get? b=some o→h'.get? b=some o)→R (.ok (.ret .none)) { s with heap:=h',toks:=tk }) →
   codeAny (model prog w) A (.builtin "set.update.loop" ⟨[.ref S,.ref I],[]⟩) R s:=by
 have nw:S∉wr:=fun h=>nS (W.sub _ h)
 intro k
 induction k with
 | zero =>
  intro i s hk hi hst hz hR
  obtain rfl:i=n:=by omega
  refine codeAny_builtin F.entry_set_update_loop ?_;rw [Around.under_plainId F.plain_set_update_loop _]
  refine (show wpAny _ A.in1 (pyNext (.ref I) >>= _) _ _ s from wpAny_bind (W.done s _ _ hst fun h' tk hm=>?_))
  refine (show wpAny _ A.in1 (ret Value.none) _ _ _ from wpAny_pure (hR h' tk (zk _ _ _ hz hm) fun b o hb e=>hm b o (fun z=>hb (List.mem_cons_of_mem _ z)) e))
 | succ k ih =>
  intro i s hk hi hst hz hR
  have hlt:i < n:=by omega
  refine codeAny_builtin F.entry_set_update_loop ?_;rw [Around.under_plainId F.plain_set_update_loop _]
  refine (show wpAny _ A.in1 (pyNext (.ref I) >>= _) _ _ s from wpAny_bind (W.item i s _ _ hlt hst fun v h' tk hP hst' hm=>?_))
  refine (show wpAny _ A.in1 (holding [v] (setAdd S v) >>= _) _ _ _ from wpAny_bind (wpAny_holding (za i v _ _ _ hlt hP (zk _ _ _ hz hm) fun r h2 tk2 z2 k2=>?_)))
  refine wpAny_pure ⟨plainId_quiet F.plain_set_update_loop _,ih (i+1) _ (by omega) hlt (W.frame _ _ _ hst' fun b hb o e=>?_) z2 fun h3 tk3 z3 k3=>hR h3 tk3 z3 fun b o hb e=>?_⟩
  ·exact (k2 b fun z=>nS (z ▸ hb)).trans e
  ·refine k3 b o hb ((k2 b fun z=>hb (z ▸ List.mem_cons_self)).trans (hm b o (fun z=>hb (List.mem_cons_of_mem _ z)) e))
end
namespace F
theorem sub_tuple_set:isSubtype (.type "tuple") (.type "set")=pure false:=by rw [isSubtype_type];kernel_rfl
theorem sub_tuple_frozenset:isSubtype (.type "tuple") (.type "frozenset")=pure false:=by rw [isSubtype_type];kernel_rfl
end F
section
variable{prog:Program}{w:World}{A:Around}{E:Value→Shared→Prop}{s:Shared}
theorem Kn.walks(k:Kn)(hh:A.handled=none)(I ax:Addr)(hne:ax≠I)(items:Array Value):Walks prog w A I [I,ax] [I] items.size (fun i v=>items[i]? = some v) (fun i h=>k.it h I ax i∧k.seq h ax items):=by
 cases k
 ·exact Walks.list hh I ax hne items
 ·exact Walks.tuple hh I ax hne items
def sob (led:Bool):Obj:={ cls:=.type "set",dict:=none,data:=.set #[] 0 (.fresh 0 0 led) }
set_option maxRecDepth 100000 in
set_option maxHeartbeats 3200000 in
theorem set_call(k:Kn){l:Addr}{items:Array Value}{Q:Value→Shared→Prop}(hh:A.handled=none)(hl:k.seq s.heap l items)(Z:Nat→Heap→Prop)
  (z0:∀led h,h.get? s.heap.objs.size=some (sob led)→(∀b o,s.heap.get? b=some o→h.get? b=some o)→Z 0 h) (zk:∀i h h',Z i h→(∀b o,b≠s.heap.objs.size+1→h.get? b=some o→h'.get? b=some o)→Z i h')
  (za:∀(A':Around) i v (s':Shared) (Q:Bool→Shared→Prop) (E:Value→Shared→Prop),A'.units≤A.units+8→i < items.size→items[i]? = some v→Z i s'.heap→(∀r h' tk,Z (i+1) h'→(∀b,b≠s.heap.objs.size→h'.get? b=s'.heap.get? b)→Q r { s' with heap:=h',toks:=tk })→wpAny (model prog w) A' (setAdd s.heap.objs.size v) Q E s')
  (q:∀h' tk,Z items.size h'→(∀b o,b < s.heap.objs.size→s.heap.get? b=some o→h'.get? b=some o)→Q (.ref s.heap.objs.size) { s with heap:=h',toks:=tk }):wpAny (model prog w) A (call (.type "set") [.ref l]) Q E s:=by
 obtain ⟨c,tl,hmro⟩:=F.called_set.mro;have hmade:=F.called_set.made;have hsub:=F.called_set.sub
 refine wpAny_call (codeAny_of_tree ?_);show wpAny _ _ (callAny (.type "set") _) _ _ _
 refine wpAny_pure ⟨Code.quiet_builtin _ (by decide +kernel),codeAny_builtin F.entry_type_call ?_⟩;rw [Around.under_plain (weight_type_call_type "set" [.ref l] []) rfl]
 have h1:=F.called_set.notType;have h2:=F.called_set.canCreate;have hct:=F.typeCall_set_1 (.ref l)
 repeat (any_goals (first | assumption | wp_step))
 refine codeAny_mono (code_set_new_1 (.ref l) (E:=E) (Q₁:=fun obj s₁=>∃led:Bool,obj = .ref s.heap.objs.size∧s₁ = { s with heap:=s.heap.push (sob led) }) fun led=>⟨led,rfl,rfl⟩) fun r s₁ hr=>?_
 cases r with
 | error e=>exact hr
 | ok fl =>
  cases fl with
  | ret obj =>
   obtain ⟨led,rfl,rfl⟩:=hr
   have hS:(s.heap.push (sob led)).get? s.heap.objs.size=some (sob led):=Heap.get?_push_size _ rfl
   have hT:Shared.TypeIs { s with heap:=s.heap.push (sob led) } (.ref s.heap.objs.size) "set":=⟨_,hS,rfl⟩
   have hli:=F.called_set.init.lookup;have hbi:=F.called_set.init.bind (.ref s.heap.objs.size)
   repeat (any_goals (first | assumption | wp_step))
   refine codeAny_mono (codeAny_call_builtin (R:=wants (fun r s₂=>r = .none∧∃h' tk,s₂ = { s with heap:=h',toks:=tk }∧Z items.size h'∧(∀b o,b < s.heap.objs.size→s.heap.get? b=some o→h'.get? b=some o)) E) F.called_set.init.plain F.entry_set_init (check_set_init_1 hT ?_)) fun r₂ s₂ hr₂=>?_
   ·have hlt:l < s.heap.objs.size:=k.lt hl
    have hl1:k.seq (s.heap.push (sob led)) l items:=k.seqAt hl fun o e=>Heap.get?_push_of_some _ e
    have nI:l≠(s.heap.push (sob led)).objs.size:=by rw [Heap.size_push];exact Nat.ne_of_lt (Nat.lt_succ_of_lt hlt)
    have nS:s.heap.objs.size∉[(s.heap.push (sob led)).objs.size,l]:=by
     rw [Heap.size_push];simp only [List.mem_cons,List.not_mem_nil,or_false,not_or];exact ⟨Nat.ne_of_lt (Nat.lt_succ_self _),Nat.ne_of_gt hlt⟩
    have fin:∀(A':Around) (R':Result→Shared→Prop),A'.in1.handled=none→A'.in1.units≤A.units+8→(∀h' tk,Z items.size h'→(∀b o,b < s.heap.objs.size→s.heap.get? b=some o→h'.get? b=some o)→R' (.ok (.ret .none)) { s with heap:=h',toks:=tk }) →
      codeAny (model prog w) A' (.builtin "set.update.loop" ⟨[.ref s.heap.objs.size,.ref (s.heap.push (sob led)).objs.size],[]⟩) R' { s with heap:=(s.heap.push (sob led)).push (k.obj l) }:=by
     intro A' R' ha hu hR
     refine set_loop (k.walks ha _ l nI items) s.heap.objs.size nS Z (fun i h h' z kp=>zk i h h' z fun b o hb e=>kp b o (by rw [Heap.size_push];simpa using hb) e) (fun i v s' Q' E' hi hv hz hq=>za _ i v s' Q' E' hu hi hv hz hq) (items.size - 0) 0 _ rfl (Nat.zero_le _) ⟨k.it0 _ l,k.seqAt hl1 fun o e=>Heap.get?_push_of_some _ e⟩ (z0 led _ (Heap.get?_push_of_some _ hS) fun b o e=>Heap.get?_push_of_some _ (Heap.get?_push_of_some _ e)) fun h' tk z kp=>hR h' tk z fun b o hb e=>kp b o ?_ (Heap.get?_push_of_some _ (Heap.get?_push_of_some _ e))
     rw [Heap.size_push];simp only [List.mem_cons,List.not_mem_nil,or_false,not_or];exact ⟨Nat.ne_of_lt hb,Nat.ne_of_lt (Nat.lt_succ_of_lt hb)⟩
    cases k
    ·have hl2:(s.heap.push (sob led)).IsList l items:=hl1
     obtain ⟨ol,hol,hcl,nl,hdl⟩:=hl1;obtain ⟨ocls,odict,odata,oslots⟩:=ol
     simp only at hcl hdl;subst hcl;subst hdl
     have hsls:=F.sub_list_set;have hslf:=F.sub_list_frozenset;have hne:(Value.type "list" == Value.type "dict")=false:=by decide
     unfold Builtin.«set.__init__» noKeywords Builtin.Frozenset.updateFrom;generalize hPI:pyIter=PI;wp_walk;subst hPI
     refine Kn.iter .L hl2 (wpAny_bind (wpAny_runValue (fin _ _ (by simp [hh]) (by simp) fun h' tk z kp=>?_)))
     refine (show wpAny _ _ _ _ _ _ from wpAny_pure (show wpAny _ _ (ret Value.none) _ _ _ from wpAny_pure ⟨rfl,h',tk,rfl,z,kp⟩))
    ·have hl2:(s.heap.push (sob led)).IsTuple l items:=hl1
     obtain ⟨ol,hol,hcl,nl,hdl⟩:=hl1;obtain ⟨ocls,odict,odata,oslots⟩:=ol
     simp only at hcl hdl;subst hcl;subst hdl
     have hsls:=F.sub_tuple_set;have hslf:=F.sub_tuple_frozenset;have hne:(Value.type "tuple" == Value.type "dict")=false:=by decide
     unfold Builtin.«set.__init__» noKeywords Builtin.Frozenset.updateFrom;generalize hPI:pyIter=PI;wp_walk;subst hPI
     refine Kn.iter .T hl2 (wpAny_bind (wpAny_runValue (fin _ _ (by simp [hh]) (by simp) fun h' tk z kp=>?_)))
     refine (show wpAny _ _ _ _ _ _ from wpAny_pure (show wpAny _ _ (ret Value.none) _ _ _ from wpAny_pure ⟨rfl,h',tk,rfl,z,kp⟩))
   ·cases r₂ with
    | error e=>exact hr₂
    | ok fl₂ =>
     cases fl₂ with
     | ret r =>
      obtain ⟨rfl,h',tk,rfl,hz,hk'⟩:=hr₂
      repeat (any_goals (first | assumption | wp_step))
      exact q _ _ hz hk'
     | _=>exact hr₂.elim
  | _=>exact hr.elim
end
end L2
namespace L2
open PySem PySem.Spec PyProof.Rows
open PySem.W (Dat kqdP kqdOk)
def SizeIs(h:Heap)(S:Addr)(n:Nat):Prop:=∃o es ep t,h.get? S=some o∧o.ExactSet∧o.data = .set es ep t∧t.fits es.size=true∧es.size=n
def SetR(X:Cx)(r:V→Hp→(Nat→Hp→Prop)→Prop):Prop :=
 ∀(pins:List (Addr×Obj)) (s:Shared) (σ : St) (H:Hp) (x:V) (u:Value) (Q:Nat→Hp→Prop),Inv X pins σ H s→RelV x u→r x H Q →
  wpAny (model X.prog X.w) X.A (call (.type "set") [u]) (fun v s'=>∃S n,v = .ref S∧SizeIs s'.heap S n∧Inv X pins σ H s'∧Q n H) X.xe s
theorem none_at(h:Heap):h.get? h.objs.size=none:=by
 cases e:h.get? h.objs.size with
 | none=>rfl
 | some o=>exact absurd (Heap.lt_size e) (Nat.lt_irrefl _)
def tLenSet(r:V→Hp→(Nat→Hp→Prop)→Prop)(te:TE):TE:=fun σ H Q=>te σ H fun x H1=>r x H1 fun n H2=>(n:Int) < 2 ^ 63∧Q (.int n) H2
theorem bb_set:bootBuiltins "set" = some (.type "set"):=by decide +kernel
theorem pe_lenset {X:Cx} {r:V→Hp→(Nat→Hp→Prop)→Prop} {e:Expr} {te:TE} {p p2 pos pos2:Pos} (hr:SetR X r) (hgl:Gl X "len") (hml:X.mg "len" = none) (hgs:Gl X "set") (hms:X.mg "set" = none) (he:PE X e te)
  (hs:starEach [e] X.env=[(false,eval e X.env)]:=by rfl) (hs2:starEach [Expr.Call (.Name "set" p2) [e] [] pos2] X.env=[(false,eval (.Call (.Name "set" p2) [e] [] pos2) X.env)]:=by rfl) :
  PE X (.Call (.Name "len" p) [.Call (.Name "set" p2) [e] [] pos2] [] pos) (tLenSet r te):=by
 intro pins s σ H Q I h
 refine wpAny_Call_Name_kw (ld_blt I hgl hml bb_len ?_)
 refine PyProof.Rows.callWith_builtin1 ?_ hs2 rfl
 rw [hs2]
 refine (show wpAny _ _ (spliced ((false,eval (.Call (.Name "set" p2) [e] [] pos2) X.env) :: backTo pos [])) _ _ s from Calls.spliced_cons ?_)
 refine wpAny_Call_Name_kw (ld_blt I hgs hms bb_set ?_)
 refine PyProof.Rows.callWith_type1 ?_ hs rfl
 rw [hs]
 refine (show wpAny _ _ (spliced ((false,eval e X.env) :: backTo pos2 [])) _ _ s from Calls.spliced_cons (thn (he pins s σ H _ I h) fun u s1 ⟨x,H1,I1,r1,q1⟩=>Calls.spliced_nil ?_))
 refine thn (hr pins s1 σ H1 x u _ I1 r1 q1) fun v s2 ⟨S,n,ev,sz,I2,z,q2⟩=>Calls.spliced_nil ?_
 obtain ⟨o,es,ep,t,ho,hx,hd,hf,c⟩:=sz
 cases ev
 refine PySem.call_len_set ho hx hd hf (by rw [c];exact z) ⟨.int n,H1,I2.kept (t':=s2.toks+1+1) (fun _ _ z=>z),⟨_,by rw [c]⟩,q2⟩
end L2
namespace L2
open PySem PySem.Spec PyProof.Rows
theorem bb_enumerate:bootBuiltins "enumerate" = some (.type "enumerate"):=by decide +kernel
section
variable{X:Cx}
end
section
variable{K:PySem.W.Frag}{te:TE}{tc:TT}{σ : St}{Q:VK}{H:Hp}{D:Ends}
end
end L2
namespace L2
open PySem PySem.Spec PyProof.Rows
section
variable{X:Cx}
end
section
variable{prog:Program}{w:World}{A:Around}{E:Value→Shared→Prop}{s:Shared}
end
section
variable{X:Cx}{tg:Expr}
end
section
variable{K:PySem.W.Frag}{σ : St}{Q:VK}{H:Hp}{D:Ends}
end
open PySem.W (Dat kqdOk kqdP kqdPs)
section
variable{K:PySem.W.Frag}{σ : St}{Q:VK}{H:Hp}{td ty:TE}{D:Ends}
theorem k_dnotIn(h:ty σ H fun y H1=>td σ H1 fun x H2=>∃a o,x = .ref a∧DGet H2 a y o∧Q (.bl (!o.isSome)) H2):tDNotIn ty td σ H Q:=h
end
end L2
namespace L2
open PySem PySem.Spec PyProof.Rows
open PySem.W (Dat kqdOk kqdP kqdPs)
section
variable{K:PySem.W.Frag}{te:TE}{tc:TT}{σ : St}{Q:VK}{H:Hp}
end
section
variable{X:Cx}
end
end L2
namespace L2
open PySem PySem.Spec PyProof.Rows
section
variable{X:Cx}{ys M:List Str}{scope:Scope}{C:Addr}{s:Shared}{H:Hp}{fp:List Addr}{pins:List (Addr×Obj)}{σ : St}
end
end L2
namespace Rk
def pt(r:List Int)(p:Nat):Int:=r.getD p 0
end Rk
namespace Dn
open Rk
abbrev Tp:=List Int×List Int
def can(t:Tp)(c:List Int):Bool:=(List.zip t.1 c).all fun z=>decide (z.1≤z.2)
def beh(t:Tp)(c:List Int):List Int:=(List.range c.length).map fun k=>pt c k - pt t.1 k+pt t.2 k
theorem can_le{t:Tp}{c:List Int}{k:Nat}(h:can t c=true)(h1:k < t.1.length)(h2:k < c.length):pt t.1 k≤pt c k:=by
 unfold can at h
 rw [List.all_eq_true] at h
 have:=h (t.1[k],c[k]) (by
  rw [List.mem_iff_getElem]
  exact ⟨k,by rw [List.length_zip];omega,by rw [List.getElem_zip]⟩)
 unfold pt
 rw [List.getD_eq_getElem?_getD,List.getElem?_eq_getElem h1,List.getD_eq_getElem?_getD,List.getElem?_eq_getElem h2]
 simpa using this
end Dn
namespace L2
open PySem PySem.Spec PyProof.Rows
open PySem.W (Dat KasT kas_sort kas_ask KatLex KatTups)
section
variable{prog:Program}{w:World}{A:Around}{E:Value→Shared→Prop}{s:Shared}
end
section
variable{X:Cx}
end
end L2
namespace L2
open PySem PySem.Spec PyProof.Rows
abbrev IsTrio (h:Heap) (T:Addr) (a b c:Value):Prop:=h.get? T=some { cls:=.type "tuple",data:=.seq #[a,b,c] }
structure ZAp3 (z TI TO i1 i2 i3 l1 l2 l3:Addr):Prop where
 a:i1 < i2
 a':i2 < i3
 b:i3 < TI
 c:TI < TO
 d:TO < z
 e:l1 < i1
 f:l2 < i1
 g:l3 < i1
theorem zap_nat3{z TI TO i1 i2 i3 l1 l2 l3:Nat}(a:i1 < i2)(a':i2 < i3)(b:i3 < TI)(c:TI < TO)(d:TO < z)(e:l1 < i1)(f:l2 < i1)(g:l3 < i1) :
  (i1≠z∧i2≠z∧i3≠z∧TO≠i1∧TO≠i2∧TO≠i3∧TO≠z∧TI≠z∧TI≠TO∧TI≠i1∧TI≠i2∧TI≠i3∧i1≠i2∧i1≠i3∧i2≠i3)∧l1≠z∧l1≠TO∧l1≠i2∧l1≠i3∧l2≠z∧l2≠TO∧l2≠i1∧l2≠i3∧l3≠z∧l3≠TO∧l3≠i1∧l3≠i2:=by
 have kT:=Nat.lt_trans b c;have kz:=Nat.lt_trans kT d;have jI:=Nat.lt_trans a' b;have jT:=Nat.lt_trans a' kT;have jz:=Nat.lt_trans a' kz;have ik:=Nat.lt_trans a a';have iI:=Nat.lt_trans a jI;have iT:=Nat.lt_trans a jT;have iz:=Nat.lt_trans a jz;have tz:=Nat.lt_trans c d
 exact ⟨⟨Nat.ne_of_lt iz,Nat.ne_of_lt jz,Nat.ne_of_lt kz,Nat.ne_of_gt iT,Nat.ne_of_gt jT,Nat.ne_of_gt kT,Nat.ne_of_lt d,Nat.ne_of_lt tz,Nat.ne_of_lt c,Nat.ne_of_gt iI,Nat.ne_of_gt jI,Nat.ne_of_gt b,Nat.ne_of_lt a,Nat.ne_of_lt ik,Nat.ne_of_lt a'⟩,Nat.ne_of_lt (Nat.lt_trans e iz),Nat.ne_of_lt (Nat.lt_trans e iT),Nat.ne_of_lt (Nat.lt_trans e a),Nat.ne_of_lt (Nat.lt_trans e ik),Nat.ne_of_lt (Nat.lt_trans f iz),Nat.ne_of_lt (Nat.lt_trans f iT),Nat.ne_of_lt f,Nat.ne_of_lt (Nat.lt_trans f ik),Nat.ne_of_lt (Nat.lt_trans g iz),Nat.ne_of_lt (Nat.lt_trans g iT),Nat.ne_of_lt g,Nat.ne_of_lt (Nat.lt_trans g a)⟩
section
variable{prog:Program}{w:World}{A:Around}{E:Value→Shared→Prop}{s:Shared}{z TI TO i1 i2 i3 l1 l2 l3:Addr}{xs ys zs:Array Value}{S1 S2 S3:Nat→Heap→Prop}{k:Nat}
structure ZAt3 (z TI TO i1 i2 i3:Addr) (S1 S2 S3:Nat→Heap→Prop) (k:Nat) (h:Heap):Prop where
 z:IsZip h z TI TO .none
 i:IsTrio h TI (.ref i1) (.ref i2) (.ref i3)
 o:∃a b c,IsTrio h TO a b c
 s1:S1 k h
 s2:S2 k h
 s3:S3 k h
theorem up_trio {T:Addr} {a b c x:Value} {j:Nat} {Q:Unit→Shared→Prop} (hT:IsTrio s.heap T a b c) (q:∀h',h'.get? T=some { cls:=.type "tuple",data:=.seq ((#[a,b,c]:Array Value).setIfInBounds j x) }→Heap.SameBut T s.heap h'→Q () { s with heap:=h' }) :
  wpAny (model prog w) A (updateSeq T (·.setIfInBounds j x)) Q E s:=by
 refine wpAny_updateSeq hT rfl (q _ ?_ (Heap.SameBut.update ..));rw [Heap.get?_update_self _ hT rfl];simp [Obj.mapSeq]
theorem z_next3(D:ZAp3 z TI TO i1 i2 i3 l1 l2 l3)(W1:Drw prog w i1 l1 xs S1)(W2:Drw prog w i2 l2 ys S2)(W3:Drw prog w i3 l3 zs S3)(st:ZAt3 z TI TO i1 i2 i3 S1 S2 S3 k s.heap){Q:Option Value→Shared→Prop} :
  (∀x y y3,xs[k]? = some x→ys[k]? = some y→zs[k]? = some y3→(∀h',IsZip h' z TI TO (rawInt s.heap.objs.size)→IsTrio h' TI (.ref i1) (.ref i2) (.ref i3)→(∃a b c,IsTrio h' TO a b c)→S1 (k+1) h'→S2 (k+1) h'→S3 (k+1) h'→IsTrio h' s.heap.objs.size x y y3 →
   (∀c o,c∉[z,TI,TO,i1,i2,i3]→s.heap.get? c=some o→h'.get? c=some o)→Q (some (.ref s.heap.objs.size)) { s with heap:=h' })→wpAny (model prog w) A (pyNext (.ref z)) Q E s) ∧
  (A.handled=none→(xs[k]? = none∨ys[k]? = none∨zs[k]? = none)→(∀h',(∀c o,c∉[z,TI,TO,i1,i2,i3]→s.heap.get? c=some o→h'.get? c=some o)→Q none { s with heap:=h' })→wpAny (model prog w) A (pyNext (.ref z)) Q E s):=by
 obtain ⟨d1,d1',d2,d3,d4,d5,d6,d7⟩:=D
 obtain ⟨hz,hI,⟨a,b,c,hO⟩,t1,t2,t3⟩:=st
 have ty:s.TypeIs (.ref z) "zip":=⟨_,hz,rfl⟩
 obtain ⟨⟨n1,n2,n3,nO1,nO2,nO3,nOz,nIz,nIO,nI1,nI2,nI3,n12,n13,n23⟩,q1,q2,q3,q4,q5,q6,q7,q8,q9,qa,qb,qc⟩:=zap_nat3 d1 d1' d2 d3 d4 d5 d6 d7
 have m1:∀{c h h':_},c∈[z,TO,i2,i3]→Heap.ExtBut c h h'→∀k,S1 k h→S1 k h':=fun {c h h'} hc x k t=>W1.keep k h h' t fun b hb o e=>x b o (by
  rcases hb with rfl | rfl <;> (simp only [List.mem_cons,List.not_mem_nil,or_false] at hc;rcases hc with rfl | rfl | rfl | rfl <;> first | assumption | (apply Ne.symm;assumption))) e
 have m2:∀{c h h':_},c∈[z,TO,i1,i3]→Heap.ExtBut c h h'→∀k,S2 k h→S2 k h':=fun {c h h'} hc x k t=>W2.keep k h h' t fun b hb o e=>x b o (by
  rcases hb with rfl | rfl <;> (simp only [List.mem_cons,List.not_mem_nil,or_false] at hc;rcases hc with rfl | rfl | rfl | rfl <;> first | assumption | (apply Ne.symm;assumption))) e
 have m3:∀{c h h':_},c∈[z,TO,i1,i2]→Heap.ExtBut c h h'→∀k,S3 k h→S3 k h':=fun {c h h'} hc x k t=>W3.keep k h h' t fun b hb o e=>x b o (by
  rcases hb with rfl | rfl <;> (simp only [List.mem_cons,List.not_mem_nil,or_false] at hc;rcases hc with rfl | rfl | rfl | rfl <;> first | assumption | (apply Ne.symm;assumption))) e
 constructor
 ·intro x y y3 hx hy hy3 q
  unfold pyNext;refine wpAny_bind (wpAny_attempt (wpAny_callSpecial?_slot (name:=Str.ofString "__next__") ty F.slot_zip_next (wpAny_call_entry F.slot_zip_next ty F.entry_zip_next ?_ (F.args_zip_next_1 _))))
  show wpAny _ _ (field (.ref z) 2 >>= _) _ _ _;refine wpAny_bind (wpAny_field hz rfl (x:=.bool false) rfl ?_);show wpAny _ _ (field (.ref z) 3 >>= _) _ _ _;refine wpAny_bind (wpAny_field hz rfl (x:=.ref TI) rfl (wpAny_bind (wpAny_seqItems hI rfl ?_)))
  show wpAny _ _ (Builtin.SmallTypes.ownedTupleIsFree (.ref z) >>= _) _ _ _;refine wpAny_bind ?_;unfold Builtin.SmallTypes.ownedTupleIsFree;refine wpAny_bind (wpAny_field hz rfl (x:=.none) rfl (wpAny_pure ?_));simp only [if_true]
  refine wpAny_bind (wpAny_rule (wpAny_bind (wpAny_field hz rfl (x:=.ref TO) rfl (wpAny_bind (wpAny_setField_rec hz (by simp) fun h1 hz1 hs1=>?_)))));replace hz1:IsZip h1 z TI TO .ellipsis:=hz1
  refine wpAny_bind ?_;simp only [List.zipIdx_cons,List.zipIdx_nil,List.forIn_cons,List.forIn_nil];refine wpAny_bind (wpAny_bind (wpAny_onRaise ?_));show wpAny _ _ (Builtin.SmallTypes.nextOf (.ref i1) >>= _) _ _ _
  refine wpAny_bind (W1.item _ _ _ k x _ (m1 (by simp) hs1.extBut k t1) hx fun h2 t12 hs2=>wpAny_pure ?_)
  have hO2:IsTrio h2 TO a b c:=hs2.extBut _ _ nO1 (hs1.extBut _ _ nOz hO)
  refine wpAny_bind (wpAny_seqItems hO2 rfl (wpAny_bind (up_trio hO2 fun h3 hO3 hs3=>?_)));replace hO3:IsTrio h3 TO x b c:=hO3;refine wpAny_bind (wpAny_letGo (wpAny_pure (wpAny_bind (wpAny_bind (wpAny_onRaise ?_)))))
  show wpAny _ _ (Builtin.SmallTypes.nextOf (.ref i2) >>= _) _ _ _
  refine wpAny_bind (W2.item _ _ _ k y _ (m2 (by simp) hs3.extBut k (m2 (by simp) hs2.extBut k (m2 (by simp) hs1.extBut k t2))) hy fun h4 t24 hs4=>wpAny_pure ?_)
  have hO4:IsTrio h4 TO x b c:=hs4.extBut _ _ nO2 hO3
  refine wpAny_bind (wpAny_seqItems hO4 rfl (wpAny_bind (up_trio hO4 fun h5 hO5 hs5=>?_)));replace hO5:IsTrio h5 TO x y c:=hO5;refine wpAny_bind (wpAny_letGo (wpAny_pure (wpAny_bind (wpAny_bind (wpAny_onRaise ?_)))))
  show wpAny _ _ (Builtin.SmallTypes.nextOf (.ref i3) >>= _) _ _ _
  refine wpAny_bind (W3.item _ _ _ k y3 _ (m3 (by simp) hs5.extBut k (m3 (by simp) hs4.extBut k (m3 (by simp) hs3.extBut k (m3 (by simp) hs2.extBut k (m3 (by simp) hs1.extBut k t3))))) hy3 fun h6 t36 hs6=>wpAny_pure ?_)
  have hO6:IsTrio h6 TO x y c:=hs6.extBut _ _ nO3 hO5
  refine wpAny_bind (wpAny_seqItems hO6 rfl (wpAny_bind (up_trio hO6 fun h7 hO7 hs7=>?_)));replace hO7:IsTrio h7 TO x y y3:=hO7;refine wpAny_bind (wpAny_letGo (wpAny_pure (wpAny_pure (wpAny_bind (wpAny_seqItems hO7 rfl (wpAny_bind (wpAny_newTuple ?_)))))))
  have sz:h7.objs.size=s.heap.objs.size:=by rw [hs7.1,hs6.1,hs5.1,hs4.1,hs3.1,hs2.1,hs1.1]
  have hz7:IsZip h7 z TI TO .ellipsis:=hs7.extBut _ _ nOz.symm (hs6.extBut _ _ n3.symm (hs5.extBut _ _ nOz.symm (hs4.extBut _ _ n2.symm (hs3.extBut _ _ nOz.symm (hs2.extBut _ _ n1.symm hz1)))))
  have all7:∀c o,c∉[z,TI,TO,i1,i2,i3]→s.heap.get? c=some o→h7.get? c=some o:=fun c o hc e=>by
   simp only [List.mem_cons,List.not_mem_nil,or_false,not_or] at hc
   exact hs7.extBut _ _ hc.2.2.1 (hs6.extBut _ _ hc.2.2.2.2.2 (hs5.extBut _ _ hc.2.2.1 (hs4.extBut _ _ hc.2.2.2.2.1 (hs3.extBut _ _ hc.2.2.1 (hs2.extBut _ _ hc.2.2.2.1 (hs1.extBut _ _ hc.1 e))))))
  have hI7:IsTrio h7 TI (.ref i1) (.ref i2) (.ref i3):=hs7.extBut _ _ nIO (hs6.extBut _ _ nI3 (hs5.extBut _ _ nIO (hs4.extBut _ _ nI2 (hs3.extBut _ _ nIO (hs2.extBut _ _ nI1 (hs1.extBut _ _ nIz hI))))))
  have zlt:z < h7.objs.size:=Heap.lt_size hz7
  show wpAny _ _ (Builtin.SmallTypes.ownedTupleHandOut (.ref z) (.ref h7.objs.size) >>= _) _ _ _;refine wpAny_bind ?_;unfold Builtin.SmallTypes.ownedTupleHandOut
  have hz8:IsZip (h7.push { cls:=.type "tuple",data:=.seq #[x,y,y3] }) z TI TO .ellipsis:=Heap.get?_push_of_some _ hz7
  refine wpAny_bind (wpAny_setField_rec hz8 (by simp) fun h9 hz9 hs9=>?_);replace hz9:IsZip h9 z TI TO (rawInt h7.objs.size):=hz9;refine wpAny_setField_rec hz9 (by simp) fun h10 hz10 hs10=>?_;replace hz10:IsZip h10 z TI TO (rawInt h7.objs.size):=hz10
  have up:∀c o,c≠z→h7.get? c=some o→h10.get? c=some o:=fun c o c1 e=>hs10.extBut _ _ c1 (hs9.extBut _ _ c1 (Heap.get?_push_of_some _ e))
  have hT:IsTrio h10 h7.objs.size x y y3:=hs10.extBut _ _ (Nat.ne_of_gt zlt) (hs9.extBut _ _ (Nat.ne_of_gt zlt) (Heap.get?_push_size _ rfl))
  have t1':S1 (k+1) h10:=W1.keep _ _ _ (m1 (by simp) hs7.extBut _ (m1 (by simp) hs6.extBut _ (m1 (by simp) hs5.extBut _ (m1 (by simp) hs4.extBut _ (m1 (by simp) hs3.extBut _ t12))))) fun c hc o e=>up c o (by rcases hc with rfl | rfl <;> first | assumption | (apply Ne.symm;assumption)) e
  have t2':S2 (k+1) h10:=W2.keep _ _ _ (m2 (by simp) hs7.extBut _ (m2 (by simp) hs6.extBut _ (m2 (by simp) hs5.extBut _ t24))) fun c hc o e=>up c o (by rcases hc with rfl | rfl <;> first | assumption | (apply Ne.symm;assumption)) e
  have t3':S3 (k+1) h10:=W3.keep _ _ _ (m3 (by simp) hs7.extBut _ t36) fun c hc o e=>up c o (by rcases hc with rfl | rfl <;> first | assumption | (apply Ne.symm;assumption)) e
  rw [sz] at hz10 hT
  refine wpAny_pure ⟨_,rfl,?_⟩;show wpAny _ _ (pure (some (Value.ref h7.objs.size))) _ _ _;rw [sz]
  exact wpAny_pure (q h10 hz10 (up _ _ nIz hI7) ⟨_,_,_,up _ _ nOz hO7⟩ t1' t2' t3' hT fun c o hc e=>up c o (fun x=>hc (by simp [x])) (all7 c o hc e))
 ·intro hh hend q
  have stop:∀(h9:Heap) (e:Addr),(∀c o,c∉[z,TI,TO,i1,i2,i3]→s.heap.get? c=some o→h9.get? c=some o)→(∃o,h9.get? e=some o∧o.cls = .type "StopIteration") →
    wpAny (model prog w) A (isInstance (.ref e) (.type "StopIteration") >>= fun b=>if b=true then pure none else throw (.ref e)) Q E { s with heap:=h9 }:=fun h9 e kp ⟨o,ho,oc⟩ =>
   wpAny_bind (wpAny_isInstance (T:="StopIteration") (b:=true) ⟨o,ho,oc⟩ isSubtype_stop (wpAny_pure (q _ kp)))
  unfold pyNext;refine wpAny_bind (wpAny_attempt (wpAny_callSpecial?_slot (name:=Str.ofString "__next__") ty F.slot_zip_next (wpAny_call_entry F.slot_zip_next ty F.entry_zip_next ?_ (F.args_zip_next_1 _))))
  show wpAny _ _ (field (.ref z) 2 >>= _) _ _ _;refine wpAny_bind (wpAny_field hz rfl (x:=.bool false) rfl ?_);show wpAny _ _ (field (.ref z) 3 >>= _) _ _ _;refine wpAny_bind (wpAny_field hz rfl (x:=.ref TI) rfl (wpAny_bind (wpAny_seqItems hI rfl ?_)))
  show wpAny _ _ (Builtin.SmallTypes.ownedTupleIsFree (.ref z) >>= _) _ _ _;refine wpAny_bind ?_;unfold Builtin.SmallTypes.ownedTupleIsFree;refine wpAny_bind (wpAny_field hz rfl (x:=.none) rfl (wpAny_pure ?_));simp only [if_true]
  refine wpAny_bind (wpAny_rule (wpAny_bind (wpAny_field hz rfl (x:=.ref TO) rfl (wpAny_bind (wpAny_setField_rec hz (by simp) fun h1 hz1 hs1=>?_)))));replace hz1:IsZip h1 z TI TO .ellipsis:=hz1
  refine wpAny_bind ?_;simp only [List.zipIdx_cons,List.zipIdx_nil,List.forIn_cons,List.forIn_nil];refine wpAny_bind (wpAny_bind (wpAny_onRaise ?_));show wpAny _ _ (Builtin.SmallTypes.nextOf (.ref i1) >>= _) _ _ _
  cases hx:xs[k]? with
  | none =>
   refine wpAny_bind (W1.fin _ _ _ k _ hh (m1 (by simp) hs1.extBut k t1) hx fun h2 e hs2 ⟨oe,hoe,hce⟩=>?_)
   have hz2:IsZip h2 z TI TO .ellipsis:=hs2 _ _ n1.symm hz1
   have ez:e≠z:=fun x=>by subst x;rw [hz2] at hoe;cases hoe;simp at hce
   refine wpAny_setField_rec hz2 (by simp) fun h3 _ hs3=>stop h3 e (fun c o hc u=>?_) ⟨oe,hs3.extBut _ _ ez hoe,hce⟩
   simp only [List.mem_cons,List.not_mem_nil,or_false,not_or] at hc
   exact hs3.extBut _ _ hc.1 (hs2 _ _ hc.2.2.2.1 (hs1.extBut _ _ hc.1 u))
  | some x =>
   refine wpAny_bind (W1.item _ _ _ k x _ (m1 (by simp) hs1.extBut k t1) hx fun h2 t12 hs2=>wpAny_pure ?_)
   have hO2:IsTrio h2 TO a b c:=hs2.extBut _ _ nO1 (hs1.extBut _ _ nOz hO)
   refine wpAny_bind (wpAny_seqItems hO2 rfl (wpAny_bind (up_trio hO2 fun h3 hO3 hs3=>?_)));replace hO3:IsTrio h3 TO x b c:=hO3;refine wpAny_bind (wpAny_letGo (wpAny_pure (wpAny_bind (wpAny_bind (wpAny_onRaise ?_)))));show wpAny _ _ (Builtin.SmallTypes.nextOf (.ref i2) >>= _) _ _ _
   cases hy:ys[k]? with
   | none =>
    refine wpAny_bind (W2.fin _ _ _ k _ hh (m2 (by simp) hs3.extBut k (m2 (by simp) hs2.extBut k (m2 (by simp) hs1.extBut k t2))) hy fun h4 e hs4 ⟨oe,hoe,hce⟩=>?_)
    have hz4:IsZip h4 z TI TO .ellipsis:=hs4 _ _ n2.symm (hs3.extBut _ _ nOz.symm (hs2.extBut _ _ n1.symm hz1))
    have ez:e≠z:=fun x=>by subst x;rw [hz4] at hoe;cases hoe;simp at hce
    refine wpAny_setField_rec hz4 (by simp) fun h5 _ hs5=>stop h5 e (fun c o hc u=>?_) ⟨oe,hs5.extBut _ _ ez hoe,hce⟩
    simp only [List.mem_cons,List.not_mem_nil,or_false,not_or] at hc
    exact hs5.extBut _ _ hc.1 (hs4 _ _ hc.2.2.2.2.1 (hs3.extBut _ _ hc.2.2.1 (hs2.extBut _ _ hc.2.2.2.1 (hs1.extBut _ _ hc.1 u))))
   | some y =>
    have hy3:zs[k]? = none:=by rcases hend with u | u | u;rw [hx] at u;cases u;rw [hy] at u;cases u;exact u
    refine wpAny_bind (W2.item _ _ _ k y _ (m2 (by simp) hs3.extBut k (m2 (by simp) hs2.extBut k (m2 (by simp) hs1.extBut k t2))) hy fun h4 t24 hs4=>wpAny_pure ?_)
    have hO4:IsTrio h4 TO x b c:=hs4.extBut _ _ nO2 hO3
    refine wpAny_bind (wpAny_seqItems hO4 rfl (wpAny_bind (up_trio hO4 fun h5 hO5 hs5=>?_)));refine wpAny_bind (wpAny_letGo (wpAny_pure (wpAny_bind (wpAny_bind (wpAny_onRaise ?_)))));show wpAny _ _ (Builtin.SmallTypes.nextOf (.ref i3) >>= _) _ _ _
    refine wpAny_bind (W3.fin _ _ _ k _ hh (m3 (by simp) hs5.extBut k (m3 (by simp) hs4.extBut k (m3 (by simp) hs3.extBut k (m3 (by simp) hs2.extBut k (m3 (by simp) hs1.extBut k t3))))) hy3 fun h6 e hs6 ⟨oe,hoe,hce⟩=>?_)
    have hz6:IsZip h6 z TI TO .ellipsis:=hs6 _ _ n3.symm (hs5.extBut _ _ nOz.symm (hs4.extBut _ _ n2.symm (hs3.extBut _ _ nOz.symm (hs2.extBut _ _ n1.symm hz1))))
    have ez:e≠z:=fun x=>by subst x;rw [hz6] at hoe;cases hoe;simp at hce
    refine wpAny_setField_rec hz6 (by simp) fun h7 _ hs7=>stop h7 e (fun c o hc u=>?_) ⟨oe,hs7.extBut _ _ ez hoe,hce⟩
    simp only [List.mem_cons,List.not_mem_nil,or_false,not_or] at hc
    exact hs7.extBut _ _ hc.1 (hs6 _ _ hc.2.2.2.2.2 (hs5.extBut _ _ hc.2.2.1 (hs4.extBut _ _ hc.2.2.2.2.1 (hs3.extBut _ _ hc.2.2.1 (hs2.extBut _ _ hc.2.2.2.1 (hs1.extBut _ _ hc.1 u))))))
def tob (l:Addr):Obj:={ cls:=.type "tuple_iterator",data:=.fields #[.ref l,.int 0 0] }
def zI(h:Heap)(l1 l2 l3:Addr):Heap:=((h.push (tob l1)).push (tob l2)).push (tob l3)
def zJ (h:Heap) (l1 l2 l3:Addr):Heap:=(zI h l1 l2 l3).push { cls:=.type "tuple",data:=.seq #[.ref h.objs.size,.ref (h.push (tob l1)).objs.size,.ref ((h.push (tob l1)).push (tob l2)).objs.size] }
def zK (h:Heap) (l1 l2 l3:Addr):Heap:=(zJ h l1 l2 l3).push { cls:=.type "tuple",data:=.seq #[.none,.none,.none] }
def zh3 (h:Heap) (l1 l2 l3:Addr):Heap:=(zK h l1 l2 l3).push { cls:=.type "zip",data:=.fields #[.none,.bool false,.bool false,.ref (zI h l1 l2 l3).objs.size,.ref (zJ h l1 l2 l3).objs.size] }
theorem z_meets3 (l1 l2 l3:Addr) (xs ys zs:Array Value):Meets (Builtin.«zip.__new__» ⟨[.type "zip",.ref l1,.ref l2,.ref l3],[]⟩) (fun _ R s=>s.heap.IsTuple l1 xs∧s.heap.IsTuple l2 ys∧s.heap.IsTuple l3 zs ∧
  R (.ok (.ret (.ref (zK s.heap l1 l2 l3).objs.size))) { s with heap:=zh3 s.heap l1 l2 l3 }) :=
 .of_wp fun prog w A R s h=>by
  obtain ⟨hp,g,d,tk,os⟩:=s
  obtain ⟨a1,a2,a3,h⟩:=h
  have hsub:=sub_zip
  have c1:Heap.IsTuple (Shared.heap ⟨hp,g,d,tk,os⟩) l1 xs:=a1
  have c2:Heap.IsTuple (Shared.heap ⟨hp.push { cls:=.type "tuple_iterator",data:=.fields #[.ref l1,.int 0 0] },g,d,tk,os⟩) l2 ys:=Kn.seqAt .T a2 fun o e=>Heap.get?_push_of_some _ e
  have c3:Heap.IsTuple (Shared.heap ⟨(hp.push { cls:=.type "tuple_iterator",data:=.fields #[.ref l1,.int 0 0] }).push { cls:=.type "tuple_iterator",data:=.fields #[.ref l2,.int 0 0] },g,d,tk,os⟩) l3 zs:=Kn.seqAt .T a3 fun o e=>Heap.get?_push_of_some _ (Heap.get?_push_of_some _ e)
  wp_walk using wpAny_pyIter_tuple c1,wpAny_pyIter_tuple c2,wpAny_pyIter_tuple c3
  exact ⟨_,rfl,h⟩
theorem typeCall_zip3 (a b c:Value):checkTypeCall "zip" ⟨[a,b,c],[]⟩=pure ():=by kernel_rfl
theorem newCall_zip3 (a b c:Value):checkBuiltinCall "zip.__new__" ⟨[.type "zip",a,b,c],[]⟩=pure ():=by kernel_rfl
theorem args_oinit4 (a b c d:Value):argsOk "object.__init__" ⟨[a,b,c,d],[]⟩:=by
 unfold argsOk;rw [signature?_of (id:="object.__init__") (n:=['_','_','t','i','n','i','_','_']) (o:=['t','c','e','j','b','o']) (by kernel_rfl) PySem.F.owner_object];kernel_rfl
theorem z_call3{l1 l2 l3:Addr}{xs ys zs:Array Value}{Q:Value→Shared→Prop}(a1:s.heap.IsTuple l1 xs)(a2:s.heap.IsTuple l2 ys)(a3:s.heap.IsTuple l3 zs)
  (q:∀h' (z TI TO i1 i2 i3:Addr),ZAp3 z TI TO i1 i2 i3 l1 l2 l3→s.heap.objs.size≤i1→IsZip h' z TI TO .none→IsTrio h' TI (.ref i1) (.ref i2) (.ref i3)→(∃a b c,IsTrio h' TO a b c)→h'.IsTupleIter i1 l1 0→h'.IsTupleIter i2 l2 0→h'.IsTupleIter i3 l3 0→(∀c o,s.heap.get? c=some o→h'.get? c=some o)→Q (.ref z) { s with heap:=h' }) :
  wpAny (model prog w) A (call (.type "zip") [.ref l1,.ref l2,.ref l3]) Q E s:=by
 refine callType_new F.called_zip (by decide) (typeCall_zip3 _ _ _) (newCall_zip3 _ _ _) (fun obj=>args_oinit4 obj _ _ _) F.entry_zip_new (z_meets3 l1 l2 l3 xs ys zs) ⟨a1,a2,a3,?_⟩
 have lt1:=Kn.lt .T a1
 have lt2:=Kn.lt .T a2
 have lt3:=Kn.lt .T a3
 have g6:(zh3 s.heap l1 l2 l3).get? (zK s.heap l1 l2 l3).objs.size=some _:=Heap.get?_push_size (zK s.heap l1 l2 l3) rfl
 have g5:(zh3 s.heap l1 l2 l3).get? (zJ s.heap l1 l2 l3).objs.size=some _:=Heap.get?_push_of_some _ (Heap.get?_push_size (zJ s.heap l1 l2 l3) rfl)
 have g4:(zh3 s.heap l1 l2 l3).get? (zI s.heap l1 l2 l3).objs.size=some _:=Heap.get?_push_of_some _ (Heap.get?_push_of_some _ (Heap.get?_push_size (zI s.heap l1 l2 l3) rfl))
 have k3:(zh3 s.heap l1 l2 l3).IsTupleIter ((s.heap.push (tob l1)).push (tob l2)).objs.size l3 0:=Kn.itAt .T (Kn.it0 .T _ l3) fun o e=>Heap.get?_push_of_some _ (Heap.get?_push_of_some _ (Heap.get?_push_of_some _ e))
 have k2:(zh3 s.heap l1 l2 l3).IsTupleIter (s.heap.push (tob l1)).objs.size l2 0:=Kn.itAt .T (Kn.it0 .T _ l2) fun o e=>Heap.get?_push_of_some _ (Heap.get?_push_of_some _ (Heap.get?_push_of_some _ (Heap.get?_push_of_some _ e)))
 have k1:(zh3 s.heap l1 l2 l3).IsTupleIter s.heap.objs.size l1 0:=Kn.itAt .T (Kn.it0 .T _ l1) fun o e=>Heap.get?_push_of_some _ (Heap.get?_push_of_some _ (Heap.get?_push_of_some _ (Heap.get?_push_of_some _ (Heap.get?_push_of_some _ e))))
 show _∧_
 refine ⟨⟨_,g6,rfl⟩,q _ _ _ _ _ _ _ ⟨?_,?_,?_,?_,?_,lt1,lt2,lt3⟩ (Nat.le_refl _) g6 g4 ⟨_,_,_,g5⟩ k1 k2 k3 fun c o x=>Heap.get?_push_of_some _ (Heap.get?_push_of_some _ (Heap.get?_push_of_some _ (Heap.get?_push_of_some _ (Heap.get?_push_of_some _ (Heap.get?_push_of_some _ x)))))⟩ <;>
 ·(try unfold zK);(try unfold zJ);(try unfold zI);simp only [Heap.size_push];exact Nat.lt_succ_self _
end
def Itz3(K:PySem.W.Frag)(a b c:Addr):It :=
 ⟨fun i H=>∃xs ys zs,SqT K H a xs∧SqT K H b ys∧SqT K H c zs∧i < xs.length∧i < ys.length∧i < zs.length,fun i H v H'=>∃T x y u,H T=none∧v = .ref T∧H'=upd H T (.tup [x,y,u])∧(∀xs,SqT K H a xs→xs[i]? = some x)∧(∀ys,SqT K H b ys→ys[i]? = some y)∧(∀zs,SqT K H c zs→zs[i]? = some u),
  fun i H=>∃xs ys zs,SqT K H a xs∧SqT K H b ys∧SqT K H c zs∧(xs.length≤i∨ys.length≤i∨zs.length≤i)⟩
theorem turn_zip3{P:Program}{w:World}{K:PySem.W.Frag}{elts:List Expr}{x1}{pos:Pos}{a b c z TI TO i1 i2 i3:Addr}(D:ZAp3 z TI TO i1 i2 i3 a b c) :
  Turn P w K (.Tuple elts x1 pos) (Itz3 K a b c) [z,TI,TO,i1,i2,i3] z (fun i h=>IsZip h z TI TO .none∧IsTrio h TI (.ref i1) (.ref i2) (.ref i3)∧(∃x y u,IsTrio h TO x y u)∧Kn.it .T h i1 a i∧Kn.it .T h i2 b i∧Kn.it .T h i3 c i) where
 mem:=by simp
 obj:=fun i h ⟨hz,hI,⟨x,y,u,hO⟩,t1,t2,t3⟩ c hc=>by
  simp only [List.mem_cons,List.not_mem_nil,or_false] at hc
  rcases hc with rfl | rfl | rfl | rfl | rfl | rfl
  ·exact ⟨_,hz,fun v q=>by cases (show Data.fields _=Data.cell v from q)⟩
  ·exact ⟨_,hI,fun v q=>by cases (show Data.seq _ _=Data.cell v from q)⟩
  ·exact ⟨_,hO,fun v q=>by cases (show Data.seq _ _=Data.cell v from q)⟩
  ·exact Kn.itObj .T t1
  ·exact Kn.itObj .T t2
  ·exact Kn.itObj .T t3
 keep:=fun i h h' ⟨hz,hI,⟨x,y,u,hO⟩,t1,t2,t3⟩ kp=>⟨kp z (by simp) _ hz,kp TI (by simp) _ hI,⟨x,y,u,kp TO (by simp) _ hO⟩,Kn.itAt .T t1 fun o e=>kp i1 (by simp) o e,Kn.itAt .T t2 fun o e=>kp i2 (by simp) o e,Kn.itAt .T t3 fun o e=>kp i3 (by simp) o e⟩
 item:=by
  intro X hP hw hK hc i pins s σ H E I hf ⟨hz,hI,hO,t1,t2,t3⟩ hg
  subst hP hw hK
  obtain ⟨xs,ys,zs,q1,q2,q3,l1,l2,l3⟩:=hg
  obtain ⟨v1,r1,p1⟩:=Kn.inv .T I q1
  obtain ⟨v2,r2,p2⟩:=Kn.inv .T I q2
  obtain ⟨v3,r3,p3⟩:=Kn.inv .T I q3
  obtain ⟨u1,e1,ru1⟩:=r1.get (List.getElem?_eq_getElem l1)
  obtain ⟨u2,e2,ru2⟩:=r2.get (List.getElem?_eq_getElem l2)
  obtain ⟨u3,e3,ru3⟩:=r3.get (List.getElem?_eq_getElem l3)
  obtain ⟨⟨n1,n2,n3,nO1,nO2,nO3,nOz,nIz,nIO,nI1,nI2,nI3,n12,n13,n23⟩,_⟩:=zap_nat3 D.a D.a' D.b D.c D.d D.e D.f D.g
  refine (z_next3 D (Kn.drw .T i1 a (Nat.ne_of_lt D.e) v1.toArray) (Kn.drw .T i2 b (Nat.ne_of_lt (Nat.lt_trans D.f D.a)) v2.toArray) (Kn.drw .T i3 c (Nat.ne_of_lt (Nat.lt_trans D.g (Nat.lt_trans D.a D.a'))) v3.toArray) ⟨hz,hI,hO,⟨t1,p1⟩,⟨t2,p2⟩,⟨t3,p3⟩⟩).1 u1 u2 u3 (by simpa using e1) (by simpa using e2) (by simpa using e3) fun h' hz' hI' hO' s1' s2' s3' hT all=>⟨_,rfl,?_⟩
  refine wpAny_letOwnedTupleGo_zip hz' fun h2 hz2 sb=>?_
  have nT:∀c∈[z,TI,TO,i1,i2,i3],c≠s.heap.objs.size:=fun c hc'=>by
   simp only [List.mem_cons,List.not_mem_nil,or_false] at hc'
   rcases hc' with rfl | rfl | rfl | rfl | rfl | rfl
   ·exact Nat.ne_of_lt (Heap.lt_size hz)
   ·exact Nat.ne_of_lt (Heap.lt_size hI)
   ·obtain ⟨_,_,_,q⟩:=hO;exact Nat.ne_of_lt (Heap.lt_size q)
   ·obtain ⟨_,q,_⟩:=Kn.itObj .T t1;exact Nat.ne_of_lt (Heap.lt_size q)
   ·obtain ⟨_,q,_⟩:=Kn.itObj .T t2;exact Nat.ne_of_lt (Heap.lt_size q)
   ·obtain ⟨_,q,_⟩:=Kn.itObj .T t3;exact Nat.ne_of_lt (Heap.lt_size q)
  have hfr:H s.heap.objs.size=none:=I.hok.fresh (Nat.le_refl _)
  have I1:Inv X pins σ (upd H s.heap.objs.size (.tup [xs[i],ys[i],zs[i]])) { s with heap:=s.heap.push { cls:=.type "tuple",data:=.seq #[u1,u2,u3] } } :=
   I.laid (t':=s.toks) (fun b u e=>Heap.get?_push_of_some _ e) (Nat.le_refl _) ⟨by show 3≤sizeLine;decide,[u1,u2,u3],.cons ru1 (.cons ru2 (.cons ru3 .nil)),⟨_,Heap.get?_push_size _ rfl,rfl,_,rfl⟩⟩
  have zT:s.heap.objs.size≠z:=(nT z (by simp)).symm
  have I2:Inv X pins σ (upd H s.heap.objs.size (.tup [xs[i],ys[i],zs[i]])) { s with heap:=h2 }:=Inv.turnedL (s:={ s with heap:=s.heap.push { cls:=.type "tuple",data:=.seq #[u1,u2,u3] } }) (t':=s.toks) (fp:=[z,TI,TO,i1,i2,i3]) I1 (fun c o hc' e=>by
   have hcz:c≠z:=fun x=>hc' (by simp [x])
   rcases Heap.get?_push_cases e with ⟨ec,eo⟩ | e
   ·rw [ec,eo];exact sb.extBut _ _ zT hT
   ·exact sb.extBut _ _ hcz (all c o hc' e)) fun c hc'=>⟨by rw [upd_ne (nT c hc')];exact (hf c hc').1,(hf c hc').2⟩
  refine ⟨.ref s.heap.objs.size,_,I2,rfl,⟨s.heap.objs.size,xs[i],ys[i],zs[i],hfr,rfl,rfl,fun ws hz=>?_,fun ws hz=>?_,fun ws hz=>?_⟩,⟨hz2,sb.extBut _ _ nIz hI',?_,Kn.itAt .T s1'.1 fun o e=>sb.extBut _ _ n1 e,Kn.itAt .T s2'.1 fun o e=>sb.extBut _ _ n2 e,Kn.itAt .T s3'.1 fun o e=>sb.extBut _ _ n3 e⟩,fun c hc'=>by rw [upd_ne (nT c hc')];exact (hf c hc').1⟩
  ·rw [Kn.inj .T I hz q1,List.getElem?_eq_getElem l1]
  ·rw [Kn.inj .T I hz q2,List.getElem?_eq_getElem l2]
  ·rw [Kn.inj .T I hz q3,List.getElem?_eq_getElem l3]
  ·obtain ⟨x,y,u,q⟩:=hO'
   exact ⟨x,y,u,sb.extBut _ _ nOz q⟩
 done:=by
  intro X hP hw hK hc i pins s σ H E I hf ⟨hz,hI,hO,t1,t2,t3⟩ hg
  subst hP hw hK
  obtain ⟨xs,ys,zs,q1,q2,q3,le⟩:=hg
  obtain ⟨v1,r1,p1⟩:=Kn.inv .T I q1
  obtain ⟨v2,r2,p2⟩:=Kn.inv .T I q2
  obtain ⟨v3,r3,p3⟩:=Kn.inv .T I q3
  have e1:=r1.length
  have e2:=r2.length
  have e3:=r3.length
  refine (z_next3 D (Kn.drw .T i1 a (Nat.ne_of_lt D.e) v1.toArray) (Kn.drw .T i2 b (Nat.ne_of_lt (Nat.lt_trans D.f D.a)) v2.toArray) (Kn.drw .T i3 c (Nat.ne_of_lt (Nat.lt_trans D.g (Nat.lt_trans D.a D.a'))) v3.toArray) ⟨hz,hI,hO,⟨t1,p1⟩,⟨t2,p2⟩,⟨t3,p3⟩⟩).2 (I.ok.hd hc) (by
   rcases le with q | q | q
   ·exact .inl (by simp;omega)
   ·exact .inr (.inl (by simp;omega))
   ·exact .inr (.inr (by simp;omega))) fun h' all=>⟨rfl,I.turnedL (t':=s.toks) (fun c o hc' e=>all c o hc' e) hf⟩
 self:=fun _ _ _ _ _ st q=>wpAny_pyIter_zip st.1 q
section
variable{X:Cx}
def iZip3(K:PySem.W.Frag)(ta:TA):TI:=fun σ H R=>ta σ H fun vs H1=>∃a b c xs ys zs,vs=[.ref a,.ref b,.ref c]∧SqT K H1 a xs∧SqT K H1 b ys∧SqT K H1 c zs∧R (Itz3 K a b c) H1
theorem pi_zip3 {x y u:Expr} {ta:TA} {elts:List Expr} {x1} {p pos tp:Pos} (hg:Gl X "zip") (hm:X.mg "zip" = none) (ha:PA X [x,y,u] ta) (hs:starEach [x,y,u] X.env=[(false,eval x X.env),(false,eval y X.env),(false,eval u X.env)]:=by rfl) (hs2:starEach [y,u] X.env=[(false,eval y X.env),(false,eval u X.env)]:=by rfl) :
  PI X (.Tuple elts x1 tp) (.Call (.Name "zip" p) [x,y,u] [] pos) (iZip3 X.K ta):=by
 intro pins s σ H R I h
 refine Call_ (ld_blt I hg hm bb_zip (PyProof.Rows.callWith_type1 (thn (ha pos pins s σ H _ I h) fun us s1 ⟨vs,H1,I1,r1,q1⟩=>?_) (by rw [hs,hs2]) (by rw [hs2];rfl)))
 obtain ⟨a,b,c,xs,ys,zs,e,s1q,s2q,s3q,q⟩:=q1
 subst e
 cases r1 with
 | cons ra r1=>cases r1 with
  | cons rb r1=>cases r1 with
   | cons rc r1 =>
    cases r1
    cases ra
    cases rb
    cases rc
    obtain ⟨v1,w1,p1⟩:=Kn.inv .T I1 s1q
    obtain ⟨v2,w2,p2⟩:=Kn.inv .T I1 s2q
    obtain ⟨v3,w3,p3⟩:=Kn.inv .T I1 s3q
    refine z_call3 p1 p2 p3 fun h' z TI TO i1 i2 i3 D le hz hI hO t1 t2 t3 kp=>?_
    refine wpAny_pyIter_zip (s:={ s1 with heap:=h' }) hz ?_
    refine ⟨z,[z,TI,TO,i1,i2,i3],_,_,H1,rfl,I1.kept (t':=s1.toks) kp,turn_zip3 D,⟨hz,hI,hO,t1,t2,t3⟩,fun c hc=>?_,q⟩
    have le2:s1.heap.objs.size≤c:=by
     have d1:=D.a
     have d1':=D.a'
     have d2:=D.b
     have d3:=D.c
     have d4:=D.d
     simp only [List.mem_cons,List.not_mem_nil,or_false] at hc
     rcases hc with rfl | rfl | rfl | rfl | rfl | rfl
     ·exact Nat.le_of_lt (Nat.lt_of_le_of_lt le (Nat.lt_trans d1 (Nat.lt_trans d1' (Nat.lt_trans d2 (Nat.lt_trans d3 d4)))))
     ·exact Nat.le_of_lt (Nat.lt_of_le_of_lt le (Nat.lt_trans d1 (Nat.lt_trans d1' d2)))
     ·exact Nat.le_of_lt (Nat.lt_of_le_of_lt le (Nat.lt_trans d1 (Nat.lt_trans d1' (Nat.lt_trans d2 d3))))
     ·exact le
     ·exact Nat.le_of_lt (Nat.lt_of_le_of_lt le d1)
     ·exact Nat.le_of_lt (Nat.lt_of_le_of_lt le (Nat.lt_trans d1 d1'))
    exact I1.fpOk le2 (I1.hok.fresh le2)
end
section
variable{K:PySem.W.Frag}{te:TE}{σ : St}{Q:VK}{H:Hp}
theorem k_zip3{ta:TA}{R:It→Hp→Prop}(h:ta σ H fun vs H1=>∃a b c xs ys zs,vs=[.ref a,.ref b,.ref c]∧SqT K H1 a xs∧SqT K H1 b ys∧SqT K H1 c zs∧R (Itz3 K a b c) H1):iZip3 K ta σ H R:=h
theorem comp_zip3{a b c:Addr}{xs ys zs:List V}{n m:Nat}{g:TG}(e1:xs.length=m)(e2:ys.length=m)(e3:zs.length=m)(h:∀D,H D=none→∃Pv:Nat→Hp→Prop,Pv 0 (upd H D (.lst []))∧(∀i H2,i≤m→Pv i H2→SqT K H2 a xs∧SqT K H2 b ys∧SqT K H2 c zs) ∧
  (∀i x y u H2 T,xs[i]? = some x→ys[i]? = some y→zs[i]? = some u→Pv i H2→H2 T=none→EltG g n te σ (.ref T) (upd H2 T (.tup [x,y,u])) D m i Pv)∧∀H2,Pv m H2→Q (.ref D) H2):CompG (Itz3 K a b c) n g te σ Q H:=by
 intro D nD
 obtain ⟨Pv,h0,hl,hs,hd⟩:=h D nD
 refine ⟨fun i k H=>k=m - i∧i≤m∧Pv i H,⟨_,rfl,Nat.zero_le _,h0⟩,?_⟩
 rintro i k H ⟨rfl,hi,p⟩
 obtain ⟨q1,q2,q3⟩:=hl i H hi p
 by_cases hlt:i < m
 ·refine .inr ⟨⟨xs,ys,zs,q1,q2,q3,by omega,by omega,by omega⟩,fun v H' y us hu=>?_⟩
  obtain ⟨T,x,y,u,nT,rfl,rfl,z1,z2,z3⟩:=y
  exact hs i x y u H T (z1 xs q1) (z2 ys q2) (z3 zs q3) p nT us hu
 ·have e:i=m:=by omega
  subst e
  exact .inl ⟨⟨xs,ys,zs,q1,q2,q3,.inl (by omega)⟩,hd H p⟩
end
end L2
namespace Rk
end Rk
namespace L2
open PySem PySem.Spec PyProof.Rows
section
variable{prog:Program}{w:World}{A:Around}{E:Value→Shared→Prop}{s:Shared}
end
section
variable{prog:Program}{w:World}{A:Around}{E:Value→Shared→Prop}{s:Shared}
end
end L2
namespace L2
open PySem PySem.Spec PyProof.Rows
section
variable{prog:Program}{w:World}{A:Around}{E:Value→Shared→Prop}{s:Shared}
end
end L2
namespace L2
open PySem PySem.Spec PyProof.Rows
namespace F7
end F7
section
variable{prog:Program}{w:World}{A:Around}{E:Value→Shared→Prop}{s:Shared}{S I:Addr}{es:Array (Int×Value)}{ep:Nat}{t:SetTable}
end
end L2
namespace L2
open PySem PySem.Spec PyProof.Rows
open PySem.W (Dat)
section
variable{X:Cx}
end
end L2
namespace L2
open PySem PySem.Spec PyProof.Rows
open PySem.W (Dat)
section
variable{X:Cx}
end
end L2
namespace L2
open PySem PySem.Spec PyProof.Rows
section
variable{prog:Program}{w:World}{A:Around}{E:Value→Shared→Prop}{s:Shared}{z TI TO i1 i2 i3 l1 l2 l3:Addr}{xs ys zs:Array Value}{S1 S2 S3:Nat→Heap→Prop}{k:Nat}
end
section
variable{X:Cx}
end
section
variable{K:PySem.W.Frag}{te:TE}{σ : St}{Q:VK}{H:Hp}
end
end L2
namespace L2
open PySem PySem.Spec PyProof.Rows
open PySem.W (Dat)
end L2
namespace L2
open PySem PySem.Spec PyProof.Rows
open PySem.Builtin.Str (occurrences lastOccurrence strSub subAt partsBetween)
section
variable{X:Cx}
end
section
variable{X:Cx}
end
end L2
namespace L2
open PySem PySem.Spec PyProof.Rows PySem.W
end L2
namespace L2
open PySem PySem.Spec PyProof.Rows PySem.W
end L2
namespace L2
open PySem PySem.Spec PyProof.Rows PySem.W
section
variable{X:Cx}{e k:Expr}{te tk:TE}{p2 pos:Pos}
end
end L2
namespace L2
open PySem PySem.Spec PyProof.Rows PySem.W
def tDisp1T(tk tv:TE):TE:=fun σ H Q=>∀p,H p=none→tk σ (upd H p (.dT [])) fun y H1=>tv σ H1 fun v H2=>H2 p=some (.dT [])∧∃(b:Addr) (k:List Key),y = .ref b∧H2 b=some (.tup (k.map kV))∧Q (.ref p) (upd H2 p (.dT (putK [] k v)))
theorem pe_disp1T{X:Cx}{pos:Pos}{k v:Expr}{tk tv:TE}(hu:X.A.units+1 < cLine)(hk:PE X k tk)(hv:PE X v tv):PE X (.Dict [some k] [v] pos) (tDisp1T tk tv):=by
 intro pins s σ H Q I q
 have hn:=I.hok.fresh (Nat.le_refl s.heap.objs.size)
 have I1:=I.laid (a:=s.heap.objs.size) (o:=.dT []) (h':=s.heap.push { cls:=.type "dict",data:=.dict #[] }) (t':=s.toks) (fun _ _ q=>Heap.get?_push_of_some _ q) (Nat.le_refl _) (dt_empty s.heap I.big)
 refine wpAny_Dict_any rfl rfl (by simp) (show 1≤15 by decide) (pairTrees_cons_walk (thn (hk pins _ σ _ _ I1 (q _ hn)) fun u s1 ⟨x,H1,J1,rx,q1⟩=>thn (hv pins s1 σ H1 _ J1 q1) fun r s2 ⟨y,H2,I2,ry,e,b,ks,ex,eb,q2⟩=>pairTrees_nil_walk ?_))
 subst ex
 obtain rfl:u=Value.ref b:=rx
 unfold storeAll
 rw [List.forIn_cons]
 obtain ⟨z,hd,xs,rel,dd⟩:=dt_of I2.hok e
 have hz:xs.length≤sizeLine:=by rw [← Paired.length rel];exact z
 refine wpAny_bind (wpAny_bind (wpAny_dictSet_heap (hsz:=hz) (knd:=tupleKind (mixKind X.prog X.w)) (Nat.lt_of_succ_lt hu) (key_of I2.hok eb) dd fun h' dd' hs=>wpAny_pure ?_))
 dsimp only
 rw [List.forIn_nil]
 refine wpAny_pure ⟨.ref s.heap.objs.size,_,?_,rfl,q2⟩
 obtain ⟨o,es,ep,hq,h2,h3,h4,_,h5⟩:=dd'
 have hl:(putK ([]:List (List Key×V)) ks y).length≤sizeLine:=by
  have:=length_putK ([]:List (List Key×V)) ks y
  rw [List.length_nil] at this
  rw [sizeLine_eq];omega
 refine d_write I2 (by rw [e];exact True.intro) hs ⟨o,hq⟩ ⟨hl,hd,_,(rel.put ks eb ry).keeps fun c ys ec=>?_,o,es,ep,hq,h2,h3,h4,h5⟩
 rw [upd_ne (ne_of ec e (fun z=>nomatch z))]
 exact ec
theorem k_disp1T{tk tv:TE}{σ : St}{H:Hp}{Q:VK}(h:∀p,H p=none→tk σ (upd H p (.dT [])) fun y H1=>tv σ H1 fun v H2=>H2 p=some (.dT [])∧∃(b:Addr) (k:List Key),y = .ref b∧H2 b=some (.tup (k.map kV))∧Q (.ref p) (upd H2 p (.dT (putK [] k v)))):tDisp1T tk tv σ H Q:=h
def spIniL(K:Frag)(C:Addr)(f:Str):Sp:=fun vs H Q _=>∃(e c:Addr) (xs:List V),vs=[.ref e,.ref c]∧SqL K H c xs∧H e=some (excX e C none)∧ExcS K C∧ExcF K C f∧∀l dx,H l=none→upd H l (.lst xs) dx=none→Q .non (upd (upd (upd H l (.lst xs)) dx (.xd [(f,.ref l)])) e (excX e C (some dx)))
theorem len_iniL{K:Frag}{C:Addr}{f:Str}{vs:List V}{H:Hp}{Q:VK}{E:XK}{a b:Str}(h:spIniL K C f vs H Q E):vs.length=[a,b].length:=by
 obtain ⟨e,c,y,rfl,_⟩:=h
 rfl
theorem k_raiseIL{K:Frag}{E:XK}{C:Addr}{f:Str}{te:TE}{D:Ends}{σ : St}{H:Hp}(s:ExcS K C)(a:ExcF K C f)
  (h:te σ H fun x H1=>∃(c:Addr) (xs:List V),x = .ref c∧(∀H2,Same H1 H2→SqL K H2 c xs)∧∀l dx H',Same H1 H'→H1 l=none→H' l=some (.lst xs)→H' dx=some (.xd [(f,.ref l)])→E (.ref C) (some dx) H')
  (mono:∀{Q Q':VK},(∀x H1,Q x H1→Q' x H1)→te σ H Q→te σ H Q'):tRaiseI E C (spIniL K C f) te D σ H:=by
 refine mono (fun x H1 ⟨c,xs,ex,hc,k⟩ e he=>?_) h
 subst ex
 refine ⟨e,c,xs,rfl,hc _ (same_new he _),upd_same,s,a,fun l dx hl hdx=>⟨rfl,some dx,upd_same,?_⟩⟩
 have nl:l≠e:=fun z=>by rw [z,upd_same] at hl;cases hl
 have hl1:H1 l=none:=by rw [upd_ne nl] at hl;exact hl
 have ndl:dx≠l:=fun z=>by rw [z,upd_same] at hdx;cases hdx
 rw [upd_ne ndl] at hdx
 have nde:dx≠e:=fun z=>by rw [z,upd_same] at hdx;cases hdx
 have hd1:H1 dx=none:=by rw [upd_ne nde] at hdx;exact hdx
 refine k l dx _ (fun b o q=>?_) hl1 ?_ ?_
 ·have n1:b≠e:=fun z=>by rw [z,he] at q;cases q
  have n2:b≠dx:=fun z=>by rw [z,hd1] at q;cases q
  have n3:b≠l:=fun z=>by rw [z,hl1] at q;cases q
  rw [del_ne n1,upd_ne n1,upd_ne n2,upd_ne n3,upd_ne n1];exact q
 ·rw [del_ne nl,upd_ne nl,upd_ne (Ne.symm ndl),upd_same]
 ·rw [del_ne nde,upd_ne nde,upd_same]
end L2
namespace L2
open PySem PySem.Spec PyProof.Rows
open AutoSeq1 (wpAny_loadPart')
section
variable{prog:Program}{w:World}{A:Around}{E:Value→Shared→Prop}{s:Shared}
theorem nextOf_tupI{it t:Addr}{i:Nat}{items:Array Value}{x:Value}{Q:Value→Shared→Prop}(hit:s.heap.IsTupleIter it t i)(ht:s.heap.IsTuple t items)(hx:items[i]? = some x)(hQ:∀h',h'.IsTupleIter it t (i+1)→Heap.SameBut it s.heap h'→Q x { s with heap:=h' }):wpAny (model prog w) A (Builtin.SmallTypes.nextOf (.ref it)) Q E s:=by
 obtain ⟨o,ho,hc,hd⟩:=id hit;obtain ⟨ol,hol,_,nl,hdl⟩:=ht;unfold Builtin.SmallTypes.nextOf
 refine wpAny_bind (wpAny_callSpecial?_slot (name:=Str.ofString "__next__") hit.typeIs F.slot_tuple_iterator_next (wpAny_call_entry F.slot_tuple_iterator_next hit.typeIs F.entry_tuple_iterator_next ?_ (F.args_tuple_iterator_next_1 _)))
 show wpAny _ _ (field (.ref it) 0 >>= _) _ _ s;refine wpAny_bind (wpAny_field ho hd (x:=.ref t) rfl ?_)
 show wpAny _ _ (if (Value.ref t == Value.none)=true then _ else _) _ _ s;rw [if_neg (show ¬ ((Value.ref t == Value.none)=true) from Bool.false_ne_true)]
 show wpAny _ _ (field (.ref it) 1 >>= _) _ _ s;refine wpAny_bind (wpAny_field ho hd (x:=.int i 0) rfl ?_)
 show wpAny _ _ (seqItems? (.ref t) >>= _) _ _ s;refine wpAny_bind (wpAny_seqItems hol hdl ?_);simp only [Int.toNat_natCast,hx]
 refine wpAny_bind (wpAny_setField ho hd (by simp) (wpAny_pure ⟨x,rfl,wpAny_pure (hQ _ ⟨_,Heap.get?_update_self _ ho (Obj.isFreed_of_fields (Obj.data_mapFields hd _)),(Obj.cls_mapFields ..).trans hc,by rw [Obj.data_mapFields hd];simp [rawInt]⟩ (Heap.SameBut.update ..))⟩))
theorem nextOf_tupE {it t:Addr} {i:Nat} {items:Array Value} {Q:Value→Shared→Prop} (hh:A.handled=none) (hit:s.heap.IsTupleIter it t i) (ht:s.heap.IsTuple t items) (hx:items[i]? = none) (hE:∀h' e,Heap.ExtBut it s.heap h'→(∃o,h'.get? e=some o∧o.cls = .type "StopIteration")→E (.ref e) { s with heap:=h' }):wpAny (model prog w) A (Builtin.SmallTypes.nextOf (.ref it)) Q E s:=by
 obtain ⟨o,ho,hc,hd⟩:=id hit;obtain ⟨ol,hol,_,nl,hdl⟩:=ht;unfold Builtin.SmallTypes.nextOf
 refine wpAny_bind (wpAny_callSpecial?_slot (name:=Str.ofString "__next__") hit.typeIs F.slot_tuple_iterator_next (wpAny_call_entry F.slot_tuple_iterator_next hit.typeIs F.entry_tuple_iterator_next ?_ (F.args_tuple_iterator_next_1 _)))
 show wpAny _ _ (field (.ref it) 0 >>= _) _ _ s;refine wpAny_bind (wpAny_field ho hd (x:=.ref t) rfl ?_)
 show wpAny _ _ (if (Value.ref t == Value.none)=true then _ else _) _ _ s;rw [if_neg (show ¬ ((Value.ref t == Value.none)=true) from Bool.false_ne_true)]
 show wpAny _ _ (field (.ref it) 1 >>= _) _ _ s;refine wpAny_bind (wpAny_field ho hd (x:=.int i 0) rfl ?_)
 show wpAny _ _ (seqItems? (.ref t) >>= _) _ _ s;refine wpAny_bind (wpAny_seqItems hol hdl ?_);simp only [Int.toNat_natCast,hx]
 refine wpAny_bind (wpAny_rule (wpAny_bind (wpAny_setField ho hd (by simp) ?_)));show wpAny _ _ (newExc (.type "StopIteration") [] >>= _) _ _ _
 refine wpAny_bind ?_;simp only [newExc,newTuple];refine wpAny_bind (wpAny_newObj_type ?_ (by size_fits))
 refine wpAny_bind (m:=firstArgMember _ _) (wpAny_of_eq (a:=Value.none) (by first | rfl | (simp only [firstArgMember];rfl)) ?_);refine wpAny_newObj_type ?_ (by size_fits);simp only [raiseNew]
 refine wpAny_bind (wpAny_handled ?_);first | rw [show A.in1.handled=none from hh] | rw [hh]
 refine wpAny_bind (wpAny_pure (wpAny_throw (hE _ _ (((Heap.SameBut.update ..).extBut.push _).push _) ⟨_,Heap.get?_push_size _ rfl,rfl⟩)))
end
theorem draws_tup{prog:Program}{w:World}{A:Around}(hh:A.handled=none)(it l:Addr)(hne:l≠it)(items:Array Value):Draws prog w A it [it,l] items.size (fun i v=>items[i]? = some v) (fun i h=>h.IsTupleIter it l i∧h.IsTuple l items) where
 live:=fun _ _ ⟨⟨o,ho,_⟩,_⟩=>⟨o,ho⟩
 frame:=fun _ _ _ ⟨⟨o,ho,r⟩,o2,ho2,r2⟩ hk=>⟨⟨o,hk it (by simp) o ho,r⟩,o2,hk l (by simp) o2 ho2,r2⟩
 item:=fun i s Q E hi st hQ=>nextOf_tupI st.1 st.2 (x:=items[i]) (by simp [hi]) fun h' hit' hs'=>hQ _ h' s.toks (by simp [hi]) ⟨hit',st.2.extBut hs'.extBut hne⟩ hs'
 done:=fun s Q E st hE=>nextOf_tupE hh st.1 st.2 (by simp) hE
set_option maxHeartbeats 1000000 in
theorem meets_enum_newT (l:Addr) (items:Array Value) (n:Nat) (dct:Option Addr) (sl:Array (Option Value)):Meets (Builtin.«enumerate.__new__» ⟨[.type "enumerate",.ref l],[]⟩) (fun _ R s=>s.heap.get? l=some { cls:=.type "tuple",dict:=dct,data:=.seq items n,slots:=sl }∧R (.ok (.ret (.ref (s.heap.push { cls:=.type "tuple_iterator",data:=.fields #[.ref l,.int 0 0] }).objs.size))) { s with heap:=(s.heap.push { cls:=.type "tuple_iterator",data:=.fields #[.ref l,.int 0 0] }).push { cls:=.type "enumerate",data:=.fields #[.none,.bool false,.ref s.heap.objs.size,rawInt 0,.none,.none] } }) :=
 .of_wp fun prog w A R s h=>by
  obtain ⟨hp,g,d,tk,os⟩:=s;obtain ⟨hl,h⟩:=h;have hsub:=sub_enumerate
  have hL:Heap.IsTuple (Shared.heap ⟨hp,g,d,tk,os⟩) l items:=⟨_,hl,rfl,n,rfl⟩
  wp_walk using wpAny_loadPart' hl
  refine wpAny_stack_any fun st=>wpAny_pure ?_;split
  ·rename_i c _ _ _ _ _;cases (c == Value.type "enumerate") <;> (wp_walk using wpAny_loadPart' hl,wpAny_pyIter_tuple hL;exact ⟨_,rfl,h⟩)
  ·wp_walk using wpAny_loadPart' hl,wpAny_pyIter_tuple hL;exact ⟨_,rfl,h⟩
section
variable{prog:Program}{w:World}{A:Around}{E:Value→Shared→Prop}{s:Shared}
theorem enum_endT{e it l:Addr}{i:Nat}{items:Array Value}{old:Value}{Q:Option Value→Shared→Prop}(hh:A.handled=none)(he:IsEnum s.heap e it i old)(hit:s.heap.IsTupleIter it l i)(hl:s.heap.IsTuple l items)(hx:items[i]? = none)(hQ:∀h',Heap.ExtBut it s.heap h'→Q none { s with heap:=h' }):wpAny (model prog w) A (pyNext (.ref e)) Q E s:=by
 have hT:s.TypeIs (.ref e) "enumerate":=⟨_,he,rfl⟩;unfold pyNext
 refine wpAny_bind (wpAny_attempt (wpAny_callSpecial?_slot (name:=Str.ofString "__next__") hT F.slot_enumerate_next (wpAny_call_entry F.slot_enumerate_next hT F.entry_enumerate_next ?_ (F.args_enumerate_next_1 _))))
 show wpAny _ _ (field (.ref e) 2 >>= _) _ _ _;refine wpAny_bind (wpAny_field he rfl (x:=.ref it) rfl ?_)
 refine wpAny_bind (nextOf_tupE hh hit hl hx fun h' x he' hx'=>?_);obtain ⟨o,ho,hc⟩:=hx'
 refine wpAny_bind (wpAny_isInstance (T:="StopIteration") (b:=true) ⟨o,ho,hc⟩ isSubtype_stop ?_);exact wpAny_pure (hQ _ he')
theorem call_enumT {l:Addr} {items:Array Value} {Q:Value→Shared→Prop} (hL:s.heap.IsTuple l items) (h:∀h',IsEnum h' (s.heap.objs.size+1) s.heap.objs.size 0 .none→h'.IsTupleIter s.heap.objs.size l 0→(∀b o,s.heap.get? b=some o→h'.get? b=some o)→Q (.ref (s.heap.objs.size+1)) { s with heap:=h' }):wpAny (model prog w) A (call (.type "enumerate") [.ref l]) Q E s:=by
 obtain ⟨⟨c,dct,dt,sl⟩,hl,hc,n,hd⟩:=hL;replace hc:c = .type "tuple":=hc;replace hd:dt = .seq items n:=hd;subst hc hd
 refine callType_new F.called_enumerate (by decide) (F.typeCall_enumerate_1 _) (F.newCall_enumerate_1 _) (fun obj=>F.args_object_init_2 obj _) F.entry_enumerate_new (meets_enum_newT l items n dct sl) ⟨hl,?_⟩
 have hz:(s.heap.push { cls:=.type "tuple_iterator",data:=.fields #[.ref l,.int 0 0] }).objs.size=s.heap.objs.size+1:=Heap.size_push ..
 show _∧_;rw [hz]
 have he:IsEnum ((s.heap.push { cls:=.type "tuple_iterator",data:=.fields #[.ref l,.int 0 0] }).push { cls:=.type "enumerate",data:=.fields #[.none,.bool false,.ref s.heap.objs.size,rawInt 0,.none,.none] }) (s.heap.objs.size+1) s.heap.objs.size 0 .none:=by
  have q:=Heap.get?_push_size (s.heap.push { cls:=.type "tuple_iterator",data:=.fields #[.ref l,.int 0 0] }) (o:={ cls:=.type "enumerate",data:=.fields #[.none,.bool false,.ref s.heap.objs.size,rawInt 0,.none,.none] }) rfl
  rw [hz] at q;exact q
 exact ⟨⟨_,he,rfl⟩,h _ he ⟨_,Heap.get?_push_of_some _ (Heap.get?_push_size _ rfl),rfl,rfl⟩ fun b o x=>Heap.get?_push_of_some _ (Heap.get?_push_of_some _ x)⟩
end
def Itet(K:PySem.W.Frag)(a:Addr):It :=
 ⟨fun i H=>∃xs,SqT K H a xs∧i < xs.length,fun i H v H'=>∃T x,H T=none∧v = .ref T∧H'=upd H T (.tup [.int i,x])∧∀xs,SqT K H a xs→xs[i]? = some x,fun i H=>∃xs,SqT K H a xs∧xs.length≤i⟩
theorem turn_enumT{P:Program}{w:World}{K:PySem.W.Frag}{elts:List Expr}{x1}{pos:Pos}{a e it:Addr}(n1:e≠it)(n2:a≠it)(n3:e≠a):Turn P w K (.Tuple elts x1 pos) (Itet K a) [e,it] e (fun i h=>(∃old,IsEnum h e it (i:Int) old)∧h.IsTupleIter it a i) where
 mem:=by simp
 obj:=fun i h ⟨⟨old,he⟩,t⟩ c hc=>by
  simp only [List.mem_cons,List.not_mem_nil,or_false] at hc
  rcases hc with rfl | rfl
  ·exact ⟨_,he,fun v q=>by cases (show Data.fields _=Data.cell v from q)⟩
  ·obtain ⟨o,ho,_,d⟩:=t;exact ⟨o,ho,fun v q=>by rw [d] at q;cases q⟩
 keep:=fun i h h' ⟨⟨old,he⟩,t⟩ kp=>⟨⟨old,kp e (by simp) _ he⟩,t.at fun o z=>kp it (by simp) o z⟩
 item:=by
  intro X hP hw hK hc i pins s σ H E I hf ⟨⟨old,he⟩,t⟩ hg
  subst hP hw hK
  obtain ⟨xs,q1,l1⟩:=hg
  obtain ⟨its,r1,p,_⟩:=I.tuple q1
  obtain ⟨u1,e1,ru1⟩:=r1.get (List.getElem?_eq_getElem l1)
  have pt:s.heap.IsTuple a its.toArray:=p
  have li:i < its.toArray.size:=by have:=r1.length;simp;omega
  refine wpAny_pyNext_enum_itemD (draws_tup (A:=X.A.in1) (I.ok.hd hc) it a n2 its.toArray) he ⟨t,pt⟩ li n1 (by simp [n1,n3]) fun x h' tk hx he' t' hT sz all=>⟨_,rfl,?_⟩
  obtain rfl:u1=x:=by rw [List.getElem?_toArray,e1] at hx;exact Option.some.inj hx
  refine wpAny_letOwnedTupleGo_enum (s:={ s with heap:=h',toks:=tk+1 }) he' fun h2 he2 sb=>?_
  have hfr:H s.heap.objs.size=none:=I.hok.fresh (Nat.le_refl _)
  have nT:∀c∈[e,it],c≠s.heap.objs.size:=fun c hc'=>by
   simp only [List.mem_cons,List.not_mem_nil,or_false] at hc'
   rcases hc' with rfl | rfl
   ·exact Nat.ne_of_lt (Heap.lt_size he)
   ·obtain ⟨o,ho,_⟩:=t;exact Nat.ne_of_lt (Heap.lt_size ho)
  have I1:Inv X pins σ (upd H s.heap.objs.size (.tup [.int i,xs[i]])) { s with heap:=s.heap.push { cls:=.type "tuple",data:=.seq #[.int i tk,u1] } } :=
   I.laid (t':=s.toks) (fun b u z=>Heap.get?_push_of_some _ z) (Nat.le_refl _) ⟨by show 2≤sizeLine;decide,[.int i tk,u1],.cons ⟨_,rfl⟩ (.cons ru1 .nil),⟨_,Heap.get?_push_size _ rfl,rfl,_,rfl⟩⟩
  have I2:Inv X pins σ (upd H s.heap.objs.size (.tup [.int i,xs[i]])) { s with heap:=h2,toks:=tk+1 }:=Inv.turnedL (s:={ s with heap:=s.heap.push { cls:=.type "tuple",data:=.seq #[.int i tk,u1] } }) (t':=tk+1) (fp:=[e,it]) I1 (fun c o hc' z=>by
   have c1:c≠e:=fun x=>hc' (by simp [x])
   have c2:c≠it:=fun x=>hc' (by simp [x])
   rcases Heap.get?_push_cases z with ⟨ec,eo⟩ | z
   ·rw [ec,eo];exact sb.extBut _ _ (nT e (by simp)).symm hT
   ·exact sb.extBut _ _ c1 (all c o c1 c2 z)) fun c hc'=>⟨by rw [upd_ne (nT c hc')];exact (hf c hc').1,(hf c hc').2⟩
  exact ⟨.ref s.heap.objs.size,_,I2,rfl,⟨s.heap.objs.size,xs[i],hfr,rfl,rfl,fun zs hz=>by rw [I.tuple_inj hz q1,List.getElem?_eq_getElem l1]⟩,⟨⟨_,he2⟩,t'.1.at fun o z=>sb.extBut _ _ n1.symm z⟩,fun c hc'=>by rw [upd_ne (nT c hc')];exact (hf c hc').1⟩
 done:=by
  intro X hP hw hK hc i pins s σ H E I hf ⟨⟨old,he⟩,t⟩ hg
  subst hP hw hK
  obtain ⟨xs,q1,le⟩:=hg
  obtain ⟨its,r1,p,_⟩:=I.tuple q1
  have e1:=r1.length
  exact enum_endT (I.ok.hd hc) he t (show s.heap.IsTuple a its.toArray from p) (by simp;omega) fun h' all=>⟨rfl,I.turnedL (t':=s.toks) (fun c o hc' z=>all c o (fun x=>hc' (by simp [x])) z) hf⟩
 self:=fun _ _ _ _ _ st q=>let ⟨⟨_,he⟩,_⟩:=st;wpAny_pyIter_enum he q
def iEnumT(K:PySem.W.Frag)(ta:TA):TI:=fun σ H R=>ta σ H fun vs H1=>∃a xs,vs=[.ref a]∧SqT K H1 a xs∧R (Itet K a) H1
section
variable{X:Cx}
theorem pi_enumT {x:Expr} {ta:TA} {elts:List Expr} {x1} {p pos tp:Pos} (hg:Gl X "enumerate") (hm:X.mg "enumerate" = none) (ha:PA X [x] ta) (hs:starEach [x] X.env=[(false,eval x X.env)]:=by rfl) :
  PI X (.Tuple elts x1 tp) (.Call (.Name "enumerate" p) [x] [] pos) (iEnumT X.K ta):=by
 intro pins s σ H R I h
 refine Call_ (ld_blt I hg hm bb_enumerate (PyProof.Rows.callWith_type1 (thn (ha pos pins s σ H _ I h) fun us s1 ⟨vs,H1,I1,r1,q1⟩=>?_) (by rw [hs];rfl) (by rfl)))
 obtain ⟨a,xs,e,sq,q⟩:=q1
 subst e
 obtain ⟨u1,rfl,ra⟩:=vals1 r1
 cases ra
 obtain ⟨its,rv,p1,_⟩:=I1.tuple sq
 have p2:s1.heap.IsTuple a its.toArray:=p1
 have lt:a < s1.heap.objs.size:=by obtain ⟨_,z,_⟩:=p2;exact Heap.lt_size z
 refine call_enumT p2 fun h' he t kp=>?_
 refine wpAny_pyIter_enum (s:={ s1 with heap:=h' }) he ?_
 refine ⟨s1.heap.objs.size+1,[s1.heap.objs.size+1,s1.heap.objs.size],_,_,H1,rfl,I1.kept (t':=s1.toks) kp,turn_enumT (Nat.succ_ne_self _) (Nat.ne_of_lt lt) (Nat.ne_of_gt (Nat.lt_succ_of_lt lt)),⟨⟨_,he⟩,t⟩,fun c hc=>?_,q⟩
 have le2:s1.heap.objs.size≤c:=by
  simp only [List.mem_cons,List.not_mem_nil,or_false] at hc
  rcases hc with rfl | rfl
  ·exact Nat.le_succ _
  ·exact Nat.le_refl _
 exact I1.fpOk le2 (I1.hok.fresh le2)
end
section
variable{K:PySem.W.Frag}{σ : St}{H:Hp}{D:Ends}
theorem k_enumT{ta:TA}{R:It→Hp→Prop}(h:ta σ H fun vs H1=>∃a xs,vs=[.ref a]∧SqT K H1 a xs∧R (Itet K a) H1):iEnumT K ta σ H R:=h
theorem fat_enumT{a:Addr}{xs:List V}{g:TG}{tb:TS}(Pv:Nat→St→Hp→Prop)(h0:Pv 0 σ H)(hl:∀i σ H,i≤xs.length→Pv i σ H→SqT K H a xs)
  (hs:∀i x σ H T,xs[i]? = some x→Pv i σ H→H T=none→g (.ref T) σ (upd H T (.tup [.int i,x])) fun σ2 H2=>tb { D with nx:=Pv (i+1),ct:=Pv (i+1),bk:=D.nx } σ2 H2) (hd:∀σ H,Pv xs.length σ H→D.nx σ H):FAt (Itet K a) g tb D σ H:=by
 refine ⟨fun i m σ H=>m=xs.length - i∧i≤xs.length∧Pv i σ H,⟨_,rfl,Nat.zero_le _,h0⟩,?_⟩
 rintro i m σ H ⟨rfl,hi,p⟩
 have q:=hl i σ H hi p
 by_cases hlt:i < xs.length
 ·refine .inr ⟨⟨xs,q,hlt⟩,Pv (i+1),fun σ' H' p'=>⟨xs.length - (i+1),by omega,rfl,hlt,p'⟩,fun v H' y=>?_⟩
  obtain ⟨T,x,nT,rfl,rfl,z⟩:=y
  exact hs i x σ H T (z xs q) p nT
 ·have e:i=xs.length:=by omega
  subst e
  exact .inl ⟨⟨xs,q,Nat.le_refl _⟩,hd σ H p⟩
end
end L2
namespace L2
open PySem PySem.Spec PyProof.Rows PySem.SetTable
open PySem.W (Dat kqdP kqdOk)
def lqs(m:Nat):Nat→Nat→List Nat
 | 0,_=>[]
 | n+1,i=>i :: lqs m n ((i*5+1) % (m+1))
theorem lqs_at(m:Nat):∀(n i k:Nat),k < n→(lqs m n i)[k]? = some (lc m k i)
 | 0,_,_,h=>absurd h (Nat.not_lt_zero _)
 | n+1,i,0,_=>rfl
 | n+1,i,k+1,h=>lqs_at m n _ k (by omega)
theorem lqs_len(m:Nat):∀(n i:Nat),(lqs m n i).length=n
 | 0,_=>rfl
 | n+1,i=>congrArg Nat.succ (lqs_len m n _)
theorem full_lqs{m:Nat}(h:((List.range (m+1)).all fun j=>(lqs m (m+1) 0).contains j)=true)(h0:lc m (m+1) 0=0):Full m:=by
 have hit:∀j,j < m+1→∃a,a < m+1∧lc m a 0=j:=fun j hj=>by
  have q:=List.all_eq_true.mp h j (List.mem_range.mpr hj)
  obtain ⟨a,ha⟩:=List.mem_iff_getElem?.mp (List.elem_iff.mp q)
  have la:a < m+1:=by have:=(List.getElem?_eq_some_iff.mp ha).1;rw [lqs_len] at this;exact this
  rw [lqs_at m _ _ _ la] at ha;exact ⟨a,la,Option.some.inj ha⟩
 intro i hi j hj
 obtain ⟨a,la,ea⟩:=hit i hi
 obtain ⟨b,lb,eb⟩:=hit j hj
 by_cases z:a≤b
 ·exact ⟨b - a,by omega,by rw [← ea,← lc_add,show a+(b - a)=b by omega];exact eb⟩
 ·exact ⟨m+1+b - a,by omega,by rw [← ea,← lc_add,show a+(m+1+b - a)=m+1+b by omega,lc_add,h0];exact eb⟩
theorem full127:Full 127:=full_lqs (by decide +kernel) (by decide +kernel)
def Roomy9(t:SetTable)(n:Nat):Prop:=(t.mask=7∧n≤4)∨(t.mask=31∧n≤18)∨(t.mask=127∧n≤76)
def SetZ9(w:World)(h0:Heap)(S:Addr)(ds:List Dat)(h:Heap):Prop:=(∀b o,h0.get? b=some o→h.get? b=some o)∧h0.get? S=none∧∃o es ep t l,h.get? S=some o∧o.ExactSet∧o.data = .set es ep t∧Lain t l (es.toList.map (·.1))∧Roomy9 t l.length ∧
 (∀e∈es.toList,∃d∈ds,Mb w h0 e d)∧(∀d∈ds,∃e∈es.toList,Mb w h0 e d)∧es.size=cnt ds
section
variable{prog:Program}{w:World}{A:Around}{E:Value→Shared→Prop}{s:Shared}
theorem relay_rd9{S:Addr}{o:Obj}{es:Array (Int×Value)}{ep:Nat}{t:SetTable}{l:List Nat}{n:Nat}{Q:Unit→Shared→Prop}(ho:s.heap.get? S=some o)(hd:o.data = .set es ep t)(L:Lain t l (es.toList.map (·.1))){mk:Nat}(hn:SetTable.sizeAbove n - 1=mk)(hsz:SetTable.sizeAbove n≤128)(hF:Full mk)(he:es.size < mk)
  (q:∀es' t' l',Lain t' l' (es'.toList.map (·.1))→t'.mask=mk→es'.size=es.size→(∀e,e∈es'.toList↔e∈es.toList)→Q () { s with heap:=s.heap.update S (Obj.putSet es' t') }) :
  wpAny (model prog w) A (setRelay S n) Q E s:=by
 have hf:t.fits es.size=true:=L.fits (by simp)
 unfold setRelay
 refine wpAny_bind (wpAny_setState_of ho hd hf ?_);dsimp only
 rw [if_neg (by rw [sizeLine_eq];omega)]
 obtain ⟨t',l',ws,e1,L',w1,w2,w3,e2,_,_⟩:=laid_spec hF (es.toList.map (·.1)) (by simp;omega) t.finger (t.movedTo mk) t.led t.plain
 have e3:t.relaid (es.map (·.1)) n=some (t',ws.toArray):=by
  unfold SetTable.relaid
  rw [hn,← e1]
  congr 1
  apply Array.ext';simp
 rw [e3]
 have ef:(ws.toArray.filterMap (es[·]?)).toList=ws.filterMap (es.toList[·]?):=by simp
 have len:(ws.filterMap (es.toList[·]?)).length=ws.length:=by
  clear e1 L' w2 w3 e3 ef
  induction ws with
  | nil=>rfl
  | cons v ws ih =>
   have hv:=w1 v List.mem_cons_self
   rw [List.length_map] at hv
   rw [List.filterMap_cons,List.getElem?_eq_getElem hv]
   simp only [List.length_cons]
   rw [ih fun u hu=>w1 u (List.mem_cons_of_mem _ hu)]
 have maps:(ws.filterMap (es.toList[·]?)).map (·.1)=ws.map ((es.toList.map (·.1)).getD · 0):=by
  clear e1 L' w2 w3 e3 ef len
  induction ws with
  | nil=>rfl
  | cons v ws ih =>
   have hv:=w1 v List.mem_cons_self
   rw [List.length_map] at hv
   rw [List.filterMap_cons,List.getElem?_eq_getElem hv]
   simp only [List.map_cons]
   rw [ih fun u hu=>w1 u (List.mem_cons_of_mem _ hu)]
   congr 1
   rw [List.getD_eq_getElem?_getD,List.getElem?_map,List.getElem?_eq_getElem hv];rfl
 have sz:(ws.toArray.filterMap (es[·]?)).size=es.size:=by
  rw [← Array.length_toList,ef,len,w3];simp
 refine wpAny_bind ?_
 show wpAny _ _ (if ((ws.toArray.filterMap (es[·]?)).size != es.size)=true then _ else pure (ws.toArray.filterMap (es[·]?),t')) _ _ _
 rw [if_neg (by rw [sz];simp)];refine wpAny_pure ?_
 refine wpAny_storeSet_of ho hd ?_ (by rw [sz,sizeLine_eq];omega)
 refine q _ t' l' (by rw [ef,maps];exact L') e2 sz fun e=>?_
 rw [ef,List.mem_filterMap]
 constructor
 ·rintro ⟨v,_,h2⟩
  exact List.mem_of_getElem? h2
 ·intro h
  obtain ⟨v,hv⟩:=List.mem_iff_getElem?.mp h
  refine ⟨v,w2 v ?_,hv⟩
  rw [List.length_map];exact (List.getElem?_eq_some_iff.mp hv).1
open Classical in
theorem add_rd9{h0:Heap}{S:Addr}{ds:List Dat}{x:Value}{d:Dat}{as:List Addr}{Q:Bool→Shared→Prop}(Z:SetZ9 w h0 S ds s.heap)(gx:Good d)(rx:Reads h0 x (kqdP d) as)(hu:A.units+16 < cLine)(hn:ds.length < 76)
  (q:∀b h' tk,SetZ9 w h0 S (ds++[d]) h'→(∀b,b≠S→h'.get? b=s.heap.get? b)→Q b { s with heap:=h',toks:=tk }) :
  wpAny (model prog w) A (setAdd S x) Q E s:=by
 obtain ⟨k0,hS0,o,es,ep,t,l,ho,hx,hd,L,R,m1,m2,c⟩:=Z
 have hl:l.length=es.size:=by rw [L.size];simp
 have hle:es.size≤ds.length:=by rw [c];exact cnt_le ds
 unfold setAdd
 refine wpAny_holding (wpAny_bind (hash_rd 8 _ x A s _ as gx.2.1 (Reads.keeps k0 rx) (by omega) fun tk=>?_))
 unfold setAddHashed
 refine wpAny_holding ?_
 unfold setAddHashedIn
 have hf:t.fits es.size=true:=L.fits (by simp)
 refine wpAny_bind (wpAny_setState_of (s:={ s with toks:=tk }) ho hd hf ?_);dsimp only
 have nos:byScan x es=false:=by
  obtain ⟨xs,ex⟩:=gx.2.2
  rw [ex] at rx
  cases rx with
  | tuple _ _ _ _=>rfl
 rw [nos];simp only [Bool.false_eq_true,if_false]
 have hg:t.gaveWay=false:=by
  unfold SetTable.gaveWay
  rcases R with ⟨e,_⟩ | ⟨e,_⟩ | ⟨e,_⟩ <;> rw [e] <;> decide
 obtain ⟨j,hj,hjl⟩:=some_free L.fill
 obtain ⟨nE,hE1,hE2⟩:=hits L.full (p:=st t.mask (hashP w (kqdP d))) (st_more _ _) (st_perturb _ _) hj
 have hE:at_ t.mask (hashP w (kqdP d)) nE∉l:=by unfold at_;rw [hE2];exact hjl
 have hmask:t.mask≤127:=by rcases R with ⟨e,_⟩ | ⟨e,_⟩ | ⟨e,_⟩ <;> omega
 have mbs:∀e∈es.toList,∃d,Mb w ({ s with toks:=tk }:Shared).heap e d:=fun e he=>by
  obtain ⟨d',_,m⟩:=m1 e he
  exact ⟨d',m.at k0⟩
 have new:∀{e:Int×Value},e∈es.toList→(Mb w s.heap e d↔Mb w h0 e d):=fun {e} he=>by
  obtain ⟨d',_,m⟩:=m1 e he
  constructor
  ·intro z
   have:=z.uniq (m.at k0)
   rw [this];exact m
  ·intro z;exact z.at k0
 unfold setSearch
 refine wpAny_bind (search_rd (s:={ s with toks:=tk }) ho hd L mbs hg gx (Reads.keeps k0 rx) hu hE ?_ ?_ (nE - 0) 0 100000 none rfl (Nat.zero_le _) (by unfold SetTable.turns at hE1;omega) rfl (fun j hj=>absurd hj (by omega)) (fun j i e hj=>absurd hj (by omega)))
 ·rintro ⟨e,he,mb⟩
  dsimp only
  refine wpAny_pure (q _ s.heap tk ⟨k0,hS0,o,es,ep,t,l,ho,hx,hd,L,R,?_,?_,?_⟩ fun _ _=>rfl)
  ·intro e' he'
   obtain ⟨d',h1,h2⟩:=m1 e' he'
   exact ⟨d',List.mem_append_left _ h1,h2⟩
  ·intro d' hd'
   rcases List.mem_append.mp hd' with h1 | h1
   ·exact m2 d' h1
   ·cases List.mem_singleton.mp h1
    exact ⟨e,he,(new he).mp mb⟩
  ·obtain ⟨d',h1,h2⟩:=m1 e he
   have:d'=d:=h2.uniq ((new he).mp mb)
   subst this
   rw [cnt_snoc,if_pos h1,c];rfl
 ·intro n n1 n2 n3
  dsimp only
  refine wpAny_bind (wpAny_setState_of (s:={ s with toks:=tk }) ho hd hf ?_);dsimp only
  obtain ⟨p,p1,p2,L2',p3,p4,p5,p6⟩:=L.put n1 n2 (by rcases R with ⟨e,_⟩ | ⟨e,_⟩ | ⟨e,_⟩ <;> omega)
  have dn:d∉ds:=fun z=>by
   obtain ⟨e,he,mb⟩:=m2 d z
   exact n3 e he ((new he).mpr mb)
  have hsr:∀(h':Heap) (es':Array (Int×Value)) (t':SetTable) (l':List Nat) (o':Obj) (ep' tk':Nat),(∀b,b≠S→h'.get? b=s.heap.get? b)→h'.get? S=some o'→o'.ExactSet→o'.data = .set es' ep' t'→Lain t' l' (es'.toList.map (·.1))→Roomy9 t' l'.length→es'.size=es.size+1 →
    (∀e,e∈es'.toList↔e=(hashP w (kqdP d),x)∨e∈es.toList)→Q true { s with heap:=h',toks:=tk' }:=by
   intro h' es' t' l' o' ep' tk' r1 r2 r3 r4 r5 r6 r7 r8
   refine q _ h' tk' ⟨fun b ob hb=>?_,hS0,o',es',ep',t',l',r2,r3,r4,r5,r6,?_,?_,?_⟩ r1
   ·rw [r1 b (fun z=>by rw [z,hS0] at hb;cases hb)];exact k0 b ob hb
   ·intro e he
    rcases (r8 e).mp he with rfl | he
    ·exact ⟨d,List.mem_append_right _ List.mem_cons_self,gx,⟨as,rx⟩,rfl⟩
    ·obtain ⟨d',h1,h2⟩:=m1 e he
     exact ⟨d',List.mem_append_left _ h1,h2⟩
   ·intro d' hd'
    rcases List.mem_append.mp hd' with h1 | h1
    ·obtain ⟨e,he,mb⟩:=m2 d' h1
     exact ⟨e,(r8 e).mpr (.inr he),mb⟩
    ·cases List.mem_singleton.mp h1
     exact ⟨_,(r8 _).mpr (.inl rfl),gx,⟨as,rx⟩,rfl⟩
   ·rw [cnt_snoc,if_neg dn,r7,c]
  have esl:SetTable.insertAt es p (hashP w (kqdP d),x)=(es.toList.take p++(hashP w (kqdP d),x) :: es.toList.drop p).toArray:=by
   have:=insertAt_list es.toList p (hashP w (kqdP d),x) (by simp;omega)
   simpa using this
  have tail:∀(t1:SetTable),Lain t1 (l.take p++at_ t.mask (hashP w (kqdP d)) n :: l.drop p) ((es.toList.map (·.1)).take p++hashP w (kqdP d) :: (es.toList.map (·.1)).drop p)→t1.mask=t.mask →
    wpAny (model prog w) A (do
     storeSet S (SetTable.insertAt es p (hashP w (kqdP d),x)) t1
     if (!false && t1.tooFull)=true then do
      setRelay S (SetTable.grown (es.size+1))
      pure true
     else pure true) Q E { s with toks:=tk }:=by
   intro t1 L1 hmk
   have L1':Lain t1 (l.take p++at_ t.mask (hashP w (kqdP d)) n :: l.drop p) ((SetTable.insertAt es p (hashP w (kqdP d),x)).toList.map (·.1)):=by rw [esl];simpa using L1
   have szi:(SetTable.insertAt es p (hashP w (kqdP d),x)).size=es.size+1:=by rw [esl];simp;omega
   have mem:∀e,e∈(SetTable.insertAt es p (hashP w (kqdP d),x)).toList↔e=(hashP w (kqdP d),x)∨e∈es.toList:=fun e=>by rw [esl];exact mem_ins
   have ll:(l.take p++at_ t.mask (hashP w (kqdP d)) n :: l.drop p).length=es.size+1:=by simp;omega
   obtain ⟨o1,u1,u2,u3⟩:=put_at (SetTable.insertAt es p (hashP w (kqdP d),x)) t1 ho hd hx
   refine wpAny_bind (wpAny_storeSet_of (s:={ s with toks:=tk }) ho hd ?_ (by rw [szi,sizeLine_eq];omega))
   by_cases tf:t1.tooFull=true
   ·rw [tf];simp only [Bool.not_false,Bool.and_self,if_true]
    have h5:es.size=4∨es.size=18:=by
     unfold SetTable.tooFull SetTable.fill at tf
     rw [L1'.place,L1'.nodum,hmk] at tf
     have tf':=of_decide_eq_true tf
     rw [List.size_toArray,ll] at tf'
     rcases R with ⟨e,e'⟩ | ⟨e,e'⟩ | ⟨e,e'⟩
     ·rw [e] at tf';simp at tf';exact .inl (by omega)
     ·rw [e] at tf';simp at tf';exact .inr (by omega)
     ·rw [e] at tf';simp at tf';omega
    have go:∀mk,SetTable.sizeAbove (SetTable.grown (es.size+1)) - 1=mk→SetTable.sizeAbove (SetTable.grown (es.size+1))≤128→Full mk→es.size+1 < mk→((mk=31∧es.size+1≤18)∨(mk=127∧es.size+1≤76))→wpAny (model prog w) A (do
      setRelay S (SetTable.grown (es.size+1))
      pure true) Q E { s with toks:=tk,heap:=s.heap.update S (Obj.putSet (SetTable.insertAt es p (hashP w (kqdP d),x)) t1) }:=by
     intro mk e1 e2 e3 e4 e5
     refine wpAny_bind (relay_rd9 (s:={ s with toks:=tk,heap:=s.heap.update S (Obj.putSet (SetTable.insertAt es p (hashP w (kqdP d),x)) t1) }) u1 u3 L1' e1 e2 e3 (by rw [szi];exact e4) fun es2 t2 l2 L2 v1 v2 v3=>?_)
     obtain ⟨o2,w1,w2,w3⟩:=put_at es2 t2 u1 u3 u2
     refine wpAny_pure (hsr _ es2 t2 l2 o2 _ tk (fun b hb=>?_) w1 w2 w3 L2 (.inr ?_) (by rw [v2,szi]) fun e=>(v3 e).trans (mem e))
     ·rw [Heap.get?_update_other _ _ (Ne.symm hb),Heap.get?_update_other _ _ (Ne.symm hb)]
     ·have:l2.length=es.size+1:=by rw [L2.size];simp;omega
      rw [this,v1];exact e5
    rcases h5 with h5 | h5
    ·exact go 31 (by rw [h5];decide) (by rw [h5];decide) full31 (by omega) (.inl ⟨rfl,by omega⟩)
    ·exact go 127 (by rw [h5];decide) (by rw [h5];decide) full127 (by omega) (.inr ⟨rfl,by omega⟩)
   ·rw [Bool.eq_false_iff.mpr tf];simp only [Bool.and_false,Bool.false_eq_true,if_false]
    refine wpAny_pure (hsr _ _ t1 _ o1 _ tk (fun b hb=>Heap.get?_update_other _ _ (Ne.symm hb)) u1 u2 u3 L1' ?_ szi mem)
    rw [ll]
    unfold SetTable.tooFull SetTable.fill at tf
    rw [L1'.place,L1'.nodum,hmk,List.size_toArray,ll] at tf
    rcases R with ⟨e,e'⟩ | ⟨e,e'⟩ | ⟨e,e'⟩
    ·refine .inl ⟨hmk.trans e,?_⟩
     rw [e] at tf;simp at tf;omega
    ·refine .inr (.inl ⟨hmk.trans e,?_⟩)
     rw [e] at tf;simp at tf;omega
    ·exact .inr (.inr ⟨hmk.trans e,by omega⟩)
  rw [p2]
  split
  ·refine wpAny_bind (hbv_rd 8 8 (s:={ s with toks:=tk }) gx.2.1 (Nat.le_refl _) (Reads.keeps k0 rx) fun b=>?_)
   cases b
   ·exact tail _ (L2'.plain false) p3
   ·exact tail _ L2' p3
  ·exact wpAny_bind (wpAny_pure (tail _ L2' p3))
end
def rSetE(K:PySem.W.Frag):V→Hp→(Nat→Hp→Prop)→Prop:=fun x H Q=>∃k a xs ds,x = .ref a∧Kn.sq k K H a xs∧RepL K H xs ds∧(∀d∈ds,Good d)∧ds.length < 76∧Q (cnt ds) H
theorem set_tuples9{X:Cx}(hc:X.calm=true)(hu:X.A.units+64 < cLine):SetR X (rSetE X.K):=by
 intro pins s σ H x u Q I r h
 obtain ⟨k,a,xs,ds,rfl,q1,q2,gd,hl,q⟩:=h
 cases r
 obtain ⟨its,rv,sq⟩:=k.inv I q1
 have len1:its.length=ds.length:=by rw [← Paired.length rv];exact q2.length
 have rd:∀(i:Nat) (v:Value),its.toArray[i]? = some v→∃d as,ds[i]? = some d∧Reads s.heap v (kqdP d) as:=by
  intro i v hv
  rw [List.getElem?_toArray] at hv
  obtain ⟨hi,e⟩:=List.getElem?_eq_some_iff.mp hv
  have hx:i < xs.length:=by rw [Paired.length rv];exact hi
  obtain ⟨v',e1,rl⟩:=rv.get (List.getElem?_eq_getElem hx)
  obtain ⟨d,d1,d2⟩:=RepL.get q2 (List.getElem?_eq_getElem hx)
  obtain ⟨as,p⟩:=Rep.reads I d2 rl
  rw [hv] at e1;cases e1
  exact ⟨d,as,d1,p⟩
 have hS0:=none_at s.heap
 refine set_call k (I.ok.hd hc) sq (fun i h=>SetZ9 X.w s.heap s.heap.objs.size (ds.take i) h) ?_ ?_ ?_ ?_
 ·intro led h g kp
  refine ⟨kp,hS0,_,#[],0,.fresh 0 0 led,[],g,⟨rfl,rfl,rfl⟩,rfl,Lain.fresh 0 0 led,.inl ⟨rfl,Nat.zero_le _⟩,fun e he=>absurd he (by simp),fun d hd=>absurd hd (by simp),?_⟩
  simp [cnt,cntR]
 ·rintro i h h' ⟨k0,k1,o,es,ep,t,l,ho,rest⟩ kp
  refine ⟨fun b ob hb=>kp b ob (fun z=>?_) (k0 b ob hb),k1,o,es,ep,t,l,kp _ _ (Nat.ne_of_lt (Nat.lt_succ_self _)) ho,rest⟩
  have:=Heap.lt_size hb
  rw [z] at this
  exact absurd this (Nat.not_lt.mpr (Nat.le_succ _))
 ·intro A' i v s' Q' E' hA hi hv hz hq
  obtain ⟨d,as,d1,d2⟩:=rd i v hv
  have ht:ds.take (i+1)=ds.take i++[d]:=by rw [List.take_add_one,d1];rfl
  refine add_rd9 (prog:=X.prog) hz (gd d (List.mem_of_getElem? d1)) d2 (by omega) (by rw [List.length_take];omega) fun b h' tk z kp=>hq b h' tk (by rw [ht];exact z) kp
 ·intro h' tk z kp
  have ez:ds.take its.toArray.size=ds:=by rw [List.size_toArray,len1,List.take_length]
  rw [ez] at z
  obtain ⟨k0,_,o,es,ep,t,l,ho,hx,hd,L,_,_,_,c⟩:=z
  exact ⟨_,cnt ds,rfl,⟨o,es,ep,t,ho,hx,hd,L.fits (by simp),c⟩,I.kept (t':=tk) k0,q⟩
end L2
set_option Elab.async false
set_option linter.all false
set_option maxRecDepth 100000
set_option maxHeartbeats 4000000
open L2
local macro_rules | `(tactic| walk_at "side")=>`(tactic| first
 | (show (0:Int) < _;omega)
 | (unfold CDiv;omega)
 | (unfold CMul;omega)
 | exact ⟨by decide,by decide,by decide⟩)
local macro_rules | `(tactic| walk_at "rd1")=>`(tactic| first
 | with_reducible refine k_seq ?_
 | with_reducible refine k_asg ?_
 | with_reducible refine k_gName ?_
 | ((with_reducible refine' k_var ?k1 ?_);(case k1=>exact rfl))
 | with_reducible refine k_c ?_
 | with_reducible refine k_op ?_
 | with_reducible refine k_rI0 ?_
 | with_reducible refine k_eqI ?_
 | with_reducible refine k_neI ?_
 | with_reducible refine k_eqS ?_
 | with_reducible refine k_eqB ?_
 | with_reducible refine k_neB ?_
 | with_reducible refine k_ifS ?_
 | with_reducible refine k_test ?_
 | with_reducible refine k_tB ?_
 | with_reducible refine k_bl ?_
 | with_reducible refine k_ret ?_
 | with_reducible refine k_next ?_
 | with_reducible refine k_drop ?_
 | with_reducible refine k_not ?_
 | with_reducible refine k_and ?_
 | with_reducible refine k_or ?_
 | with_reducible refine k_andV ?_
 | with_reducible refine k_orV ?_
 | with_reducible refine k_notV ?_
 | with_reducible refine k_if ?_
 | with_reducible refine k_chain ?_
 | with_reducible refine k_nil ?_
 | with_reducible refine k_cons ?_
 | with_reducible refine k_call ?_
 | with_reducible refine k_cB ?_
 | with_reducible refine k_tup ?_
 | with_reducible refine k_lst ?_
 | with_reducible refine k_un ?_
 | with_reducible refine k_rU ?_
 | with_reducible refine k_sl ?_
 | with_reducible refine k_noPart ?_
 | with_reducible refine k_part ?_
 | with_reducible refine k_int ?_
 | with_reducible refine k_retN ?_
 | with_reducible refine k_dput ?_
 | with_reducible refine k_revT ?_
 | with_reducible refine k_compG ?_
 | with_reducible refine k_compF ?_
 | with_reducible refine k_iStr ?_
 | with_reducible refine k_iSeq ?_
 | with_reducible refine k_isLT ?_
 | with_reducible refine k_enum ?_
 | with_reducible refine k_rev ?_
 | with_reducible refine k_dget ?_
 | with_reducible refine k_dnotIn ?_
 | with_reducible refine k_dget1 ?_
 | with_reducible refine k_par ?_
 | with_reducible refine k_fmtS ?_
 | with_reducible refine k_fmtI ?_
 | with_reducible refine k_jn ?_
 | with_reducible refine k_jn0 ?_
 | with_reducible refine k_zip ?_
 | with_reducible refine k_isN ?_
 | with_reducible refine k_notN ?_
 | with_reducible refine k_for ?_
 | with_reducible refine k_comp ?_
 | with_reducible refine k_rng1 ?_
 | with_reducible refine k_rng2 ?_
 | with_reducible refine k_iList ?_
 | with_reducible refine k_iTup ?_
 | with_reducible refine k_bm ?_
 | with_reducible refine k_bm0 ?_
 | with_reducible refine k_elt ?_
 | with_reducible refine k_gCons ?_
 | with_reducible refine k_gNil ?_
 | with_reducible refine k_break ?_
 | with_reducible refine k_cont ?_
 | with_reducible refine k_int1 ?_
 | with_reducible refine k_intB ?_
 | with_reducible refine k_abs ?_
 | with_reducible refine iteT ?_
 | with_reducible refine iteF ?_
 | with_reducible refine k_iteNT ?_
 | with_reducible refine k_iteNF ?_
 | with_reducible refine k_iteNNT ?_
 | with_reducible refine k_iteNNF ?_
 | ((with_reducible refine' k_rI ?k1 ?_);(case k1=>walk_at "side"))
 | ((with_reducible refine' k_r1F ?k1 ?_);(case k1=>(constructor <;> omega)))
 | ((with_reducible refine' k_r1C ?k1 ?_);(case k1=>(constructor <;> omega))))
local macro_rules | `(tactic| walk_at "rd")=>`(tactic| repeat walk_at "rd1")
namespace G1
open PySem L2 Fr
open PySem.W (Dat kqdOk)
abbrev ends(Q:VK):Ends:={ nx:=fun _ H'=>Q .non H',rt:=Q }
def Mx(n:Int):Prop:=0≤n∧n < 2147483647
def spMixed(K:PySem.W.Frag):Sp:=fun vs H Q _=>∃c m:Int,vs=[.int c,.int m]∧0≤m∧m≤100∧∀(p:Addr) (H':Hp) (ns:List Int),AccZ K H p H' (ns.map Dat.int)→ns.length=m.toNat→(∀n∈ns,Mx n)→Q (.ref p) H'
theorem len_mixed{K:PySem.W.Frag}{vs:List V}{H:Hp}{Q:VK}{E:XK}{y z:Str}(h:spMixed K vs H Q E):vs.length=[y,z].length:=by
 obtain ⟨a,b,rfl,_⟩:=h
 rfl
def t_mixed(K:PySem.W.Frag):TS:=(tSeq (tAsg (tLst tNil) (gName 2))
 (tSeq (tAsg (tOp rDiv (tVar 0) (tC (.int 2))) (gName 3))
 (tSeq (tIfS (tTest (tOp rEq (tOp rMod (tVar 0) (tC (.int 2))) (tC (.int 1))))
 (tSeq (tFor (iRng1 (tCons (tVar 1) tNil)) (gName 4)
 (tSeq (tDrop (tBM K "list" rAppend (tVar 2) (tCons (tOp rMod (tVar 3) (tC (.int 5040))) tNil)))
 (tAsg (tOp rDiv (tVar 3) (tC (.int 5040))) (gName 3))))
 (tRet (tVar 2)))
 tNext)
 (tSeq (tAsg (tOp rMod (tOp qAdd (tOp (rI CMul fun i j=>.int (i*j)) (tOp rMod (tVar 3) (tC (.int 2147483647))) (tC (.int 16807))) (tC (.int 11))) (tC (.int 2147483647))) (gName 3))
 (tSeq (tFor (iRng1 (tCons (tVar 1) tNil)) (gName 4)
 (tSeq (tAsg (tOp rMod (tOp qAdd (tOp qAdd (tOp qAdd (tOp (rI CMul fun i j=>.int (i*j)) (tVar 3) (tVar 3)) (tOp (rI CMul fun i j=>.int (i*j)) (tC (.int 48271)) (tVar 3))) (tVar 4)) (tC (.int 1))) (tC (.int 2147483647))) (gName 3))
 (tDrop (tBM K "list" rAppend (tVar 2) (tCons (tVar 3) tNil)))))
 (tRet (tVar 2)))))))
theorem rd_mixed{K:PySem.W.Frag}{vs:List V}{H:Hp}{Q:VK}{E:XK}{N:List Str}(hN:N.length=5)(h:spMixed K vs H Q E):t_mixed K (ends Q) (L2.start N vs) H:=by
 obtain ⟨c,m,rfl,h0,h1,k⟩:=h
 rw [show L2.start N [.int c,.int m]=[some (.int c),some (.int m),none,none,none] by unfold L2.start;rw [hN];rfl]
 unfold t_mixed
 walk_at "rd"
 refine ⟨by decide,fun l nl=>?_⟩
 walk_at "rd"
 refine k_ite (fun _=>?_) (fun _=>?_)
 ·walk_at "rd"
  refine fat_range (fun i σ H2=>∃(ns:List Int) (z:Int) (v:Option V),σ = [some (.int c),some (.int m),some (.ref l),some (.int z),v]∧AccZ K H l H2 (ns.map Dat.int)∧ns.length=i∧∀n∈ns,Mx n) ⟨[],_,none,rfl,AccZ.start (Same.refl _) nl,rfl,by simp⟩ ?_ ?_
  ·rintro i σ H2 hi ⟨ns,z,v,rfl,A,hl,hb⟩
   walk_at "rd"
   refine ⟨A.ty,?_⟩
   walk_at "rd"
   refine k_appZ A (.int _) (small1000 (by rw [List.length_map];omega)) fun H3 A3 _ _ _=>?_
   walk_at "rd"
   refine ⟨ns++[z % 5040],_,_,rfl,by simpa using A3,by simp [hl],fun n hn=>?_⟩
   rcases List.mem_append.mp hn with q | q
   ·exact hb n q
   ·rw [List.mem_singleton.mp q]
    exact ⟨by omega,by omega⟩
  ·rintro σ H2 ⟨ns,z,v,rfl,A,hl,hb⟩
   walk_at "rd"
   exact k l H2 ns A hl hb
 ·walk_at "rd"
  refine fat_range (fun i σ H2=>∃(ns:List Int) (z:Int) (v:Option V),σ = [some (.int c),some (.int m),some (.ref l),some (.int z),v]∧Mx z∧AccZ K H l H2 (ns.map Dat.int)∧ns.length=i∧∀n∈ns,Mx n) ⟨[],_,none,rfl,⟨by omega,by omega⟩,AccZ.start (Same.refl _) nl,rfl,by simp⟩ ?_ ?_
  ·rintro i σ H2 hi ⟨ns,z,v,rfl,⟨hz0,hz1⟩,A,hl,hb⟩
   walk_at "rd"
   refine ⟨A.ty,?_⟩
   walk_at "rd"
   refine k_appZ A (.int _) (small1000 (by rw [List.length_map];omega)) fun H3 A3 _ _ _=>?_
   have w:Mx ((z*z+48271*z+(0+(i:Int))+1) % 2147483647):=⟨by omega,by omega⟩
   walk_at "rd"
   refine ⟨ns++[(z*z+48271*z+(0+(i:Int))+1) % 2147483647],_,_,rfl,w,by rw [List.map_append];exact A3,by simp [hl],fun n hn=>?_⟩
   rcases List.mem_append.mp hn with q | q
   ·exact hb n q
   ·rw [List.mem_singleton.mp q]
    exact w
  ·rintro σ H2 ⟨ns,z,v,rfl,_,A,hl,hb⟩
   walk_at "rd"
   exact k l H2 ns A hl hb
def HeapOk(n:Nat)(hs:List Int):Prop:=hs.length=n∧∀x∈hs,0≤x∧x≤3
abbrev dI(ns:List Int):Dat:=.tuple (ns.map Dat.int)
def spHeap(K:PySem.W.Frag):Sp:=fun vs H Q _=>∃n m t:Int,vs=[.int n,.int m,.int t]∧0≤m∧m≤100∧0≤t∧t≤3∧∀(p:Addr) (H':Hp) (hs:List Int),Same H H'→HeapOk m.toNat hs→Rz K H' (.ref p) (dI hs)→Q (.ref p) H'
theorem len_heap{K:PySem.W.Frag}{vs:List V}{H:Hp}{Q:VK}{E:XK}{x y z:Str}(h:spHeap K vs H Q E):vs.length=[x,y,z].length:=by
 obtain ⟨a,b,c,rfl,_⟩:=h
 rfl
theorem AccZ.ints{K:PySem.W.Frag}{H0 H:Hp}{l:Addr}{ns:List Int}(A:AccZ K H0 l H (ns.map Dat.int)):H l=some (.lst (ns.map V.int)):=by
 obtain ⟨xs,h1,h2⟩:=A.at_
 rw [RpL.ints_of h2] at h1
 exact h1
theorem AccZ.strs{K:PySem.W.Frag}{H0 H:Hp}{l:Addr}{ns:List Str}(A:AccZ K H0 l H (ns.map Dat.str)):H l=some (.lst (ns.map V.str)):=by
 obtain ⟨xs,h1,h2⟩:=A.at_
 rw [RpL.strs_of h2] at h1
 exact h1
def t_heap(K:PySem.W.Frag):TS:=(tSeq (tAsg (tLst tNil) (gName 3))
 (tSeq (tFor (iRng1 (tCons (tVar 1) tNil)) (gName 4)
 (tSeq (tDrop (tBM K "list" rAppend (tVar 3) (tCons (tOp rMod (tVar 0) (tOp qAdd (tVar 2) (tC (.int 1)))) tNil)))
 (tAsg (tOp rDiv (tVar 0) (tOp qAdd (tVar 2) (tC (.int 1)))) (gName 0))))
 (tRet (tCB (rTupOf K) (tCons (tVar 3) tNil)))))
theorem rd_heap{K:PySem.W.Frag}{vs:List V}{H:Hp}{Q:VK}{E:XK}{N:List Str}(hN:N.length=5)(h:spHeap K vs H Q E):t_heap K (ends Q) (L2.start N vs) H:=by
 obtain ⟨n0,m,t,rfl,h0,h1,t0,t1,k⟩:=h
 rw [show L2.start N [.int n0,.int m,.int t]=[some (.int n0),some (.int m),some (.int t),none,none] by unfold L2.start;rw [hN];rfl]
 unfold t_heap
 walk_at "rd"
 refine ⟨by decide,fun l nl=>?_⟩
 walk_at "rd"
 refine fat_range (fun i σ H2=>∃(ns:List Int) (z:Int) (v:Option V),σ = [some (.int z),some (.int m),some (.int t),some (.ref l),v]∧AccZ K H l H2 (ns.map Dat.int)∧HeapOk i ns) ⟨[],_,none,rfl,AccZ.start (Same.refl _) nl,rfl,by simp⟩ ?_ ?_
 ·rintro i σ H2 hi ⟨ns,z,v,rfl,A,hl,hb⟩
  walk_at "rd"
  refine ⟨A.ty,?_⟩
  walk_at "rd"
  refine k_appZ A (.int _) (small1000 (by rw [List.length_map];omega)) fun H3 A3 _ _ _=>?_
  walk_at "rd"
  refine ⟨ns++[_],_,_,rfl,by simpa using A3,by simp [hl],fun n hn=>?_⟩
  rcases List.mem_append.mp hn with q | q
  ·exact hb n q
  ·rw [List.mem_singleton.mp q]
   have e1:=Int.emod_nonneg z (b:=t+1) (by omega)
   have e2:=Int.emod_lt_of_pos z (b:=t+1) (by omega)
   exact ⟨by omega,by omega⟩
 ·rintro σ H2 ⟨ns,z,v,rfl,A,hh⟩
  walk_at "rd"
  have e:=AccZ.ints A
  refine k_tupL (SqL.of e) fun p np=>?_
  exact k p _ ns (A.same.trans (same_new np _)) hh (.tup upd_same (RpL.ints ns))
abbrev az:Str:="abcdefghijklmnopqrstuvwxyz"
theorem az_at:∀j:Nat,j < 26→az.cps.toList[j]? = some (97+j):=by decide +kernel
theorem az_find:∀j:Nat,j < 26→Txt.find az ⟨#[97+j]⟩=(j:Int):=by decide +kernel
theorem az_len:az.length≤sizeLine:=by decide +kernel
theorem az_ix{i:Int}(h0:0≤i)(h1:i < 26):atI az.cps.toList i=some (97+i.toNat):=by
 have e:i=((i.toNat:Nat):Int):=by omega
 have q:=atI_nat (az_at i.toNat (by omega))
 rw [← e] at q
 exact q
def Low(z:Str):Prop:=∀x∈z.cps.toList,97≤x∧x≤122
theorem cl_len(z:Str):z.cps.toList.length=z.length:=by simp [Str.length]
theorem low_one{c:Nat}(h0:97≤c)(h1:c≤122):Low ⟨#[c]⟩:=fun x hx=>by
 have:x=c:=by simpa using hx
 omega
theorem low_app{a b:Str}(ha:Low a)(hb:Low b):Low (a++b):=fun x hx=>by
 rw [Str.cps_append,Array.toList_append] at hx
 rcases List.mem_append.mp hx with q | q
 ·exact ha x q
 ·exact hb x q
theorem low_cut{z:Str}{lo hi:Option Int}(h:Low z):Low (scut z lo hi):=fun x hx=>by
 have q:x∈(hiL z.cps.toList hi).drop (lo.getD 0).toNat:=by simpa [scut] using hx
 have q2:=List.mem_of_mem_drop q
 cases hi with
 | none=>exact h x q2
 | some j=>exact h x (List.mem_of_mem_take q2)
theorem scut_len(z:Str)(lo hi:Option Int):(scut z lo hi).length=(hiL z.cps.toList hi).length - (lo.getD 0).toNat:=by
 show (List.drop (lo.getD 0).toNat (hiL z.cps.toList hi)).toArray.size=_
 rw [List.size_toArray,List.length_drop]
def spBase:Sp:=fun vs H Q _=>∃c m:Int,vs=[.int c,.int m]∧0≤m∧m≤100∧∀z:Str,z.length=m.toNat→Low z→Q (.str z) H
theorem len_base{vs:List V}{H:Hp}{Q:VK}{E:XK}{y z:Str}(h:spBase vs H Q E):vs.length=[y,z].length:=by
 obtain ⟨a,b,rfl,_⟩:=h
 rfl
def t_base(K:PySem.W.Frag):TS:=(tSeq (tAsg (tOp rMod (tOp qAdd (tOp (rI CMul fun i j=>.int (i*j)) (tOp rMod (tVar 0) (tC (.int 2147483647))) (tC (.int 16807))) (tC (.int 11))) (tC (.int 2147483647))) (gName 2))
 (tSeq (tAsg (tC (.str "")) (gName 3))
 (tSeq (tFor (iRng1 (tCons (tVar 1) tNil)) (gName 4)
 (tSeq (tAsg (tOp rMod (tOp qAdd (tOp qAdd (tOp qAdd (tOp (rI CMul fun i j=>.int (i*j)) (tVar 2) (tVar 2)) (tOp (rI CMul fun i j=>.int (i*j)) (tC (.int 48271)) (tVar 2))) (tVar 4)) (tC (.int 1))) (tC (.int 2147483647))) (gName 2))
 (tAsg (tOp rAddS (tVar 3) (tOp rIxS (tC (.str "abcdefghijklmnopqrstuvwxyz")) (tOp rMod (tVar 2) (tC (.int 26))))) (gName 3))))
 (tRet (tVar 3)))))
theorem rd_base{K:PySem.W.Frag}{vs:List V}{H:Hp}{Q:VK}{E:XK}{N:List Str}(hN:N.length=5)(h:spBase vs H Q E):t_base K (ends Q) (L2.start N vs) H:=by
 obtain ⟨c,m,rfl,h0,h1,k⟩:=h
 rw [show L2.start N [.int c,.int m]=[some (.int c),some (.int m),none,none,none] by unfold L2.start;rw [hN];rfl]
 unfold t_base
 walk_at "rd"
 refine fat_range (fun i σ H2=>∃(z:Int) (w:Str) (v:Option V),σ = [some (.int c),some (.int m),some (.int z),some (.str w),v]∧Mx z∧H2=H∧w.length=i∧Low w) ⟨_,"",none,rfl,⟨by omega,by omega⟩,rfl,rfl,by intro x hx;exact absurd hx (by decide +revert)⟩ ?_ ?_
 ·rintro i σ H2 hi ⟨z,w,v,rfl,⟨hz0,hz1⟩,rfl,hl,hw⟩
  walk_at "rd"
  refine k_ixS az_len (az_ix (by omega) (by omega)) ?_
  refine k_addS ?_ ?_
  ·rw [hl]
   exact Nat.le_of_lt (small1000 (by show i+1≤1000;omega))
  walk_at "rd"
  refine ⟨_,_,_,rfl,⟨by omega,by omega⟩,rfl,?_,low_app hw (low_one (by omega) (by omega))⟩
  rw [Str.length_append,hl]
  rfl
 ·rintro σ H2 ⟨z,w,v,rfl,_,rfl,hl,hw⟩
  walk_at "rd"
  exact k w hl hw
def spWord:Sp:=fun vs H Q _=>∃(b:Str) (p s k:Int),vs=[.str b,.int p,.int s,.int k]∧b.length=8∧Low b∧0≤p∧p < s∧s≤8∧0≤k∧k≤100 ∧
 ∀(w:Str) (c:Nat),w.length=s.toNat→Low w→b.cps.toList[p.toNat]? = some c→w.cps.toList[p.toNat]? = some (97+(((c:Int) - 97+3*k) % 26).toNat)→Q (.str w) H
theorem len_word{vs:List V}{H:Hp}{Q:VK}{E:XK}{x y z u:Str}(h:spWord vs H Q E):vs.length=[x,y,z,u].length:=by
 obtain ⟨a,b,c,d,rfl,_⟩:=h
 rfl
def t_word (K:PySem.W.Frag):TS:=(tSeq (tAsg (tC (.str "abcdefghijklmnopqrstuvwxyz")) (gName 4))
 (tSeq (tAsg (tOp rIxS (tVar 4) (tOp rMod (tOp qAdd (tBM K "str" rFind (tVar 4) (tCons (tOp rIxS (tVar 0) (tVar 1)) tNil)) (tOp (rI CMul fun i j=>.int (i*j)) (tC (.int 3)) (tVar 3))) (tC (.int 26)))) (gName 5))
 (tRet (tOp rAddS (tOp rAddS (tSl rSlS (tVar 0) tNoPart (tPart (tVar 1))) (tVar 5)) (tSl rSlS (tVar 0) (tPart (tOp qAdd (tVar 1) (tC (.int 1)))) (tPart (tVar 2)))))))
theorem rd_word{K:PySem.W.Frag}{vs:List V}{H:Hp}{Q:VK}{E:XK}{N:List Str}(hN:N.length=6)(h:spWord vs H Q E):t_word K (ends Q) (L2.start N vs) H:=by
 obtain ⟨b,p,s,k,rfl,hb,lb,p0,p1,s8,k0,k1,q⟩:=h
 rw [show L2.start N [.str b,.int p,.int s,.int k]=[some (.str b),some (.int p),some (.int s),some (.int k),none,none] by unfold L2.start;rw [hN];rfl]
 unfold t_word
 have hp:p.toNat < b.cps.toList.length:=by rw [cl_len];omega
 have hc:=lb _ (List.getElem_mem hp)
 have e1:b.cps.toList[p.toNat]? = some b.cps.toList[p.toNat]:=List.getElem?_eq_getElem hp
 generalize b.cps.toList[p.toNat]=c at hc e1
 have e2:atI b.cps.toList p=some c:=by
  have e:p=((p.toNat:Nat):Int):=by omega
  have q:=atI_nat e1
  rw [← e] at q
  exact q
 have bl:b.length≤sizeLine:=by rw [hb];decide
 walk_at "rd"
 refine ⟨rfl,?_⟩
 walk_at "rd"
 refine k_ixS bl e2 ?_
 refine ⟨_,_,rfl,rfl,?_⟩
 have ec:(⟨#[c]⟩:Str) = ⟨#[97+(c - 97)]⟩:=by
  have:c=97+(c - 97):=by omega
  rw [← this]
 rw [ec,az_find (c - 97) (by omega)]
 walk_at "rd"
 have ej:(((c - 97:Nat):Int)+3*k) % 26=((c:Int) - 97+3*k) % 26:=by congr 1;omega
 rw [ej]
 refine k_ixS az_len (az_ix (by omega) (by omega)) ?_
 walk_at "rd"
 refine ⟨_,rfl,bl,trivial,p0,?_⟩
 have n1:=scut_len b none (some p)
 have n2:=scut_len b (some (p+1)) (some s)
 simp only [hiL,List.length_take,cl_len,hb,Option.getD] at n1 n2
 have n1':(scut b none (some p)).length=p.toNat:=by
  rw [n1]
  have:(0:Int).toNat=0:=rfl
  omega
 have n2':(scut b (some (p+1)) (some s)).length=s.toNat - (p.toNat+1):=by
  rw [n2]
  omega
 walk_at "rd"
 refine k_addS ?_ ?_
 ·rw [n1']
  exact Nat.le_of_lt (small1000 (by show p.toNat+1≤1000;omega))
 walk_at "rd"
 refine ⟨_,rfl,bl,(by show 0≤p+1;omega),(by show 0≤s;omega),?_⟩
 refine k_addS ?_ ?_
 ·rw [Str.length_append,n1',n2']
  exact Nat.le_of_lt (small1000 (by show p.toNat+1+_≤1000;omega))
 refine q _ c ?_ (low_app (low_app (low_cut lb) (low_one (by omega) (by omega))) (low_cut lb)) e1 ?_
 ·rw [Str.length_append,Str.length_append,n1',n2']
  show p.toNat+1+_=_
  omega
 ·rw [Str.cps_append,Str.cps_append,Array.toList_append,Array.toList_append,List.append_assoc,List.getElem?_append_right (by rw [cl_len,n1'];exact Nat.le_refl _),cl_len,n1',Nat.sub_self]
  rfl
end G1
namespace G1
open PySem L2 Fr
open PySem.W (Dat kqdOk)
def WordOk(w:Str):Prop:=1≤w.length∧w.length≤8∧Low w
def WordsOk(ws:List Str):Prop:=ws.Nodup∧∀w∈ws,WordOk w
def spWords(K:PySem.W.Frag):Sp:=fun vs H Q _=>∃(a:Addr) (ns:List Int) (t m:Int),vs=[.ref a,.int t,.int m]∧SqL K H a (ns.map V.int)∧0≤t∧1≤m∧m≤5 ∧
 ∀(p:Addr) (H':Hp) (ws:List Str),AccZ K H p H' (ws.map Dat.str)→WordsOk ws→ws.length=m.toNat→Q (.ref p) H'
theorem len_words{K:PySem.W.Frag}{vs:List V}{H:Hp}{Q:VK}{E:XK}{x y z:Str}(h:spWords K vs H Q E):vs.length=[x,y,z].length:=by
 obtain ⟨a,b,c,d,rfl,_⟩:=h
 rfl
theorem nodup_snoc{α : Type}{xs:List α}{x : α}(h:xs.Nodup)(n:x∉xs):(xs++[x]).Nodup:=by
 rw [List.nodup_append]
 refine ⟨h,by simp,?_⟩
 intro a ha b hb e
 rw [List.mem_singleton.mp hb] at e
 exact n (e ▸ ha)
theorem all_snoc{α : Type}{P : α→Prop}{xs:List α}{x : α}(h:∀y∈xs,P y)(n:P x):∀y∈xs++[x],P y:=fun y hy=>by
 rcases List.mem_append.mp hy with q | q
 ·exact h y q
 ·rw [List.mem_singleton.mp q]
  exact n
def t_words(K:PySem.W.Frag):TS:=(tSeq (tAsg (tCall (spCell K) [] E0 (tCons (tVar 0) (tCons (tVar 1) tNil))) (gName 3))
 (tSeq (tAsg (tOp qAdd (tC (.int 1)) (tOp rMod (tVar 3) (tC (.int 8)))) (gName 4))
 (tSeq (tAsg (tCall spBase [] E0 (tCons (tCall (spCell K) [] E0 (tCons (tVar 0) (tCons (tOp qAdd (tVar 1) (tC (.int 1))) tNil))) (tCons (tC (.int 8)) tNil))) (gName 5))
 (tSeq (tAsg (tLst tNil) (gName 6))
 (tSeq (tFor (iRng1 (tCons (tVar 2) tNil)) (gName 7)
 (tSeq (tAsg (tCall spWord [] E0 (tCons (tVar 5) (tCons (tOp rMod (tOp rDiv (tVar 3) (tC (.int 32))) (tVar 4)) (tCons (tVar 4) (tCons (tVar 7) tNil))))) (gName 8))
 (tSeq (tIfS (tTest (tOp rEq (tOp rMod (tOp rDiv (tVar 3) (tC (.int 8))) (tC (.int 4))) (tC (.int 1))))
 (tAsg (tSl rSlS (tVar 5) tNoPart (tPart (tOp qAdd (tVar 7) (tC (.int 1))))) (gName 8))
 tNext)
 (tDrop (tBM K "list" rAppend (tVar 6) (tCons (tVar 8) tNil))))))
 (tRet (tVar 6)))))))
theorem rd_words{K:PySem.W.Frag}{vs:List V}{H:Hp}{Q:VK}{E:XK}{N:List Str}(hN:N.length=9)(h:spWords K vs H Q E):t_words K (ends Q) (L2.start N vs) H:=by
 obtain ⟨a,ns,t,m,rfl,hS,t0,m1,m5,k⟩:=h
 rw [show L2.start N [.ref a,.int t,.int m]=[some (.ref a),some (.int t),some (.int m),none,none,none,none,none,none] by unfold L2.start;rw [hN];rfl]
 unfold t_words
 walk_at "rd"
 refine ⟨a,ns,t,rfl,hS,t0,?_⟩
 generalize cellOf ns t=c
 walk_at "rd"
 refine ⟨a,ns,t+1,rfl,hS,by omega,?_⟩
 generalize cellOf ns (t+1)=c2
 walk_at "rd"
 refine ⟨c2,8,rfl,by decide,by decide,fun b hb lb=>?_⟩
 walk_at "rd"
 refine ⟨by decide,fun l nl=>?_⟩
 walk_at "rd"
 have sp:0 < 1+c % 8:=by omega
 refine fat_range (fun i σ H2=>∃(ws:List Str) (v7 v8:Option V),σ = [some (.ref a),some (.int t),some (.int m),some (.int c),some (.int (1+c % 8)),some (.str b),some (.ref l),v7,v8]∧AccZ K H l H2 (ws.map Dat.str)∧ws.length=i∧WordsOk ws ∧
   ∀(j:Nat) (w:Str),ws[j]? = some w→(c / 8 % 4=1→w.length=j+1)∧(c / 8 % 4≠1→∃e:Nat,b.cps.toList[(c / 32 % (1+c % 8)).toNat]? = some e∧w.cps.toList[(c / 32 % (1+c % 8)).toNat]? = some (97+(((e:Int) - 97+3*(j:Int)) % 26).toNat)))
  ⟨[],none,none,rfl,AccZ.start (Same.refl _) nl,rfl,⟨List.nodup_nil,by simp⟩,by simp⟩ ?_ ?_
 ·rintro i σ H2 hi ⟨ws,v7,v8,rfl,A,hl,hw,hj⟩
  have pm0:=Int.emod_nonneg (c / 32) (b:=1+c % 8) (by omega)
  have pm1:=Int.emod_lt_of_pos (c / 32) sp
  walk_at "rd"
  refine ⟨b,c / 32 % (1+c % 8),1+c % 8,0+(i:Int),rfl,hb,lb,pm0,pm1,by omega,by omega,by omega,fun w e n1 n2 e1 e2=>?_⟩
  have fin:∀x:Str,WordOk x→((c / 8 % 4=1→x.length=i+1)∧(c / 8 % 4≠1→∃e:Nat,b.cps.toList[(c / 32 % (1+c % 8)).toNat]? = some e∧x.cps.toList[(c / 32 % (1+c % 8)).toNat]? = some (97+(((e:Int) - 97+3*(i:Int)) % 26).toNat))) →
    WordsOk (ws++[x])∧∀(j:Nat) (w:Str),(ws++[x])[j]? = some w→(c / 8 % 4=1→w.length=j+1)∧(c / 8 % 4≠1→∃e:Nat,b.cps.toList[(c / 32 % (1+c % 8)).toNat]? = some e∧w.cps.toList[(c / 32 % (1+c % 8)).toNat]? = some (97+(((e:Int) - 97+3*(j:Int)) % 26).toNat)):=by
   intro x ox px
   refine ⟨⟨nodup_snoc hw.1 fun hx=>?_,all_snoc hw.2 ox⟩,fun j w e=>?_⟩
   ·obtain ⟨j,hj1,hj2⟩:=List.mem_iff_getElem.mp hx
    have g:ws[j]? = some x:=by rw [List.getElem?_eq_getElem hj1,hj2]
    obtain ⟨q1,q2⟩:=hj j x g
    by_cases f:c / 8 % 4=1
    ·have:=q1 f
     have:=px.1 f
     omega
    ·obtain ⟨e',g1,g2⟩:=q2 f
     obtain ⟨e'',g3,g4⟩:=px.2 f
     rw [g1] at g3
     cases g3
     rw [g2] at g4
     have g5:=Option.some.inj g4
     omega
   ·by_cases lt:j < ws.length
    ·rw [List.getElem?_append_left lt] at e
     exact hj j w e
    ·rw [List.getElem?_append_right (by omega)] at e
     have z:j - ws.length=0:=by
      rcases Nat.eq_zero_or_pos (j - ws.length) with z | z
      ·exact z
      ·rw [List.getElem?_eq_none (by simp;omega)] at e
       cases e
     rw [z] at e
     have e':x=w:=by simpa using e
     have ej:j=i:=by omega
     rw [← e',ej]
     exact px
  walk_at "rd"
  refine k_ite (fun f=>?_) (fun f=>?_)
  ·walk_at "rd"
   refine ⟨_,rfl,by rw [hb];decide,trivial,(by show 0≤0+(i:Int)+1;omega),?_⟩
   have sl:=scut_len b none (some (0+(i:Int)+1))
   simp only [hiL,List.length_take,cl_len,hb,Option.getD] at sl
   have sl':(scut b none (some (0+(i:Int)+1))).length=i+1:=by
    rw [sl]
    have:(0:Int).toNat=0:=rfl
    have:(8:Int).toNat=8:=rfl
    omega
   walk_at "rd"
   refine ⟨A.ty,?_⟩
   walk_at "rd"
   refine k_appZ A (.str _) (small1000 (by rw [List.length_map];omega)) fun H3 A3 _ _ _=>?_
   walk_at "rd"
   obtain ⟨r1,r2⟩:=fin (scut b none (some (0+(i:Int)+1))) ⟨by omega,by omega,low_cut lb⟩ ⟨fun _=>sl',fun z=>absurd f z⟩
   exact ⟨ws++[_],_,_,rfl,by rw [List.map_append];exact A3,by simp [hl],r1,r2⟩
  ·walk_at "rd"
   refine ⟨A.ty,?_⟩
   walk_at "rd"
   refine k_appZ A (.str _) (small1000 (by rw [List.length_map];omega)) fun H3 A3 _ _ _=>?_
   walk_at "rd"
   have ei:(0:Int)+(i:Int)=(i:Int):=by omega
   rw [ei] at e2
   obtain ⟨r1,r2⟩:=fin w ⟨by omega,by omega,n2⟩ ⟨fun z=>absurd z f,fun _=>⟨e,e1,e2⟩⟩
   exact ⟨ws++[w],_,_,rfl,by rw [List.map_append];exact A3,by simp [hl],r1,r2⟩
 ·rintro σ H2 ⟨ws,v7,v8,rfl,A,hl,hw,hj⟩
  walk_at "rd"
  exact k l H2 ws A hw hl
def PaceOk(q d:Int):Prop:=0 < q∧0 < d∧Gd.gd q d=1∧q≤10000000000∧d≤10000000000
def spLowP(K:PySem.W.Frag):Sp:=fun vs H Q _=>∃t b:Int,vs=[.int t,.int b]∧0 < t∧0 < b∧t≤10000000000∧b≤10000000000∧∀(p:Addr) (q d:Int) (H':Hp),Same H H'→PaceOk q d→Rz K H' (.ref p) (dI [q,d])→Q (.ref p) H'
theorem len_lowP{K:PySem.W.Frag}{vs:List V}{H:Hp}{Q:VK}{E:XK}{y z:Str}(h:spLowP K vs H Q E):vs.length=[y,z].length:=by
 obtain ⟨a,b,rfl,_⟩:=h
 rfl
theorem rd_lowP{K:PySem.W.Frag}{vs:List V}{H:Hp}{Q:VK}{E:XK}{N:List Str}(hN:N.length=3)(h:spLowP K vs H Q E):tLow0 (ends Q) (L2.start N vs) H:=by
 obtain ⟨t,b,rfl,t0,b0,t1,b1,k⟩:=h
 rw [show L2.start N [.int t,.int b]=[some (.int t),some (.int b),none] by unfold L2.start;rw [hN];rfl]
 unfold tLow0
 walk_at "rd"
 refine k_ite (fun z=>absurd z (by omega)) (fun _=>?_)
 walk_at "rd"
 refine k_ite (fun z=>absurd z (by omega)) (fun _=>?_)
 unfold tLowT
 walk_at "rd"
 refine ⟨t,b,rfl,?_⟩
 have nb:b≠0:=by omega
 have gp:=Gd.gd_pos (a:=t) nb
 have gl:=Gd.gd_le (a:=t) nb
 have wd:(Gd.gd t b).natAbs < 2 ^ 9000:=Gd.wide (by omega)
 have L:=Gd.low_of (t:=t) (b:=b) (d:=Gd.gd t b) nb (.inl ⟨rfl,b0⟩)
 have M:=Gd.low_abs (t:=t) (b:=b) (d:=Gd.gd t b) nb (.inl ⟨rfl,b0⟩)
 walk_at "rd"
 refine k_rI ⟨by omega,wd⟩ ?_
 walk_at "rd"
 refine k_rI ⟨by omega,wd⟩ ?_
 walk_at "rd"
 refine ⟨by show 2≤sizeLine;decide,fun p np=>?_⟩
 have q0:0 < t.fdiv (Gd.gd t b):=by
  have w:=L.worth
  have:=L.pos
  by_cases z:0 < t.fdiv (Gd.gd t b)
  ·exact z
  ·have h1:t.fdiv (Gd.gd t b)*b≤0:=Int.mul_nonpos_of_nonpos_of_nonneg (by omega) (by omega)
   have h2:0 < t*b.fdiv (Gd.gd t b):=Int.mul_pos t0 L.pos
   omega
 have:=L.pos
 exact k p _ _ _ (same_new np _) ⟨q0,L.pos,L.low,by omega,by omega⟩ (.tup upd_same (RpL.ints [_,_]))
def spPace(K:PySem.W.Frag):Sp:=fun vs H Q _=>∃(a b:Int) (g:Bool),vs=[.int a,.int b,.bl g]∧Mx a∧Mx b∧∀(p:Addr) (q d:Int) (H':Hp),Same H H'→PaceOk q d→Rz K H' (.ref p) (dI [q,d])→Q (.ref p) H'
theorem len_pace{K:PySem.W.Frag}{vs:List V}{H:Hp}{Q:VK}{E:XK}{x y z:Str}(h:spPace K vs H Q E):vs.length=[x,y,z].length:=by
 obtain ⟨a,b,g,rfl,_⟩:=h
 rfl
def t_pace(K:PySem.W.Frag):TS:=(tSeq (tIfS (tB (tVar 2))
 (tRet (tCall (spLowP K) [] E0 (tCons (tOp qAdd (tC (.int 1)) (tOp rMod (tOp (rI CMul fun i j=>.int (i*j)) (tVar 0) (tC (.int 9))) (tOp qSub (tOp rPow (tC (.int 10)) (tC (.int 10))) (tC (.int 1))))) (tCons (tOp qAdd (tC (.int 1)) (tOp rMod (tOp (rI CMul fun i j=>.int (i*j)) (tVar 1) (tC (.int 7))) (tOp qSub (tOp rPow (tC (.int 10)) (tC (.int 10))) (tC (.int 1))))) tNil))))
 tNext)
 (tRet (tCall (spLowP K) [] E0 (tCons (tOp qAdd (tC (.int 1)) (tOp rMod (tVar 0) (tC (.int 9)))) (tCons (tOp qAdd (tC (.int 1)) (tOp rMod (tVar 1) (tC (.int 4)))) tNil)))))
theorem p10:(10:Int) ^ (10:Int).toNat=10000000000:=by decide +kernel
theorem rd_pace{K:PySem.W.Frag}{vs:List V}{H:Hp}{Q:VK}{E:XK}{N:List Str}(hN:N.length=3)(h:spPace K vs H Q E):t_pace K (ends Q) (L2.start N vs) H:=by
 obtain ⟨a,b,g,rfl,⟨a0,a1⟩,⟨b0,b1⟩,k⟩:=h
 rw [show L2.start N [.int a,.int b,.bl g]=[some (.int a),some (.int b),some (.bl g)] by unfold L2.start;rw [hN];rfl]
 unfold t_pace
 walk_at "rd"
 cases g
 ·walk_at "rd"
  exact ⟨_,_,rfl,by omega,by omega,by omega,by omega,k⟩
 ·walk_at "rd"
  rw [p10]
  walk_at "rd"
  rw [p10]
  walk_at "rd"
  exact ⟨_,_,rfl,by omega,by omega,by omega,by omega,k⟩
theorem ok_dI(ns:List Int)(n:Nat):kqdOk (n+1) (dI ns)=true:=by
 show ((ns.map Dat.int).all (kqdOk n))=true
 rw [List.all_eq_true]
 intro x hx
 obtain ⟨i,_,rfl⟩:=List.mem_map.mp hx
 cases n <;> rfl
theorem dI_inj{a b:List Int}(h:dI a=dI b):a=b:=by
 have:=Dat.tuple.inj h
 exact (List.map_inj_right (fun x y e=>Dat.int.inj e)).mp this
theorem mem_dI{a:List Int}{hs:List (List Int)}:dI a∈hs.map dI↔a∈hs:=by
 rw [List.mem_map]
 constructor
 ·rintro ⟨b,hb,e⟩
  rw [← dI_inj e]
  exact hb
 ·intro h
  exact ⟨a,h,rfl⟩
def PoolOk(n:Nat)(hs:List (List Int)):Prop:=hs.Nodup∧∀h∈hs,HeapOk n h
def spPool(K:PySem.W.Frag):Sp:=fun vs H Q _=>∃(a:Addr) (ns:List Int) (t m:Int),vs=[.ref a,.int t,.int m]∧SqL K H a (ns.map V.int)∧0≤t∧1≤m∧m≤5 ∧
 ∀(p:Addr) (H':Hp) (hs:List (List Int)),AccZ K H p H' (hs.map dI)→PoolOk m.toNat hs→2≤hs.length→hs.length≤8→Q (.ref p) H'
theorem len_pool{K:PySem.W.Frag}{vs:List V}{H:Hp}{Q:VK}{E:XK}{x y z:Str}(h:spPool K vs H Q E):vs.length=[x,y,z].length:=by
 obtain ⟨a,b,c,d,rfl,_⟩:=h
 rfl
def t_pool(K:PySem.W.Frag):TS:=(tSeq (tAsg (tCall (spCell K) [] E0 (tCons (tVar 0) (tCons (tVar 1) tNil))) (gName 3))
 (tSeq (tAsg (tOp (rIxL K) (tLst (tCons (tC (.int 1)) (tCons (tC (.int 2)) (tCons (tC (.int 3)) (tCons (tC (.int 1)) tNil))))) (tOp rMod (tVar 3) (tC (.int 4)))) (gName 4))
 (tSeq (tAsg (tLst tNil) (gName 5))
 (tSeq (tFor (iRng1 (tCons (tOp qAdd (tC (.int 2)) (tOp rMod (tOp rDiv (tVar 3) (tC (.int 4))) (tC (.int 7)))) tNil)) (gName 6)
 (tSeq (tAsg (tCall (spHeap K) [] E0 (tCons (tOp (rIxL K) (tCall (spMixed K) [] E0 (tCons (tCall (spCell K) [] E0 (tCons (tVar 0) (tCons (tOp qAdd (tOp qAdd (tVar 1) (tC (.int 1))) (tVar 6)) tNil))) (tCons (tC (.int 1)) tNil))) (tC (.int 0))) (tCons (tVar 2) (tCons (tVar 4) tNil)))) (gName 7))
 (tIfS (tTest (tOp (rInD K true) (tVar 7) (tVar 5)))
 (tDrop (tBM K "list" rAppend (tVar 5) (tCons (tVar 7) tNil)))
 tNext)))
 (tSeq (tIfS (tTest (tOp rLt (tCB (rLenQ K) (tCons (tVar 5) tNil)) (tC (.int 2))))
 (tDrop (tBM K "list" rAppend (tVar 5) (tCons (tCB (rTupOf K) (tCons (tOp rCat (tLst (tCons (tCB rInt1 (tCons (tOp rEq (tOp (rIxT K) (tOp (rIxL K) (tVar 5) (tC (.int 0))) (tC (.int 0))) (tC (.int 0))) tNil)) tNil)) (tComp (iRng1 (tCons (tOp qSub (tVar 2) (tC (.int 1))) tNil)) (tC (.int 0)))) tNil)) tNil)))
 tNext)
 (tRet (tVar 5)))))))
theorem four(i:Int)(h0:0≤i)(h1:i < 4):∃j:Int,atI [V.int 1,.int 2,.int 3,.int 1] i=some (.int j)∧0≤j∧j≤3:=by
 rcases (by omega:i=0∨i=1∨i=2∨i=3) with rfl | rfl | rfl | rfl
 ·exact ⟨1,rfl,by decide,by decide⟩
 ·exact ⟨2,rfl,by decide,by decide⟩
 ·exact ⟨3,rfl,by decide,by decide⟩
 ·exact ⟨1,rfl,by decide,by decide⟩
theorem rd_pool{K:PySem.W.Frag}{vs:List V}{H:Hp}{Q:VK}{E:XK}{N:List Str}(hN:N.length=8)(h:spPool K vs H Q E):t_pool K (ends Q) (L2.start N vs) H:=by
 obtain ⟨a,ns,t,m,rfl,hS,t0,m1,m5,k⟩:=h
 rw [show L2.start N [.ref a,.int t,.int m]=[some (.ref a),some (.int t),some (.int m),none,none,none,none,none] by unfold L2.start;rw [hN];rfl]
 unfold t_pool
 walk_at "rd"
 refine ⟨a,ns,t,rfl,hS,t0,?_⟩
 generalize cellOf ns t=c
 walk_at "rd"
 refine ⟨by show 4≤sizeLine;decide,fun l4 n4=>?_⟩
 have S4:=same_new n4 (.lst [V.int 1,.int 2,.int 3,.int 1])
 obtain ⟨mo,e4,mo0,mo3⟩:=four (c % 4) (by omega) (by omega)
 walk_at "rd"
 refine k_ixL (SqL.of upd_same) e4 ?_
 generalize hH1:upd H l4 (.lst [V.int 1,.int 2,.int 3,.int 1])=H1 at S4 ⊢
 walk_at "rd"
 refine ⟨by decide,fun l nl=>?_⟩
 walk_at "rd"
 refine fat_range (fun i σ H2=>∃(hs:List (List Int)) (v6 v7:Option V),σ = [some (.ref a),some (.int t),some (.int m),some (.int c),some (.int mo),some (.ref l),v6,v7]∧AccZ K H l H2 (hs.map dI)∧hs.length≤i∧PoolOk m.toNat hs∧(0 < i→hs≠[]))
  ⟨[],none,none,rfl,AccZ.start S4 nl,Nat.le_refl _,⟨List.nodup_nil,by simp⟩,by simp⟩ ?_ ?_
 ·rintro i σ H2 hi ⟨hs,v6,v7,rfl,A,hl,hp,_⟩
  walk_at "rd"
  refine ⟨a,ns,t+1+(0+(i:Int)),rfl,A.same.seq hS,by omega,?_⟩
  generalize cellOf ns (t+1+(0+(i:Int)))=c1
  walk_at "rd"
  refine ⟨c1,1,rfl,by decide,by decide,fun px H3 xs X3 lx bx=>?_⟩
  obtain ⟨x,rfl⟩:∃x,xs=[x]:=List.length_eq_one_iff.mp lx
  have S3:=X3.same
  have sx:SqL K H3 px ([x].map V.int):=SqL.of (AccZ.ints X3)
  walk_at "rd"
  refine k_ixL sx (v:=.int x) rfl ?_
  walk_at "rd"
  refine ⟨x,m,mo,rfl,by omega,by omega,mo0,mo3,fun ph H4 h S4' oh rh=>?_⟩
  have A4:=(A.on S3).on S4'
  walk_at "rd"
  refine k_notInD rh.rep A4.rep (fun e he=>by obtain ⟨b,_,rfl⟩:=List.mem_map.mp he;exact ok_dI b 7) (ok_dI h 7) (fun nm=>?_) (fun mm=>?_)
  ·walk_at "rd"
   refine ⟨A4.ty,?_⟩
   walk_at "rd"
   refine k_appZ A4 rh (small1000 (by rw [List.length_map];omega)) fun H5 A5 _ _ _=>?_
   walk_at "rd"
   exact ⟨hs++[h],_,_,rfl,by rw [List.map_append];exact A5,by simp;omega,⟨nodup_snoc hp.1 fun z=>nm (mem_dI.mpr z),all_snoc hp.2 oh⟩,by simp⟩
  ·walk_at "rd"
   exact ⟨hs,_,_,rfl,A4,by omega,hp,fun _ z=>by rw [z] at mm;cases mm⟩
 ·rintro σ H2 ⟨hs,v6,v7,rfl,A,hl,hp,hne⟩
  have ne:=hne (by omega)
  obtain ⟨xs,sx,lx,rx⟩:=A.sq
  rw [List.length_map] at lx
  walk_at "rd"
  refine k_lenL sx ?_
  walk_at "rd"
  refine k_ite (fun few=>?_) (fun few=>?_)
  ·have l1:hs.length=1:=by
    have:=List.length_pos_iff.mpr ne
    omega
   obtain ⟨h,rfl⟩:∃x,hs=[x]:=List.length_eq_one_iff.mp l1
   have oh:=hp.2 h (by simp)
   obtain ⟨h1,hr,eh⟩:∃h1 hr,h=h1 :: hr:=List.exists_cons_of_length_pos (by have:=oh.1;omega)
   obtain ⟨v,ev,rv⟩:=RpL.get' (i:=0) rx (d:=dI h) rfl
   obtain ⟨ah,ys,e1,sh,rh⟩:=rv.tup_of
   cases e1
   cases RpL.ints_of rh
   walk_at "rd"
   refine ⟨A.ty,?_⟩
   walk_at "rd"
   refine k_ixL sx (atI_nat (j:=0) ev) ?_
   walk_at "rd"
   refine k_ixT sh (v:=.int h1) (atI_nat (j:=0) (by rw [eh];rfl)) ?_
   walk_at "rd"
   refine ⟨by show 1≤sizeLine;decide,fun q1 nq1=>?_⟩
   have Sq1:=same_new nq1 (.lst [V.int (if decide (h1=0)=true then 1 else 0)])
   have eq1:upd H2 q1 (.lst [V.int (if decide (h1=0)=true then 1 else 0)]) q1=some (.lst [V.int (if decide (h1=0)=true then 1 else 0)]):=upd_same
   generalize upd H2 q1 (.lst [V.int (if decide (h1=0)=true then 1 else 0)])=H3 at Sq1 eq1 ⊢
   walk_at "rd"
   refine comp_range fun Dl nD=>⟨fun j H4=>AccZ K H3 Dl H4 ((List.replicate j (0:Int)).map Dat.int),AccZ.start (Same.refl _) nD,?_,?_⟩
   ·intro j H4 hj B
    walk_at "rd"
    refine pushed hj ?_
    obtain ⟨zs,z1,z2⟩:=B.at_
    refine ⟨zs,z1,?_,⟨B.upd_same,B.new,_,upd_same,?_⟩⟩
    ·rw [z2.length,List.length_map,List.length_replicate]
     exact small1000 (by omega)
    ·have w:=RzL.upd (K:=K) (o:=.lst (zs++[.int 0])) (z2.append (.cons (.int 0) .nil)) z1
     rw [List.replicate_succ',List.map_append]
     exact w
   ·intro H4 B
    have eB:H4 Dl=some (.lst ((List.replicate (m - 1).toNat (0:Int)).map V.int)):=by
     obtain ⟨zs,z1,z2⟩:=B.at_
     rw [RpL.ints_of z2] at z1
     exact z1
    have Sc:=B.same
    walk_at "rd"
    refine ⟨q1,Dl,_,_,rfl,rfl,Sc _ _ eq1,eB,?_,fun q2 nq2=>?_⟩
    ·rw [List.length_map,List.length_replicate]
     exact Nat.le_of_lt (small1000 (by show 1+_≤1000;omega))
    have Sq2:=same_new nq2 (.lst ([V.int (if decide (h1=0)=true then 1 else 0)]++(List.replicate (m - 1).toNat (0:Int)).map V.int))
    have eq2:upd H4 q2 (.lst ([V.int (if decide (h1=0)=true then 1 else 0)]++(List.replicate (m - 1).toNat (0:Int)).map V.int)) q2=some (.lst (((if decide (h1=0)=true then (1:Int) else 0) :: List.replicate (m - 1).toNat (0:Int)).map V.int)):=upd_same
    generalize upd H4 q2 (.lst ([V.int (if decide (h1=0)=true then 1 else 0)]++(List.replicate (m - 1).toNat (0:Int)).map V.int))=H5 at Sq2 eq2 ⊢
    walk_at "rd"
    refine k_tupL (SqL.of eq2) fun p np=>?_
    walk_at "rd"
    have Sp:=same_new np (.tup (((if decide (h1=0)=true then (1:Int) else 0) :: List.replicate (m - 1).toNat (0:Int)).map V.int))
    have A5:=((((A.on Sq1).on Sc).on Sq2).on Sp)
    refine k_appZ A5 (d:=dI ((if decide (h1=0)=true then (1:Int) else 0) :: List.replicate (m - 1).toNat (0:Int))) (.tup upd_same (RpL.ints _)) (small1000 (by simp)) fun H6 A6 _ _ _=>?_
    walk_at "rd"
    refine k l H6 ([h]++[_]) (by rw [List.map_append];exact A6) ⟨nodup_snoc hp.1 fun z=>?_,all_snoc hp.2 ⟨?_,fun x hx=>?_⟩⟩ (by simp) (by simp)
    ·have z':=List.mem_singleton.mp z
     rw [eh] at z'
     have z2:=(List.cons.inj z').1
     by_cases h10:h1=0
     ·rw [decide_eq_true h10] at z2
      simp at z2
      omega
     ·rw [decide_eq_false h10] at z2
      simp at z2
      omega
    ·simp
     omega
    ·rcases List.mem_cons.mp hx with e | e
     ·rw [e]
      by_cases h10:h1=0
      ·rw [decide_eq_true h10]
       simp
      ·rw [decide_eq_false h10]
       simp
     ·rw [(List.mem_replicate.mp e).2]
      decide
  ·walk_at "rd"
   exact k l H2 hs A hp (by omega) (by omega)
end G1
namespace L2
open PySem PySem.W
mutual
def noL:Dat→Bool
 | .list _=>false
 | .tuple ds=>noLs ds
 | _=>true
def noLs:List Dat→Bool
 | []=>true
 | d :: ds=>noL d && noLs ds
end
mutual
theorem Rp.toZ{K:Frag}{S:Addr→Prop}{H:Hp}:∀{v:V} {d:Dat},noL d=true→Rp K S H v d→Rz K H v d
 | _,_,_,.non=>.non
 | _,_,_,.bl b=>.bl b
 | _,_,_,.int i=>.int i
 | _,_,_,.str x=>.str x
 | _,_,h,.tup e r=>.tup e (RpL.toZ (by simpa [noL] using h) r)
 | _,_,h,.lst _ _ _=>by simp [noL] at h
theorem RpL.toZ{K:Frag}{S:Addr→Prop}{H:Hp}:∀{vs:List V} {ds:List Dat},noLs ds=true→RpL K S H vs ds→RzL K H vs ds
 | _,_,_,.nil=>.nil
 | _,d :: ds,h,.cons a r=>by
  have h':noL d=true∧noLs ds=true:=by simpa [noLs] using h
  exact .cons (Rp.toZ h'.1 a) (RpL.toZ h'.2 r)
end
theorem noLs_map{α : Type}{f : α→Dat}(h:∀a,noL (f a)=true):∀xs:List α,noLs (xs.map f)=true
 | []=>rfl
 | x :: xs=>by
  show (noL (f x) && noLs (xs.map f))=true
  rw [h x,noLs_map h xs]
  rfl
end L2
namespace G1
open PySem L2 Fr
open PySem.W (Dat kqdOk)
theorem noL_dI(ns:List Int):noL (dI ns)=true:=noLs_map (fun _=>rfl) ns
structure Tn where
 fr:List Int
 to:List Int
 q:Int
 d:Int
def dT(t:Tn):Dat:=.tuple [dI t.fr,dI t.to,dI [t.q,t.d]]
def TurnOk(hs:List (List Int))(t:Tn):Prop:=t.fr∈hs∧t.to∈hs∧t.fr≠t.to∧PaceOk t.q t.d
def ends2(t:Tn):List Int×List Int:=(t.fr,t.to)
structure TurnsOk (hs:List (List Int)) (ts:List Tn):Prop where
 ne:ts≠[]
 le:ts.length≤8
 nd:(ts.map ends2).Nodup
 ok:∀t∈ts,TurnOk hs t
def dP(p:Nat×Nat):Dat:=dI [(p.1:Int),(p.2:Int)]
theorem dP_inj{a b:Nat×Nat}(h:dP a=dP b):a=b:=by
 have e:=dI_inj h
 have e1:(a.1:Int)=b.1:=(List.cons.inj e).1
 have e2:(a.2:Int)=b.2:=(List.cons.inj (List.cons.inj e).2).1
 obtain ⟨a1,a2⟩:=a
 obtain ⟨b1,b2⟩:=b
 have e1':a1=b1:=Int.ofNat.inj e1
 have e2':a2=b2:=Int.ofNat.inj e2
 rw [e1',e2']
theorem mem_dP{a:Nat×Nat}{ps:List (Nat×Nat)}:dP a∈ps.map dP↔a∈ps:=by
 rw [List.mem_map]
 constructor
 ·rintro ⟨b,hb,e⟩
  rw [← dP_inj e]
  exact hb
 ·intro h
  exact ⟨a,h,rfl⟩
def PairOk(n:Nat)(p:Nat×Nat):Prop:=p.1 < n∧p.2 < n∧p.1≠p.2
def two(hs:List (List Int))(p:Nat×Nat):List Int×List Int:=(hs.getD p.1 [],hs.getD p.2 [])
structure Good (hs:List (List Int)) (ps:List (Nat×Nat)) (ts:List Tn):Prop where
 nd:ps.Nodup
 le:ps.length≤8
 eq:ts.map ends2=ps.map (two hs)
 ok:∀p∈ps,PairOk hs.length p
 pc:∀t∈ts,PaceOk t.q t.d
theorem Good.nil(hs:List (List Int)):Good hs [] []:=⟨List.nodup_nil,by simp,rfl,by simp,by simp⟩
theorem Good.push{hs:List (List Int)}{ps:List (Nat×Nat)}{ts:List Tn}(g:Good hs ps ts){p:Nat×Nat}{q d:Int}(n:p∉ps)(l:ps.length < 8)(o:PairOk hs.length p)(c:PaceOk q d):Good hs (ps++[p]) (ts++[⟨hs.getD p.1 [],hs.getD p.2 [],q,d⟩]) :=
 ⟨nodup_snoc g.nd n,by simp;omega,by rw [List.map_append,List.map_append,g.eq];rfl,all_snoc g.ok o,all_snoc g.pc c⟩
theorem getD_mem{hs:List (List Int)}{i:Nat}(h:i < hs.length):hs.getD i []∈hs:=by
 rw [List.getD_eq_getElem?_getD,List.getElem?_eq_getElem h]
 exact List.getElem_mem h
theorem getD_inj{hs:List (List Int)}(nd:hs.Nodup){i j:Nat}(hi:i < hs.length)(hj:j < hs.length)(e:hs.getD i []=hs.getD j []):i=j:=by
 rw [List.getD_eq_getElem?_getD,List.getElem?_eq_getElem hi,List.getD_eq_getElem?_getD,List.getElem?_eq_getElem hj] at e
 have e':hs[i]=hs[j]:=e
 have pw:=List.pairwise_iff_getElem.mp nd
 rcases Nat.lt_trichotomy i j with z | z | z
 ·exact absurd e' (pw i j hi hj z)
 ·exact z
 ·exact absurd e'.symm (pw j i hj hi z)
theorem nodup_map_on{α β : Type}{f : α→β}:∀{xs:List α},xs.Nodup→(∀a∈xs,∀b∈xs,f a=f b→a=b)→(xs.map f).Nodup
 | [],_,_=>List.nodup_nil
 | x :: xs,h,hf=>by
  rw [List.map_cons,List.nodup_cons]
  refine ⟨fun hm=>?_,nodup_map_on (List.nodup_cons.mp h).2 fun a ha b hb=>hf a (List.mem_cons_of_mem _ ha) b (List.mem_cons_of_mem _ hb)⟩
  obtain ⟨y,hy,e⟩:=List.mem_map.mp hm
  rw [← hf y (List.mem_cons_of_mem _ hy) x List.mem_cons_self e] at h
  exact (List.nodup_cons.mp h).1 hy
theorem Good.turns{hs:List (List Int)}{ps:List (Nat×Nat)}{ts:List Tn}(g:Good hs ps ts)(nd:hs.Nodup)(ne:ps≠[]):TurnsOk hs ts:=by
 have len:ts.length=ps.length:=by have:=congrArg List.length g.eq;simpa using this
 refine ⟨fun z=>?_,by rw [len];exact g.le,?_,fun t ht=>?_⟩
 ·rw [z] at len
  exact ne (List.length_eq_zero_iff.mp len.symm)
 ·rw [g.eq]
  refine nodup_map_on g.nd fun a ha b hb e=>?_
  have oa:=g.ok a ha
  have ob:=g.ok b hb
  have e1:=getD_inj nd oa.1 ob.1 (congrArg Prod.fst e)
  have e2:=getD_inj nd oa.2.1 ob.2.1 (congrArg Prod.snd e)
  obtain ⟨a1,a2⟩:=a
  obtain ⟨b1,b2⟩:=b
  simp only at e1 e2
  rw [e1,e2]
 ·have hm:ends2 t∈ps.map (two hs):=by rw [← g.eq];exact List.mem_map.mpr ⟨t,ht,rfl⟩
  obtain ⟨p,hp,e⟩:=List.mem_map.mp hm
  have op:=g.ok p hp
  have e1:hs.getD p.1 []=t.fr:=congrArg Prod.fst e
  have e2:hs.getD p.2 []=t.to:=congrArg Prod.snd e
  refine ⟨e1 ▸ getD_mem op.1,e2 ▸ getD_mem op.2.1,fun z=>op.2.2 ?_,g.pc t ht⟩
  rw [← e1,← e2] at z
  exact getD_inj nd op.1 op.2.1 z
def spTurn(K:PySem.W.Frag):Sp:=fun vs H Q _=>∃(a pl:Addr) (ns:List Int) (t:Int) (S:Addr→Prop) (hs:List (List Int)),vs=[.ref a,.int t,.ref pl]∧SqL K H a (ns.map V.int)∧0≤t∧Rp K S H (.ref pl) (.list (hs.map dI))∧hs.Nodup∧2≤hs.length∧hs.length≤8 ∧
 ∀(p:Addr) (H':Hp) (ts:List Tn),AccZ K H p H' (ts.map dT)→TurnsOk hs ts→Q (.ref p) H'
theorem len_turn{K:PySem.W.Frag}{vs:List V}{H:Hp}{Q:VK}{E:XK}{x y z:Str}(h:spTurn K vs H Q E):vs.length=[x,y,z].length:=by
 obtain ⟨a,b,c,d,_,_,rfl,_⟩:=h
 rfl
def t_turnIn(K:PySem.W.Frag):TS:=(tFor (iList K (tSl (rSlL K) (tLst (tCons (tTup (tCons (tVar 8) (tCons (tVar 9) tNil))) (tCons (tTup (tCons (tVar 9) (tCons (tVar 8) tNil))) tNil))) tNoPart (tPart (tOp qAdd (tC (.int 1)) (tCB rInt1 (tCons (tOp rEq (tOp rMod (tVar 3) (tC (.int 4))) (tC (.int 2))) tNil)))))) (gName 10)
 (tIfS (tAnd (tTest (tOp (rInD K true) (tVar 10) (tVar 4))) (tTest (tOp rLt (tCB (rLenQ K) (tCons (tVar 4) tNil)) (tC (.int 8)))))
 (tSeq (tDrop (tBM K "list" rAppend (tVar 4) (tCons (tVar 10) tNil)))
 (tSeq (tAsg (tCall (spPace K) [] E0 (tCons (tOp (rIxL K) (tVar 7) (tOp qAdd (tC (.int 2)) (tOp rMod (tOp (rIxT K) (tVar 10) (tC (.int 0))) (tC (.int 2))))) (tCons (tOp (rIxL K) (tVar 7) (tOp qAdd (tC (.int 4)) (tOp rMod (tOp (rIxT K) (tVar 10) (tC (.int 0))) (tC (.int 2))))) (tCons (tOp rEq (tOp rMod (tOp rDiv (tVar 3) (tC (.int 32))) (tC (.int 4))) (tC (.int 1))) tNil)))) (gName 11))
 (tDrop (tBM K "list" rAppend (tVar 5) (tCons (tTup (tCons (tOp (rIxL K) (tVar 2) (tOp (rIxT K) (tVar 10) (tC (.int 0)))) (tCons (tOp (rIxL K) (tVar 2) (tOp (rIxT K) (tVar 10) (tC (.int 1)))) (tCons (tVar 11) tNil)))) tNil)))))
 tNext))
def t_turn(K:PySem.W.Frag):TS:=(tSeq (tAsg (tCall (spCell K) [] E0 (tCons (tVar 0) (tCons (tVar 1) tNil))) (gName 3))
 (tSeq (tAsg (tLst tNil) (gName 4))
 (tSeq (tAsg (tLst tNil) (gName 5))
 (tSeq (tFor (iRng1 (tCons (tOp qAdd (tC (.int 1)) (tOp rMod (tOp rDiv (tVar 3) (tC (.int 4))) (tC (.int 8)))) tNil)) (gName 6)
 (tSeq (tAsg (tCall (spMixed K) [] E0 (tCons (tCall (spCell K) [] E0 (tCons (tVar 0) (tCons (tOp qAdd (tOp qAdd (tVar 1) (tC (.int 1))) (tVar 6)) tNil))) (tCons (tC (.int 6)) tNil))) (gName 7))
 (tSeq (tAsg (tOp rMod (tOp (rIxL K) (tVar 7) (tC (.int 0))) (tCB (rLenQ K) (tCons (tVar 2) tNil))) (gName 8))
 (tSeq (tAsg (tOp rMod (tOp qAdd (tOp qAdd (tVar 8) (tC (.int 1))) (tOp rMod (tOp (rIxL K) (tVar 7) (tC (.int 1))) (tOp qSub (tCB (rLenQ K) (tCons (tVar 2) tNil)) (tC (.int 1))))) (tCB (rLenQ K) (tCons (tVar 2) tNil))) (gName 9))
 (tSeq (tIfS (tTest (tOp rEq (tOp rMod (tVar 3) (tC (.int 4))) (tC (.int 1))))
 (tSeq (tAsg (tOp rMod (tVar 6) (tCB (rLenQ K) (tCons (tVar 2) tNil))) (gName 8))
 (tAsg (tOp rMod (tOp qAdd (tVar 6) (tC (.int 1))) (tCB (rLenQ K) (tCons (tVar 2) tNil))) (gName 9)))
 tNext)
 (t_turnIn K))))))
 (tRet (tVar 5))))))
theorem six{ns:List Int}(h:ns.length=6)(j:Nat)(hj:j < 6)(hb:∀n∈ns,Mx n):∃n,Mx n∧atI (ns.map V.int) (j:Int)=some (.int n):=by
 have hj':j < ns.length:=by omega
 exact ⟨ns[j],hb _ (List.getElem_mem hj'),atI_nat (by rw [List.getElem?_map,List.getElem?_eq_getElem hj'] <;> rfl)⟩
theorem rd_turnIn{K:PySem.W.Frag}{H H4:Hp}{D:Ends}{l1 l2 lx pl:Addr}{ps:List (Nat×Nat)}{ts:List Tn}{hs:List (List Int)}{xs:List V}{ys:List Int}{o w:Nat}{c:Int}{u0 u1 u6 v10 v11:Option V}
  (A1:AccZ K H l1 H4 (ps.map dP)) (A2:AccZ K H l2 H4 (ts.map dT)) (g:Good hs ps ts) (ne12:l1≠l2) (sp:SqL K H pl xs) (rz:RzL K H xs (hs.map dI)) (sx:H4 lx=some (.lst (ys.map V.int))) (ly:ys.length=6) (by_:∀n∈ys,Mx n)
  (nx1:lx≠l1) (nx2:lx≠l2) (po:PairOk hs.length (o,w))
  (fin:∀(ps':List (Nat×Nat)) (ts':List Tn) (H5:Hp) (u10 u11:Option V),AccZ K H l1 H5 (ps'.map dP)→AccZ K H l2 H5 (ts'.map dT)→Good hs ps' ts'→ps'≠[] →
   D.nx [u0,u1,some (.ref pl),some (.int c),some (.ref l1),some (.ref l2),u6,some (.ref lx),some (.int (o:Int)),some (.int (w:Int)),u10,u11] H5) :
  t_turnIn K D [u0,u1,some (.ref pl),some (.int c),some (.ref l1),some (.ref l2),u6,some (.ref lx),some (.int (o:Int)),some (.int (w:Int)),v10,v11] H4:=by
 unfold t_turnIn
 walk_at "rd"
 refine ⟨by show 2≤sizeLine;decide,fun p1 np1=>?_⟩
 have Sp1:=same_new np1 (.tup [V.int (o:Int),.int (w:Int)])
 have rp1:Rz K (upd H4 p1 (.tup [V.int (o:Int),.int (w:Int)])) (.ref p1) (dP (o,w)):=.tup upd_same (RpL.ints [_,_])
 generalize upd H4 p1 (.tup [V.int (o:Int),.int (w:Int)])=H5 at Sp1 rp1 ⊢
 walk_at "rd"
 refine ⟨by show 2≤sizeLine;decide,fun p2 np2=>?_⟩
 have Sp2:=same_new np2 (.tup [V.int (w:Int),.int (o:Int)])
 have rp2:Rz K (upd H5 p2 (.tup [V.int (w:Int),.int (o:Int)])) (.ref p2) (dP (w,o)):=.tup upd_same (RpL.ints [_,_])
 generalize upd H5 p2 (.tup [V.int (w:Int),.int (o:Int)])=H6 at Sp2 rp2 ⊢
 walk_at "rd"
 refine ⟨by show 2≤sizeLine;decide,fun p3 np3=>?_⟩
 have Sp3:=same_new np3 (.lst [V.ref p1,.ref p2])
 have rp3:upd H6 p3 (.lst [V.ref p1,.ref p2]) p3=some (.lst [V.ref p1,.ref p2]):=upd_same
 generalize upd H6 p3 (.lst [V.ref p1,.ref p2])=H7 at Sp3 rp3 ⊢
 walk_at "rd"
 obtain ⟨qs,cs,ec,rc,qn,qo⟩:∃(qs:List (Nat×Nat)) (cs:List V),cutV [V.ref p1,.ref p2] none (some (1+(if decide (c % 4=2)=true then 1 else 0)))=cs∧RzL K H7 cs (qs.map dP)∧qs≠[]∧∀q∈qs,PairOk hs.length q:=by
  have r1:Rz K H7 (.ref p1) (dP (o,w)):=(rp1.same Sp2).same Sp3
  have r2:Rz K H7 (.ref p2) (dP (w,o)):=rp2.same Sp3
  have po':PairOk hs.length (w,o):=⟨po.2.1,po.1,fun z=>po.2.2 z.symm⟩
  by_cases z:c % 4=2
  ·rw [decide_eq_true z]
   refine ⟨[(o,w),(w,o)],_,rfl,.cons r1 (.cons r2 .nil),by simp,fun q hq=>?_⟩
   rcases List.mem_cons.mp hq with e | e
   ·rw [e];exact po
   ·rw [List.mem_singleton.mp e];exact po'
  ·rw [decide_eq_false z]
   refine ⟨[(o,w)],_,rfl,.cons r1 .nil,by simp,fun q hq=>?_⟩
   rw [List.mem_singleton.mp hq];exact po
 refine ⟨p3,_,rfl,SqL.of rp3,fun lp nlp=>?_⟩
 rw [ec]
 have Sp4:=same_new nlp (.lst cs)
 have rp4:upd H7 lp (.lst cs) lp=some (.lst cs):=upd_same
 have S47:Same H4 H7:=Sp1.trans (Sp2.trans Sp3)
 have nl1:lp≠l1:=by
  obtain ⟨_,z,_⟩:=A1.at_
  exact (ne_of_none (S47 _ _ z) nlp).symm
 have nl2:lp≠l2:=by
  obtain ⟨_,z,_⟩:=A2.at_
  exact (ne_of_none (S47 _ _ z) nlp).symm
 have rc8:=rc.same Sp4
 generalize upd H7 lp (.lst cs)=H8 at Sp4 rp4 rc8 ⊢
 have S48:=S47.trans Sp4
 have C1:=A1.on S48
 have C2:=A2.on S48
 have sx8:=S48 _ _ sx
 refine k_rlF (SqL.of rp4) ?_
 have lc:cs.length=qs.length:=by rw [rc.length,List.length_map]
 refine fat_list (xs:=cs) (fun j σ H9=>∃(ps':List (Nat×Nat)) (ts':List Tn) (u10 u11:Option V),σ = [u0,u1,some (.ref pl),some (.int c),some (.ref l1),some (.ref l2),u6,some (.ref lx),some (.int (o:Int)),some (.int (w:Int)),u10,u11] ∧
   AccZ K H l1 H9 (ps'.map dP)∧AccZ K H l2 H9 (ts'.map dT)∧Good hs ps' ts'∧(0 < j→ps'≠[])∧H9 lp=some (.lst cs)∧RzL K H9 cs (qs.map dP)∧H9 lx=some (.lst (ys.map V.int)))
  ⟨ps,ts,v10,v11,rfl,C1,C2,g,by simp,rp4,rc8,sx8⟩ ?_ ?_ ?_
 ·rintro j σ H9 _ ⟨_,_,_,_,_,_,_,_,_,e,_⟩
  exact SqL.of e
 ·rintro j z σ H9 hz ⟨ps',ts',u10,u11,rfl,B1,B2,g',_,el,rl,ex⟩
  obtain ⟨dq,eq,rq⟩:=rl.get hz
  rw [List.getElem?_map] at eq
  obtain ⟨q,eq1,eq2⟩:=Option.map_eq_some_iff.mp eq
  subst eq2
  have oq:=qo q (List.mem_of_getElem? eq1)
  obtain ⟨tz,zs,e1,st,rt⟩:=rq.tup_of
  cases e1
  cases RpL.ints_of (ns:=[(q.1:Int),(q.2:Int)]) rt
  have okP:∀p:Nat×Nat,kqdOk 8 (dP p)=true:=fun p=>ok_dI _ 7
  walk_at "rd"
  refine k_notInD rq.rep B1.rep (fun e he=>by obtain ⟨b,_,rfl⟩:=List.mem_map.mp he;exact okP b) (okP q) (fun nm=>?_) (fun mm=>?_)
  ·obtain ⟨x1,s1,n1,_⟩:=B1.sq
   rw [List.length_map] at n1
   walk_at "rd"
   refine k_lenL s1 ?_
   walk_at "rd"
   refine k_ite (fun lt=>?_) (fun ge=>?_)
   ·walk_at "rd"
    refine ⟨B1.ty,?_⟩
    walk_at "rd"
    refine k_appZ B1 rq (small1000 (by rw [List.length_map];omega)) fun H10 E1 keepZ keepB keepA=>?_
    have E2:=keepA ne12.symm B2
    have ex1:H10 lx=some (.lst (ys.map V.int)):=(keepB lx nx1).trans ex
    have el1:H10 lp=some (.lst cs):=(keepB lp nl1).trans el
    have rl1:RzL K H10 cs (qs.map dP):=by
     obtain ⟨_,z1,_⟩:=B1.at_
     obtain ⟨_,z2,_⟩:=E1.at_
     exact rl.agr ⟨fun b bs r=>by
      have nb:b≠l1:=by rintro rfl;rw [z1] at r;cases r
      exact (keepB b nb).trans r,fun b bs f=>f.elim⟩
    have rq1:=keepZ rq
    obtain ⟨tz',zs',e1,st1,rt1⟩:=rq1.tup_of
    cases e1
    cases RpL.ints_of (ns:=[(q.1:Int),(q.2:Int)]) rt1
    have hb:=Nat.mod_lt q.1 (show 0 < 2 by decide)
    obtain ⟨y2,my2,ay2⟩:=six ly (2+q.1 % 2) (by omega) by_
    obtain ⟨y4,my4,ay4⟩:=six ly (4+q.1 % 2) (by omega) by_
    have ce2:(2:Int)+(q.1:Int) % 2=((2+q.1 % 2:Nat):Int):=by omega
    have ce4:(4:Int)+(q.1:Int) % 2=((4+q.1 % 2:Nat):Int):=by omega
    rw [← ce2] at ay2
    rw [← ce4] at ay4
    walk_at "rd"
    refine k_ixT st1 (v:=.int (q.1:Int)) rfl ?_
    walk_at "rd"
    refine k_ixL (SqL.of ex1) ay2 ?_
    walk_at "rd"
    refine k_ixT st1 (v:=.int (q.1:Int)) rfl ?_
    walk_at "rd"
    refine k_ixL (SqL.of ex1) ay4 ?_
    walk_at "rd"
    refine ⟨y2,y4,_,rfl,my2,my4,fun pp pq pd H11 S11 ok11 r11=>?_⟩
    have F1:=E1.on S11
    have F2:=E2.on S11
    have st2:=S11.seqT st1
    have sp11:=F1.same.seq sp
    have rz11:=rz.same F1.same
    have g1:(hs.map dI)[q.1]? = some (dI (hs.getD q.1 [])):=by rw [List.getElem?_map,List.getD_eq_getElem?_getD,List.getElem?_eq_getElem oq.1];rfl
    have g2:(hs.map dI)[q.2]? = some (dI (hs.getD q.2 [])):=by rw [List.getElem?_map,List.getD_eq_getElem?_getD,List.getElem?_eq_getElem oq.2.1];rfl
    obtain ⟨w1,ew1,rw1⟩:=rz11.get' g1
    obtain ⟨w2,ew2,rw2⟩:=rz11.get' g2
    walk_at "rd"
    refine ⟨F2.ty,?_⟩
    walk_at "rd"
    refine k_ixT st2 (v:=.int (q.1:Int)) rfl ?_
    refine k_ixL sp11 (atI_nat ew1) ?_
    walk_at "rd"
    refine k_ixT st2 (v:=.int (q.2:Int)) rfl ?_
    refine k_ixL sp11 (atI_nat ew2) ?_
    walk_at "rd"
    refine ⟨by show 3≤sizeLine;decide,fun pt npt=>?_⟩
    have S12:=same_new npt (.tup [w1,w2,.ref pp])
    have r12:Rz K (upd H11 pt (.tup [w1,w2,.ref pp])) (.ref pt) (dT ⟨hs.getD q.1 [],hs.getD q.2 [],pq,pd⟩):=.tup upd_same (.cons (rw1.same S12) (.cons (rw2.same S12) (.cons (r11.same S12) .nil)))
    have G1':=F1.on S12
    have G2':=F2.on S12
    have ex2:=S12 _ _ (S11 _ _ ex1)
    have el2:=S12 _ _ (S11 _ _ el1)
    have rl2:=(rl1.same S11).same S12
    generalize upd H11 pt (.tup [w1,w2,.ref pp])=H12 at S12 r12 G1' G2' ex2 el2 rl2 ⊢
    have ng:=g'.push (p:=q) (fun z=>nm (mem_dP.mpr z)) (by omega) oq ok11
    have lt2:ts'.length=ps'.length:=by have:=congrArg List.length g'.eq;simpa using this
    walk_at "rd"
    refine k_appZ G2' r12 (small1000 (by rw [List.length_map];omega)) fun H13 L2' keepZ2 keepB2 keepA2=>?_
    have rl3:RzL K H13 cs (qs.map dP):=by
     obtain ⟨_,z1,_⟩:=G2'.at_
     exact rl2.agr ⟨fun b bs r=>by
      have nb:b≠l2:=by rintro rfl;rw [z1] at r;cases r
      exact (keepB2 b nb).trans r,fun b bs f=>f.elim⟩
    walk_at "rd"
    refine ⟨ps'++[q],ts'++[_],_,_,rfl,?_,?_,ng,by simp,(keepB2 lp nl2).trans el2,rl3,(keepB2 lx nx2).trans ex2⟩
    ·have:=keepA2 ne12 G1'
     rw [List.map_append]
     exact this
    ·rw [List.map_append]
     exact L2'
   ·walk_at "rd"
    exact ⟨ps',ts',_,_,rfl,B1,B2,g',(fun _ z=>by have z0:x1.length=0:=(by rw [n1,z];rfl);omega),el,rl,ex⟩
  ·walk_at "rd"
   exact ⟨ps',ts',_,_,rfl,B1,B2,g',(fun _ z=>by rw [z] at mm;cases mm),el,rl,ex⟩
 ·rintro σ H9 ⟨ps',ts',u10,u11,rfl,B1,B2,g',hne,_⟩
  exact fin ps' ts' H9 u10 u11 B1 B2 g' (hne (by rw [lc];exact List.length_pos_iff.mpr qn))
theorem rd_turn{K:PySem.W.Frag}{vs:List V}{H:Hp}{Q:VK}{E:XK}{N:List Str}(hN:N.length=12)(h:spTurn K vs H Q E):t_turn K (ends Q) (L2.start N vs) H:=by
 obtain ⟨a,pl,ns,t,S,hs,rfl,hS,t0,rp,ndh,h2,h8,k⟩:=h
 rw [show L2.start N [.ref a,.int t,.ref pl]=[some (.ref a),some (.int t),some (.ref pl),none,none,none,none,none,none,none,none,none] by unfold L2.start;rw [hN];rfl]
 obtain ⟨pl',xs,e0,_,sp,rp'⟩:=rp.lst_of
 cases e0
 have rz:RzL K H xs (hs.map dI):=rp'.toZ (noLs_map noL_dI hs)
 have lx0:xs.length=hs.length:=by rw [rz.length,List.length_map]
 unfold t_turn
 walk_at "rd"
 refine ⟨a,ns,t,rfl,hS,t0,?_⟩
 generalize cellOf ns t=c
 walk_at "rd"
 refine ⟨by decide,fun l1 n1=>?_⟩
 have S1:=same_new n1 (.lst [])
 have A10:AccZ K H l1 (upd H l1 (.lst [])) (([]:List (Nat×Nat)).map dP):=AccZ.start (Same.refl _) n1
 generalize upd H l1 (.lst [])=H1 at S1 A10 ⊢
 walk_at "rd"
 refine ⟨by decide,fun l2 n2=>?_⟩
 have S2:=same_new n2 (.lst [])
 have A20:AccZ K H l2 (upd H1 l2 (.lst [])) (([]:List Tn).map dT):=AccZ.start S1 n2
 have A11:=A10.on S2
 have ne12:l1≠l2:=by
  obtain ⟨_,z,_⟩:=A10.at_
  exact ne_of_none z n2
 generalize upd H1 l2 (.lst [])=H2 at S2 A20 A11 ⊢
 walk_at "rd"
 refine fat_range (fun i σ H3=>∃(ps:List (Nat×Nat)) (ts:List Tn) (v6 v7 v8 v9 v10 v11:Option V),σ = [some (.ref a),some (.int t),some (.ref pl),some (.int c),some (.ref l1),some (.ref l2),v6,v7,v8,v9,v10,v11]∧AccZ K H l1 H3 (ps.map dP)∧AccZ K H l2 H3 (ts.map dT)∧Good hs ps ts∧(0 < i→ps≠[]))
  ⟨[],[],none,none,none,none,none,none,rfl,A11,A20,Good.nil hs,by simp⟩ ?_ ?_
 ·rintro i σ H3 hi ⟨ps,ts,v6,v7,v8,v9,v10,v11,rfl,A1,A2,g,hne⟩
  walk_at "rd"
  refine ⟨a,ns,t+1+(0+(i:Int)),rfl,A1.same.seq hS,by omega,?_⟩
  generalize cellOf ns (t+1+(0+(i:Int)))=c1
  walk_at "rd"
  refine ⟨c1,6,rfl,by decide,by decide,fun lx H4 ys X4 ly by_=>?_⟩
  have S4:=X4.same
  have ex:=AccZ.ints X4
  obtain ⟨x0,m0,a0⟩:=six ly 0 (by decide) by_
  obtain ⟨x1,m1,a1⟩:=six ly 1 (by decide) by_
  have nx1:lx≠l1:=by
   obtain ⟨_,z,_⟩:=A1.at_
   exact (ne_of_none z X4.new).symm
  have nx2:lx≠l2:=by
   obtain ⟨_,z,_⟩:=A2.at_
   exact (ne_of_none z X4.new).symm
  have B1:=A1.on S4
  have B2:=A2.on S4
  have sp4:=B1.same.seq sp
  have n0:(0:Int) < (xs.length:Int):=by omega
  have n1':(0:Int) < (xs.length:Int) - 1:=by omega
  have f0:=Int.emod_nonneg x0 (b:=(xs.length:Int)) (by omega)
  have f1:=Int.emod_lt_of_pos x0 n0
  have f2:=Int.emod_nonneg x1 (b:=(xs.length:Int) - 1) (by omega)
  have f3:=Int.emod_lt_of_pos x1 n1'
  have f4:=Int.emod_nonneg (x0 % (xs.length:Int)+1+x1 % ((xs.length:Int) - 1)) (b:=(xs.length:Int)) (by omega)
  have f5:=Int.emod_lt_of_pos (x0 % (xs.length:Int)+1+x1 % ((xs.length:Int) - 1)) n0
  walk_at "rd"
  refine k_ixL (SqL.of ex) a0 ?_
  walk_at "rd"
  refine k_lenL sp4 ?_
  walk_at "rd"
  refine k_ixL (SqL.of ex) a1 ?_
  walk_at "rd"
  refine k_lenL sp4 ?_
  walk_at "rd"
  refine k_lenL sp4 ?_
  walk_at "rd"
  have near:∀(n u v:Int),0≤u→u < n→0≤v→v < n - 1→(u+1+v) % n≠u:=by
   intro n u v h1 h2 h3 h4 e
   by_cases z:u+1+v < n
   ·rw [Int.emod_eq_of_lt (by omega) z] at e
    omega
   ·have e2:(u+1+v) % n=u+1+v - n:=by
     rw [← Int.sub_emod_right,Int.emod_eq_of_lt (by omega) (by omega)]
    omega
  refine k_ite (fun cz=>?_) (fun cz=>?_)
  ·have h0:=Int.emod_nonneg (0+(i:Int)) (b:=(xs.length:Int)) (by omega)
   have h1:=Int.emod_lt_of_pos (0+(i:Int)) n0
   have h2':=Int.emod_nonneg (0+(i:Int)+1) (b:=(xs.length:Int)) (by omega)
   have h3:=Int.emod_lt_of_pos (0+(i:Int)+1) n0
   have hne2:(0+(i:Int)+1) % (xs.length:Int)≠(0+(i:Int)) % (xs.length:Int):=by
    have z:=near (xs.length:Int) ((0+(i:Int)) % (xs.length:Int)) 0 h0 h1 (by omega) (by omega)
    rw [Int.add_zero,Int.emod_add_emod] at z
    exact z
   walk_at "rd"
   refine k_lenL sp4 ?_
   walk_at "rd"
   refine k_lenL sp4 ?_
   walk_at "rd"
   have eo:(0+(i:Int)) % (xs.length:Int)=((((0+(i:Int)) % (xs.length:Int)).toNat:Nat):Int):=by omega
   have ew:(0+(i:Int)+1) % (xs.length:Int)=((((0+(i:Int)+1) % (xs.length:Int)).toNat:Nat):Int):=by omega
   rw [eo,ew]
   refine rd_turnIn B1 B2 g ne12 sp rz ex ly by_ nx1 nx2 ⟨?_,?_,?_⟩ fun ps' ts' H5 u10 u11 D1 D2 g' ne'=>?_
   ·dsimp only;omega
   ·dsimp only;omega
   ·dsimp only;omega
   ·exact ⟨ps',ts',_,_,_,_,_,_,rfl,D1,D2,g',fun _=>ne'⟩
  ·walk_at "rd"
   have hne2:=near (xs.length:Int) (x0 % (xs.length:Int)) (x1 % ((xs.length:Int) - 1)) f0 f1 f2 f3
   have eo:x0 % (xs.length:Int)=(((x0 % (xs.length:Int)).toNat:Nat):Int):=by omega
   have ew:(x0 % (xs.length:Int)+1+x1 % ((xs.length:Int) - 1)) % (xs.length:Int)=((((x0 % (xs.length:Int)+1+x1 % ((xs.length:Int) - 1)) % (xs.length:Int)).toNat:Nat):Int):=by omega
   generalize (x0 % (xs.length:Int)+1+x1 % ((xs.length:Int) - 1)) % (xs.length:Int)=yw at *
   generalize x0 % (xs.length:Int)=yo at *
   rw [eo,ew]
   refine rd_turnIn B1 B2 g ne12 sp rz ex ly by_ nx1 nx2 ⟨?_,?_,?_⟩ fun ps' ts' H5 u10 u11 D1 D2 g' ne'=>?_
   ·dsimp only;omega
   ·dsimp only;omega
   ·dsimp only;omega
   ·exact ⟨ps',ts',_,_,_,_,_,_,rfl,D1,D2,g',fun _=>ne'⟩
 ·rintro σ H3 ⟨ps,ts,v6,v7,v8,v9,v10,v11,rfl,A1,A2,g,hne⟩
  walk_at "rd"
  exact k l2 H3 ts A2 (g.turns ndh (hne (by omega)))
structure VesOk (ws:List Str) (ts:List Tn):Prop where
 words:WordsOk ws
 w1:1≤ws.length
 w5:ws.length≤5
 turns:∃hs,PoolOk ws.length hs∧hs.length≤8∧TurnsOk hs ts
def dV(ws:List Str)(ts:List Tn):Dat:=.tuple [.tuple (ws.map Dat.str),.tuple (ts.map dT)]
def spVessel(K:PySem.W.Frag):Sp:=fun vs H Q _=>∃(a:Addr) (ns:List Int),vs=[.ref a]∧SqL K H a (ns.map V.int)∧∀(p:Addr) (H':Hp) (ws:List Str) (ts:List Tn),Same H H'→VesOk ws ts→Rz K H' (.ref p) (dV ws ts)→Q (.ref p) H'
theorem len_vessel{K:PySem.W.Frag}{vs:List V}{H:Hp}{Q:VK}{E:XK}{x:Str}(h:spVessel K vs H Q E):vs.length=[x].length:=by
 obtain ⟨a,b,rfl,_⟩:=h
 rfl
def t_vessel(K:PySem.W.Frag):TS:=(tSeq (tAsg (tOp qAdd (tC (.int 1)) (tOp rMod (tCall (spCell K) [] E0 (tCons (tVar 0) (tCons (tC (.int 0)) tNil))) (tC (.int 5)))) (gName 1))
 (tSeq (tAsg (tCall (spWords K) [] E0 (tCons (tVar 0) (tCons (tC (.int 1)) (tCons (tVar 1) tNil)))) (gName 2))
 (tRet (tTup (tCons (tCB (rTupOf K) (tCons (tVar 2) tNil)) (tCons (tCB (rTupOf K) (tCons (tCall (spTurn K) [] E0 (tCons (tVar 0) (tCons (tC (.int 12)) (tCons (tCall (spPool K) [] E0 (tCons (tVar 0) (tCons (tC (.int 3)) (tCons (tVar 1) tNil)))) tNil)))) tNil)) tNil))))))
theorem rd_vessel{K:PySem.W.Frag}{vs:List V}{H:Hp}{Q:VK}{E:XK}{N:List Str}(hN:N.length=3)(h:spVessel K vs H Q E):t_vessel K (ends Q) (L2.start N vs) H:=by
 obtain ⟨a,ns,rfl,hS,k⟩:=h
 rw [show L2.start N [.ref a]=[some (.ref a),none,none] by unfold L2.start;rw [hN];rfl]
 unfold t_vessel
 walk_at "rd"
 refine ⟨a,ns,0,rfl,hS,by decide,?_⟩
 generalize cellOf ns 0=c
 walk_at "rd"
 refine ⟨a,ns,1,1+c % 5,rfl,hS,by decide,by omega,by omega,fun pw H1 ws A1 ow lw=>?_⟩
 have ew:=AccZ.strs A1
 walk_at "rd"
 refine k_tupL (SqL.of ew) fun tw ntw=>?_
 have S2:=same_new ntw (.tup (ws.map V.str))
 have r2:Rz K (upd H1 tw (.tup (ws.map V.str))) (.ref tw) (.tuple (ws.map Dat.str)):=.tup upd_same (RpL.strs ws)
 generalize upd H1 tw (.tup (ws.map V.str))=H2 at S2 r2 ⊢
 have S02:=A1.same.trans S2
 walk_at "rd"
 refine ⟨a,ns,3,1+c % 5,rfl,S02.seq hS,by decide,by omega,by omega,fun pp H3 hs A3 op h2 h8=>?_⟩
 have S03:=S02.trans A3.same
 walk_at "rd"
 refine ⟨a,pp,ns,12,_,hs,rfl,S03.seq hS,by decide,A3.ref,op.1,h2,h8,fun pt H4 ts A4 ot=>?_⟩
 obtain ⟨xs,e4,r4⟩:=A4.at_
 walk_at "rd"
 refine k_tupL (SqL.of e4) fun tt ntt=>?_
 have S5:=same_new ntt (.tup xs)
 have r5:Rz K (upd H4 tt (.tup xs)) (.ref tt) (.tuple (ts.map dT)):=.tup upd_same (r4.same S5)
 generalize upd H4 tt (.tup xs)=H5 at S5 r5 ⊢
 walk_at "rd"
 refine ⟨by show 2≤sizeLine;decide,fun p np=>?_⟩
 have S6:=same_new np (.tup [.ref tw,.ref tt])
 refine k p _ ws ts (S03.trans (A4.same.trans (S5.trans S6))) ⟨ow,by omega,by omega,hs,?_,h8,ot⟩ (.tup upd_same (.cons ((((r2.same A3.same).same A4.same).same S5).same S6) (.cons (r5.same S6) .nil)))
 rw [lw]
 exact op
end G1
namespace L2
open PySem PySem.Spec PyProof.Rows
open PySem.W (Dat kqdOk)
theorem kit_NoneType_bool {K:PySem.W.Frag}:PySem.W.kitOne K (.type "NoneType") (.type "bool")=some false:=by
 show PySem.W.kitCls K (.type "NoneType") (.type "bool")=some false;unfold PySem.W.kitCls;kernel_rfl
theorem kit_NoneType_int {K:PySem.W.Frag}:PySem.W.kitOne K (.type "NoneType") (.type "int")=some false:=by
 show PySem.W.kitCls K (.type "NoneType") (.type "int")=some false;unfold PySem.W.kitCls;kernel_rfl
theorem kit_NoneType_str {K:PySem.W.Frag}:PySem.W.kitOne K (.type "NoneType") (.type "str")=some false:=by
 show PySem.W.kitCls K (.type "NoneType") (.type "str")=some false;unfold PySem.W.kitCls;kernel_rfl
theorem kit_NoneType_tuple {K:PySem.W.Frag}:PySem.W.kitOne K (.type "NoneType") (.type "tuple")=some false:=by
 show PySem.W.kitCls K (.type "NoneType") (.type "tuple")=some false;unfold PySem.W.kitCls;kernel_rfl
theorem kit_NoneType_list {K:PySem.W.Frag}:PySem.W.kitOne K (.type "NoneType") (.type "list")=some false:=by
 show PySem.W.kitCls K (.type "NoneType") (.type "list")=some false;unfold PySem.W.kitCls;kernel_rfl
theorem kit_bool_bool {K:PySem.W.Frag}:PySem.W.kitOne K (.type "bool") (.type "bool")=some true:=by rfl
theorem kit_bool_int {K:PySem.W.Frag}:PySem.W.kitOne K (.type "bool") (.type "int")=some true:=by
 show PySem.W.kitCls K (.type "bool") (.type "int")=some true;unfold PySem.W.kitCls;kernel_rfl
theorem kit_bool_str {K:PySem.W.Frag}:PySem.W.kitOne K (.type "bool") (.type "str")=some false:=by
 show PySem.W.kitCls K (.type "bool") (.type "str")=some false;unfold PySem.W.kitCls;kernel_rfl
theorem kit_bool_tuple {K:PySem.W.Frag}:PySem.W.kitOne K (.type "bool") (.type "tuple")=some false:=by
 show PySem.W.kitCls K (.type "bool") (.type "tuple")=some false;unfold PySem.W.kitCls;kernel_rfl
theorem kit_bool_list {K:PySem.W.Frag}:PySem.W.kitOne K (.type "bool") (.type "list")=some false:=by
 show PySem.W.kitCls K (.type "bool") (.type "list")=some false;unfold PySem.W.kitCls;kernel_rfl
theorem kit_int_bool {K:PySem.W.Frag}:PySem.W.kitOne K (.type "int") (.type "bool")=some false:=by
 show PySem.W.kitCls K (.type "int") (.type "bool")=some false;unfold PySem.W.kitCls;kernel_rfl
theorem kit_int_int {K:PySem.W.Frag}:PySem.W.kitOne K (.type "int") (.type "int")=some true:=by rfl
theorem kit_int_str {K:PySem.W.Frag}:PySem.W.kitOne K (.type "int") (.type "str")=some false:=by
 show PySem.W.kitCls K (.type "int") (.type "str")=some false;unfold PySem.W.kitCls;kernel_rfl
theorem kit_int_tuple {K:PySem.W.Frag}:PySem.W.kitOne K (.type "int") (.type "tuple")=some false:=by
 show PySem.W.kitCls K (.type "int") (.type "tuple")=some false;unfold PySem.W.kitCls;kernel_rfl
theorem kit_int_list {K:PySem.W.Frag}:PySem.W.kitOne K (.type "int") (.type "list")=some false:=by
 show PySem.W.kitCls K (.type "int") (.type "list")=some false;unfold PySem.W.kitCls;kernel_rfl
theorem kit_str_bool {K:PySem.W.Frag}:PySem.W.kitOne K (.type "str") (.type "bool")=some false:=by
 show PySem.W.kitCls K (.type "str") (.type "bool")=some false;unfold PySem.W.kitCls;kernel_rfl
theorem kit_str_int {K:PySem.W.Frag}:PySem.W.kitOne K (.type "str") (.type "int")=some false:=by
 show PySem.W.kitCls K (.type "str") (.type "int")=some false;unfold PySem.W.kitCls;kernel_rfl
theorem kit_str_str {K:PySem.W.Frag}:PySem.W.kitOne K (.type "str") (.type "str")=some true:=by rfl
theorem kit_str_tuple {K:PySem.W.Frag}:PySem.W.kitOne K (.type "str") (.type "tuple")=some false:=by
 show PySem.W.kitCls K (.type "str") (.type "tuple")=some false;unfold PySem.W.kitCls;kernel_rfl
theorem kit_str_list {K:PySem.W.Frag}:PySem.W.kitOne K (.type "str") (.type "list")=some false:=by
 show PySem.W.kitCls K (.type "str") (.type "list")=some false;unfold PySem.W.kitCls;kernel_rfl
theorem kit_tuple_bool {K:PySem.W.Frag}:PySem.W.kitOne K (.type "tuple") (.type "bool")=some false:=by
 show PySem.W.kitCls K (.type "tuple") (.type "bool")=some false;unfold PySem.W.kitCls;kernel_rfl
theorem kit_tuple_int {K:PySem.W.Frag}:PySem.W.kitOne K (.type "tuple") (.type "int")=some false:=by
 show PySem.W.kitCls K (.type "tuple") (.type "int")=some false;unfold PySem.W.kitCls;kernel_rfl
theorem kit_tuple_str {K:PySem.W.Frag}:PySem.W.kitOne K (.type "tuple") (.type "str")=some false:=by
 show PySem.W.kitCls K (.type "tuple") (.type "str")=some false;unfold PySem.W.kitCls;kernel_rfl
theorem kit_tuple_tuple {K:PySem.W.Frag}:PySem.W.kitOne K (.type "tuple") (.type "tuple")=some true:=by rfl
theorem kit_tuple_list {K:PySem.W.Frag}:PySem.W.kitOne K (.type "tuple") (.type "list")=some false:=by
 show PySem.W.kitCls K (.type "tuple") (.type "list")=some false;unfold PySem.W.kitCls;kernel_rfl
theorem kit_list_bool {K:PySem.W.Frag}:PySem.W.kitOne K (.type "list") (.type "bool")=some false:=by
 show PySem.W.kitCls K (.type "list") (.type "bool")=some false;unfold PySem.W.kitCls;kernel_rfl
theorem kit_list_int {K:PySem.W.Frag}:PySem.W.kitOne K (.type "list") (.type "int")=some false:=by
 show PySem.W.kitCls K (.type "list") (.type "int")=some false;unfold PySem.W.kitCls;kernel_rfl
theorem kit_list_str {K:PySem.W.Frag}:PySem.W.kitOne K (.type "list") (.type "str")=some false:=by
 show PySem.W.kitCls K (.type "list") (.type "str")=some false;unfold PySem.W.kitCls;kernel_rfl
theorem kit_list_tuple {K:PySem.W.Frag}:PySem.W.kitOne K (.type "list") (.type "tuple")=some false:=by
 show PySem.W.kitCls K (.type "list") (.type "tuple")=some false;unfold PySem.W.kitCls;kernel_rfl
theorem kit_list_list {K:PySem.W.Frag}:PySem.W.kitOne K (.type "list") (.type "list")=some true:=by rfl
abbrev Ra(K:PySem.W.Frag)(H:Hp):V→Dat→Prop:=Rp K (fun _=>True) H
abbrev RaL(K:PySem.W.Frag)(H:Hp):List V→List Dat→Prop:=RpL K (fun _=>True) H
theorem Rp.a{K:PySem.W.Frag}{S:Addr→Prop}{H:Hp}{v:V}{d:Dat}(h:Rp K S H v d):Ra K H v d:=h.mono fun _ _=>trivial
def okS:Nat→Dat→Bool
 | _,.none=>true
 | _,.bool _=>true
 | _,.int _=>true
 | _,.str _=>true
 | n+1,.tuple ds=>decide (ds.length≤1000) && ds.all (okS n)
 | n+1,.list ds=>decide (ds.length≤1000) && ds.all (okS n)
 | _,_=>false
theorem okS_t{n:Nat}{ds:List Dat}(l:ds.length≤1000)(h:∀d∈ds,okS n d=true):okS (n+1) (.tuple ds)=true:=by
 show (decide (ds.length≤1000) && ds.all (okS n))=true
 rw [decide_eq_true l,Bool.true_and,List.all_eq_true]
 exact h
theorem okS_l{n:Nat}{ds:List Dat}(l:ds.length≤1000)(h:∀d∈ds,okS n d=true):okS (n+1) (.list ds)=true:=by
 show (decide (ds.length≤1000) && ds.all (okS n))=true
 rw [decide_eq_true l,Bool.true_and,List.all_eq_true]
 exact h
theorem okS_of{n:Nat}{ds:List Dat}(h:(decide (ds.length≤1000) && ds.all (okS n))=true):ds.length≤1000∧∀d∈ds,okS n d=true:=by
 rw [Bool.and_eq_true,List.all_eq_true] at h
 exact ⟨of_decide_eq_true h.1,h.2⟩
theorem k_ixQT{K:PySem.W.Frag}{H:Hp}{Q:VK}{p:Addr}{xs:List V}{i:Int}{v:V}(e:SqT K H p xs)(a:atI xs i=some v)(h:Q v H):rIx K (.ref p) (.int i) H Q:=.inr (.inl (k_ixT e a h))
theorem k_ixQL{K:PySem.W.Frag}{H:Hp}{Q:VK}{p:Addr}{xs:List V}{i:Int}{v:V}(e:SqL K H p xs)(a:atI xs i=some v)(h:Q v H):rIx K (.ref p) (.int i) H Q:=.inl (k_ixL e a h)
end L2
namespace Sm
open PySem L2 G1
open PySem.W (Dat kqdOk)
def spSame(K:PySem.W.Frag)(n:Nat):Sp:=fun vs H Q _=>∃(v1 v2:V) (d1 d2:Dat),vs=[v1,v2]∧Ra K H v1 d1∧Ra K H v2 d2∧okS n d2=true∧(d1=d2→Q (.bl true) H)∧(d1≠d2→Q (.bl false) H)
theorem len_same{K:PySem.W.Frag}{n:Nat}{vs:List V}{H:Hp}{Q:VK}{E:XK}{x y:Str}(h:spSame K n vs H Q E):vs.length=[x,y].length:=by
 obtain ⟨a,b,c,d,rfl,_⟩:=h
 rfl
def t_sameS (K:PySem.W.Frag):TS:=(tSeq (tIfS (tB (tCB (rIsi K) (tCons (tVar 1) (tCons (tC (.ty "bool")) tNil))))
 (tRet (tAndV (tCB (rIsi K) (tCons (tVar 0) (tCons (tC (.ty "bool")) tNil))) (tOp rEq (tVar 0) (tVar 1))))
 tNext)
 (tSeq (tIfS (tB (tCB (rIsi K) (tCons (tVar 1) (tCons (tC (.ty "int")) tNil))))
 (tRet (tAndV (tCB (rIsi K) (tCons (tVar 0) (tCons (tC (.ty "int")) tNil))) (tAndV (tNotV (tCB (rIsi K) (tCons (tVar 0) (tCons (tC (.ty "bool")) tNil)))) (tOp rEq (tVar 0) (tVar 1)))))
 tNext)
 (tSeq (tIfS (tB (tCB (rIsi K) (tCons (tVar 1) (tCons (tC (.ty "str")) tNil))))
 (tRet (tAndV (tCB (rIsi K) (tCons (tVar 0) (tCons (tC (.ty "str")) tNil))) (tOp rEq (tVar 0) (tVar 1))))
 tNext)
 (tRet (tAndV (tOp rIsN (tVar 1) (tC .non)) (tOp rIsN (tVar 0) (tC .non)))))))
def t_sameB(K:PySem.W.Frag)(m:Nat):TS:=(tSeq (tIfS (tTest (tOp rNe (tCB (rLenQ K) (tCons (tVar 0) tNil)) (tCB (rLenQ K) (tCons (tVar 1) tNil))))
 (tRet (tC (.bl false)))
 tNext)
 (tSeq (tFor (iRng1 (tCons (tCB (rLenQ K) (tCons (tVar 1) tNil)) tNil)) (gName 2)
 (tIfS (tNot (tB (tCall (spSame K m) [] E0 (tCons (tOp (rIx K) (tVar 0) (tVar 2)) (tCons (tOp (rIx K) (tVar 1) (tVar 2)) tNil)))))
 (tRet (tC (.bl false)))
 tNext))
 (tRet (tC (.bl true)))))
def t_same0 (K:PySem.W.Frag):TS:=(tSeq (tIfS (tOr (tB (tCB (rIsi K) (tCons (tVar 1) (tCons (tC (.ty "tuple")) tNil)))) (tB (tCB (rIsi K) (tCons (tVar 1) (tCons (tC (.ty "list")) tNil)))))
 tNever
 tNext)
 (t_sameS K))
def t_same (K:PySem.W.Frag) (m:Nat):TS:=(tSeq (tIfS (tOr (tB (tCB (rIsi K) (tCons (tVar 1) (tCons (tC (.ty "tuple")) tNil)))) (tB (tCB (rIsi K) (tCons (tVar 1) (tCons (tC (.ty "list")) tNil)))))
 (tSeq (tIfS (tOr (tTest (tOp rNe (tCB (rIsi K) (tCons (tVar 0) (tCons (tC (.ty "tuple")) tNil))) (tCB (rIsi K) (tCons (tVar 1) (tCons (tC (.ty "tuple")) tNil))))) (tTest (tOp rNe (tCB (rIsi K) (tCons (tVar 0) (tCons (tC (.ty "list")) tNil))) (tCB (rIsi K) (tCons (tVar 1) (tCons (tC (.ty "list")) tNil))))))
 (tRet (tC (.bl false)))
 tNext)
 (t_sameB K m))
 tNext)
 (t_sameS K))
theorem rd_scal{K:PySem.W.Frag}{H:Hp}{Q:VK}{v1 v2:V}{d1 d2:Dat}{u:Option V}(r1:Ra K H v1 d1)(r2:Ra K H v2 d2)(n1:∀ds,d2≠.tuple ds)(n2:∀ds,d2≠.list ds)(h1:d1=d2→Q (.bl true) H)(h2:d1≠d2→Q (.bl false) H) :
  t_sameS K (ends Q) [some v1,some v2,u] H:=by
 have no:∀{a b:Dat},(a=b→False)→d1=a→d2=b→Q (.bl false) H:=fun q e1 e2=>h2 fun z=>q (e1.symm.trans (z.trans e2))
 unfold t_sameS
 cases r2 with
 | non =>
  walk_at "rd"
  refine k_isi .non kit_NoneType_bool ?_
  walk_at "rd"
  refine k_isi .non kit_NoneType_int ?_
  walk_at "rd"
  refine k_isi .non kit_NoneType_str ?_
  walk_at "rd"
  refine k_ite (fun _=>?_) (fun z=>absurd rfl z)
  walk_at "rd"
  cases r1 with
  | non=>exact h1 rfl
  | bl b=>exact h2 (fun z=>by cases z)
  | int b=>exact h2 (fun z=>by cases z)
  | str b=>exact h2 (fun z=>by cases z)
  | tup e r=>exact h2 (fun z=>by cases z)
  | lst s e r=>exact h2 (fun z=>by cases z)
 | bl b =>
  walk_at "rd"
  refine k_isi (.bl b) kit_bool_bool ?_
  walk_at "rd"
  cases r1 with
  | non =>
   refine k_isi .non kit_NoneType_bool ?_
   walk_at "rd"
   exact h2 (fun z=>by cases z)
  | bl c =>
   refine k_isi (.bl c) kit_bool_bool ?_
   walk_at "rd"
   by_cases z:c=b
   ·rw [decide_eq_true z]
    exact h1 (by rw [z])
   ·rw [decide_eq_false z]
    exact h2 (fun q=>z (Dat.bool.inj q))
  | int c =>
   refine k_isi (.int c) kit_int_bool ?_
   walk_at "rd"
   exact h2 (fun z=>by cases z)
  | str c =>
   refine k_isi (.str c) kit_str_bool ?_
   walk_at "rd"
   exact h2 (fun z=>by cases z)
  | tup e r =>
   refine k_isi (.tup e) kit_tuple_bool ?_
   walk_at "rd"
   exact h2 (fun z=>by cases z)
  | lst s e r =>
   refine k_isi (.lst e) kit_list_bool ?_
   walk_at "rd"
   exact h2 (fun z=>by cases z)
 | int b =>
  walk_at "rd"
  refine k_isi (.int b) kit_int_bool ?_
  walk_at "rd"
  refine k_isi (.int b) kit_int_int ?_
  walk_at "rd"
  cases r1 with
  | non =>
   refine k_isi .non kit_NoneType_int ?_
   walk_at "rd"
   exact h2 (fun z=>by cases z)
  | bl c =>
   refine k_isi (.bl c) kit_bool_int ?_
   walk_at "rd"
   refine k_isi (.bl c) kit_bool_bool ?_
   walk_at "rd"
   exact h2 (fun z=>by cases z)
  | int c =>
   refine k_isi (.int c) kit_int_int ?_
   walk_at "rd"
   refine k_isi (.int c) kit_int_bool ?_
   walk_at "rd"
   by_cases z:c=b
   ·rw [decide_eq_true z]
    exact h1 (by rw [z])
   ·rw [decide_eq_false z]
    exact h2 (fun q=>z (Dat.int.inj q))
  | str c =>
   refine k_isi (.str c) kit_str_int ?_
   walk_at "rd"
   exact h2 (fun z=>by cases z)
  | tup e r =>
   refine k_isi (.tup e) kit_tuple_int ?_
   walk_at "rd"
   exact h2 (fun z=>by cases z)
  | lst s e r =>
   refine k_isi (.lst e) kit_list_int ?_
   walk_at "rd"
   exact h2 (fun z=>by cases z)
 | str b =>
  walk_at "rd"
  refine k_isi (.str b) kit_str_bool ?_
  walk_at "rd"
  refine k_isi (.str b) kit_str_int ?_
  walk_at "rd"
  refine k_isi (.str b) kit_str_str ?_
  walk_at "rd"
  cases r1 with
  | non =>
   refine k_isi .non kit_NoneType_str ?_
   walk_at "rd"
   exact h2 (fun z=>by cases z)
  | bl c =>
   refine k_isi (.bl c) kit_bool_str ?_
   walk_at "rd"
   exact h2 (fun z=>by cases z)
  | int c =>
   refine k_isi (.int c) kit_int_str ?_
   walk_at "rd"
   exact h2 (fun z=>by cases z)
  | str c =>
   refine k_isi (.str c) kit_str_str ?_
   walk_at "rd"
   by_cases z:c=b
   ·rw [decide_eq_true z]
    exact h1 (by rw [z])
   ·rw [decide_eq_false z]
    exact h2 (fun q=>z (Dat.str.inj q))
  | tup e r =>
   refine k_isi (.tup e) kit_tuple_str ?_
   walk_at "rd"
   exact h2 (fun z=>by cases z)
  | lst s e r =>
   refine k_isi (.lst e) kit_list_str ?_
   walk_at "rd"
   exact h2 (fun z=>by cases z)
 | tup e r=>exact absurd rfl (n1 _)
 | lst s e r=>exact absurd rfl (n2 _)
theorem rd_same0{K:PySem.W.Frag}{vs:List V}{H:Hp}{Q:VK}{E:XK}{N:List Str}(hN:N.length=3)(h:spSame K 0 vs H Q E):t_same0 K (ends Q) (L2.start N vs) H:=by
 obtain ⟨v1,v2,d1,d2,rfl,r1,r2,ok,h1,h2⟩:=h
 rw [show L2.start N [v1,v2]=[some v1,some v2,none] by unfold L2.start;rw [hN];rfl]
 have n1:∀ds,d2≠.tuple ds:=fun ds z=>by rw [z] at ok;cases ok
 have n2:∀ds,d2≠.list ds:=fun ds z=>by rw [z] at ok;cases ok
 have fin:=rd_scal (u:=none) r1 r2 n1 n2 h1 h2
 unfold t_same0
 cases r2 with
 | non =>
  walk_at "rd"
  refine k_isi .non kit_NoneType_tuple ?_
  walk_at "rd"
  refine k_isi .non kit_NoneType_list ?_
  walk_at "rd"
  exact fin
 | bl b =>
  walk_at "rd"
  refine k_isi (.bl b) kit_bool_tuple ?_
  walk_at "rd"
  refine k_isi (.bl b) kit_bool_list ?_
  walk_at "rd"
  exact fin
 | int b =>
  walk_at "rd"
  refine k_isi (.int b) kit_int_tuple ?_
  walk_at "rd"
  refine k_isi (.int b) kit_int_list ?_
  walk_at "rd"
  exact fin
 | str b =>
  walk_at "rd"
  refine k_isi (.str b) kit_str_tuple ?_
  walk_at "rd"
  refine k_isi (.str b) kit_str_list ?_
  walk_at "rd"
  exact fin
 | tup e r=>exact absurd rfl (n1 _)
 | lst s e r=>exact absurd rfl (n2 _)
theorem rd_seq{K:PySem.W.Frag}{m:Nat}{H:Hp}{Q:VK}{a b:Addr}{xs ys:List V}{d1 d2:List Dat}{u:Option V}(lx:∀Q':VK,Q' (.int xs.length) H→rLenQ K [.ref a] H Q')(ly:∀Q':VK,Q' (.int ys.length) H→rLenQ K [.ref b] H Q')
  (ix:∀(i:Nat) (x:V) (Q':VK),xs[i]? = some x→Q' x H→rIx K (.ref a) (.int (0+(i:Int))) H Q') (iy:∀(i:Nat) (x:V) (Q':VK),ys[i]? = some x→Q' x H→rIx K (.ref b) (.int (0+(i:Int))) H Q')
  (r1:RaL K H xs d1) (r2:RaL K H ys d2) (ok:∀d∈d2,okS m d=true) (lm:d2.length≤1000) (h1:d1=d2→Q (.bl true) H) (h2:d1≠d2→Q (.bl false) H) {D:Ends} (hD:D.rt=Q):t_sameB K m D [some (.ref a),some (.ref b),u] H:=by
 have l1:=r1.length
 have l2:=r2.length
 unfold t_sameB
 walk_at "rd"
 refine lx _ ?_
 walk_at "rd"
 refine ly _ ?_
 walk_at "rd"
 refine k_iteN (fun z=>?_) (fun z=>?_)
 ·walk_at "rd"
  rw [hD]
  exact h2 fun e=>z (by rw [l1,l2,e])
 have le:xs.length=ys.length:=by omega
 walk_at "rd"
 refine ly _ ?_
 walk_at "rd"
 refine fat_range (fun i σ H2=>H2=H∧(∃v,σ = [some (.ref a),some (.ref b),v])∧d1.take i=d2.take i) ⟨rfl,⟨_,rfl⟩,by simp⟩ ?_ ?_
 ·rintro i σ H2 hi ⟨rfl,⟨v,rfl⟩,et⟩
  have hiy:i < ys.length:=by omega
  have hix:i < xs.length:=by omega
  obtain ⟨e1,g1,p1⟩:=r1.get (List.getElem?_eq_getElem hix)
  obtain ⟨e2,g2,p2⟩:=r2.get (List.getElem?_eq_getElem hiy)
  walk_at "rd"
  refine ix i _ _ (List.getElem?_eq_getElem hix) ?_
  walk_at "rd"
  refine iy i _ _ (List.getElem?_eq_getElem hiy) ?_
  walk_at "rd"
  refine ⟨_,_,e1,e2,rfl,p1,p2,ok e2 (List.mem_of_getElem? g2),fun q=>?_,fun q=>?_⟩
  ·walk_at "rd"
   refine ⟨rfl,⟨_,rfl⟩,?_⟩
   rw [List.take_add_one,List.take_add_one,et,g1,g2,q]
  ·walk_at "rd"
   show D.rt _ _
   rw [hD]
   exact h2 fun z=>q (by rw [z,g2] at g1;exact (Option.some.inj g1).symm)
 ·rintro σ H2 ⟨rfl,⟨v,rfl⟩,et⟩
  walk_at "rd"
  show D.rt _ _
  rw [hD]
  refine h1 ?_
  have e:(ys.length:Int).toNat=ys.length:=by omega
  rw [e,List.take_of_length_le (by omega),List.take_of_length_le (by omega)] at et
  exact et
theorem rd_same{K:PySem.W.Frag}{m:Nat}{vs:List V}{H:Hp}{Q:VK}{E:XK}{N:List Str}(hN:N.length=3)(h:spSame K (m+1) vs H Q E):t_same K m (ends Q) (L2.start N vs) H:=by
 obtain ⟨v1,v2,d1,d2,rfl,r1,r2,ok,h1,h2⟩:=h
 rw [show L2.start N [v1,v2]=[some v1,some v2,none] by unfold L2.start;rw [hN];rfl]
 unfold t_same
 have fin:=fun n1 n2=>rd_scal (u:=none) r1 r2 n1 n2 h1 h2
 cases r2 with
 | non =>
  walk_at "rd"
  refine k_isi .non kit_NoneType_tuple ?_
  walk_at "rd"
  refine k_isi .non kit_NoneType_list ?_
  walk_at "rd"
  exact fin (fun ds z=>by cases z) (fun ds z=>by cases z)
 | bl b =>
  walk_at "rd"
  refine k_isi (.bl b) kit_bool_tuple ?_
  walk_at "rd"
  refine k_isi (.bl b) kit_bool_list ?_
  walk_at "rd"
  exact fin (fun ds z=>by cases z) (fun ds z=>by cases z)
 | int b =>
  walk_at "rd"
  refine k_isi (.int b) kit_int_tuple ?_
  walk_at "rd"
  refine k_isi (.int b) kit_int_list ?_
  walk_at "rd"
  exact fin (fun ds z=>by cases z) (fun ds z=>by cases z)
 | str b =>
  walk_at "rd"
  refine k_isi (.str b) kit_str_tuple ?_
  walk_at "rd"
  refine k_isi (.str b) kit_str_list ?_
  walk_at "rd"
  exact fin (fun ds z=>by cases z) (fun ds z=>by cases z)
 | @tup b ys ds e r =>
  obtain ⟨lm,okd⟩:=okS_of ok
  walk_at "rd"
  refine k_isi (.tup e) kit_tuple_tuple ?_
  walk_at "rd"
  cases r1 with
  | non =>
   refine k_isi .non kit_NoneType_tuple ?_
   walk_at "rd"
   refine k_isi (.tup e) kit_tuple_tuple ?_
   walk_at "rd"
   refine k_iteN (fun _=>?_) (fun z=>by cases z)
   walk_at "rd"
   exact h2 (fun z=>by cases z)
  | bl c =>
   refine k_isi (.bl c) kit_bool_tuple ?_
   walk_at "rd"
   refine k_isi (.tup e) kit_tuple_tuple ?_
   walk_at "rd"
   refine k_iteN (fun _=>?_) (fun z=>by cases z)
   walk_at "rd"
   exact h2 (fun z=>by cases z)
  | int c =>
   refine k_isi (.int c) kit_int_tuple ?_
   walk_at "rd"
   refine k_isi (.tup e) kit_tuple_tuple ?_
   walk_at "rd"
   refine k_iteN (fun _=>?_) (fun z=>by cases z)
   walk_at "rd"
   exact h2 (fun z=>by cases z)
  | str c =>
   refine k_isi (.str c) kit_str_tuple ?_
   walk_at "rd"
   refine k_isi (.tup e) kit_tuple_tuple ?_
   walk_at "rd"
   refine k_iteN (fun _=>?_) (fun z=>by cases z)
   walk_at "rd"
   exact h2 (fun z=>by cases z)
  | lst s e' r' =>
   refine k_isi (.lst e') kit_list_tuple ?_
   walk_at "rd"
   refine k_isi (.tup e) kit_tuple_tuple ?_
   walk_at "rd"
   refine k_iteN (fun _=>?_) (fun z=>by cases z)
   walk_at "rd"
   exact h2 (fun z=>by cases z)
  | @tup a xs ds' e' r' =>
   refine k_isi (.tup e') kit_tuple_tuple ?_
   walk_at "rd"
   refine k_isi (.tup e) kit_tuple_tuple ?_
   walk_at "rd"
   refine k_iteN (fun z=>absurd rfl z) (fun _=>?_)
   walk_at "rd"
   refine k_isi (.tup e') kit_tuple_list ?_
   walk_at "rd"
   refine k_isi (.tup e) kit_tuple_list ?_
   walk_at "rd"
   refine k_iteN (fun z=>absurd rfl z) (fun _=>?_)
   walk_at "rd"
   refine rd_seq (m:=m) (xs:=xs) (ys:=ys) (fun Q' q=>k_lenT (SqT.of e') q) (fun Q' q=>k_lenT (SqT.of e) q) (fun i x Q' hx q=>k_ixQT (SqT.of e') (by rw [Int.zero_add];exact atI_nat hx) q) (fun i x Q' hx q=>k_ixQT (SqT.of e) (by rw [Int.zero_add];exact atI_nat hx) q) r' r okd lm (fun z=>h1 (by rw [z])) (fun z=>h2 fun q=>z (Dat.tuple.inj q)) rfl
 | @lst b ys ds s e r =>
  obtain ⟨lm,okd⟩:=okS_of ok
  walk_at "rd"
  refine k_isi (.lst e) kit_list_tuple ?_
  walk_at "rd"
  refine k_isi (.lst e) kit_list_list ?_
  walk_at "rd"
  cases r1 with
  | non =>
   refine k_isi .non kit_NoneType_tuple ?_
   walk_at "rd"
   refine k_isi (.lst e) kit_list_tuple ?_
   walk_at "rd"
   refine k_iteN (fun z=>absurd rfl z) (fun _=>?_)
   walk_at "rd"
   refine k_isi .non kit_NoneType_list ?_
   walk_at "rd"
   refine k_isi (.lst e) kit_list_list ?_
   walk_at "rd"
   refine k_iteN (fun _=>?_) (fun z=>by cases z)
   walk_at "rd"
   exact h2 (fun z=>by cases z)
  | bl c =>
   refine k_isi (.bl c) kit_bool_tuple ?_
   walk_at "rd"
   refine k_isi (.lst e) kit_list_tuple ?_
   walk_at "rd"
   refine k_iteN (fun z=>absurd rfl z) (fun _=>?_)
   walk_at "rd"
   refine k_isi (.bl c) kit_bool_list ?_
   walk_at "rd"
   refine k_isi (.lst e) kit_list_list ?_
   walk_at "rd"
   refine k_iteN (fun _=>?_) (fun z=>by cases z)
   walk_at "rd"
   exact h2 (fun z=>by cases z)
  | int c =>
   refine k_isi (.int c) kit_int_tuple ?_
   walk_at "rd"
   refine k_isi (.lst e) kit_list_tuple ?_
   walk_at "rd"
   refine k_iteN (fun z=>absurd rfl z) (fun _=>?_)
   walk_at "rd"
   refine k_isi (.int c) kit_int_list ?_
   walk_at "rd"
   refine k_isi (.lst e) kit_list_list ?_
   walk_at "rd"
   refine k_iteN (fun _=>?_) (fun z=>by cases z)
   walk_at "rd"
   exact h2 (fun z=>by cases z)
  | str c =>
   refine k_isi (.str c) kit_str_tuple ?_
   walk_at "rd"
   refine k_isi (.lst e) kit_list_tuple ?_
   walk_at "rd"
   refine k_iteN (fun z=>absurd rfl z) (fun _=>?_)
   walk_at "rd"
   refine k_isi (.str c) kit_str_list ?_
   walk_at "rd"
   refine k_isi (.lst e) kit_list_list ?_
   walk_at "rd"
   refine k_iteN (fun _=>?_) (fun z=>by cases z)
   walk_at "rd"
   exact h2 (fun z=>by cases z)
  | tup e' r' =>
   refine k_isi (.tup e') kit_tuple_tuple ?_
   walk_at "rd"
   refine k_isi (.lst e) kit_list_tuple ?_
   walk_at "rd"
   refine k_iteN (fun _=>?_) (fun z=>by cases z)
   walk_at "rd"
   exact h2 (fun z=>by cases z)
  | @lst a xs ds' s' e' r' =>
   refine k_isi (.lst e') kit_list_tuple ?_
   walk_at "rd"
   refine k_isi (.lst e) kit_list_tuple ?_
   walk_at "rd"
   refine k_iteN (fun z=>absurd rfl z) (fun _=>?_)
   walk_at "rd"
   refine k_isi (.lst e') kit_list_list ?_
   walk_at "rd"
   refine k_isi (.lst e) kit_list_list ?_
   walk_at "rd"
   refine k_iteN (fun z=>absurd rfl z) (fun _=>?_)
   walk_at "rd"
   refine rd_seq (m:=m) (xs:=xs) (ys:=ys) (fun Q' q=>k_lenL (SqL.of e') q) (fun Q' q=>k_lenL (SqL.of e) q) (fun i x Q' hx q=>k_ixQL (SqL.of e') (by rw [Int.zero_add];exact atI_nat hx) q) (fun i x Q' hx q=>k_ixQL (SqL.of e) (by rw [Int.zero_add];exact atI_nat hx) q) r' r okd lm (fun z=>h1 (by rw [z])) (fun z=>h2 fun q=>z (Dat.list.inj q)) rfl
end Sm
namespace Vs
open PySem L2 Fr G1 Sm
open PySem.W (Dat kqdOk)
def toK(h:List Int):List Key:=h.map Sum.inl
theorem toK_kV(h:List Int):(toK h).map kV=h.map V.int:=by
 unfold toK
 rw [List.map_map]
 rfl
theorem toK_inj{a b:List Int}(h:toK a=toK b):a=b:=(List.map_inj_right (fun x y e=>Sum.inl.inj e)).mp h
theorem dT_at{K:PySem.W.Frag}{H:Hp}{v:V}{t:Tn}(h:Rz K H v (dT t)):∃(a:Addr) (v1 v2 v3:V),v = .ref a∧H a=some (.tup [v1,v2,v3])∧Rz K H v1 (dI t.fr)∧Rz K H v2 (dI t.to)∧Rz K H v3 (dI [t.q,t.d]):=by
 obtain ⟨a,xs,e,ha,r⟩:=h.tup_at
 cases r with
 | cons r1 r =>
  cases r with
  | cons r2 r =>
   cases r with
   | cons r3 r =>
    cases r
    exact ⟨a,_,_,_,e,ha,r1,r2,r3⟩
theorem dI_at{K:PySem.W.Frag}{H:Hp}{v:V}{ns:List Int}(h:Rz K H v (dI ns)):∃a:Addr,v = .ref a∧H a=some (.tup (ns.map V.int)):=by
 obtain ⟨a,xs,e,ha,r⟩:=h.tup_at
 rw [RpL.ints_of r] at ha
 exact ⟨a,e,ha⟩
theorem dV_at{K:PySem.W.Frag}{H:Hp}{v:V}{ws:List Str}{ts:List Tn}(h:Rz K H v (dV ws ts)):∃(a:Addr) (v1 v2:V),v = .ref a∧H a=some (.tup [v1,v2])∧Rz K H v1 (.tuple (ws.map Dat.str))∧Rz K H v2 (.tuple (ts.map dT)):=by
 obtain ⟨a,xs,e,ha,r⟩:=h.tup_at
 cases r with
 | cons r1 r =>
  cases r with
  | cons r2 r =>
   cases r
   exact ⟨a,_,_,e,ha,r1,r2⟩
end Vs
namespace G2
open PySem L2 Fr G1
open PySem.W (Dat kqdOk)
end G2
namespace G2
open PySem L2 Fr G1
open PySem.W (Dat kqdOk)
end G2
namespace G2
open PySem L2 Fr G1
open PySem.W (Dat kqdOk)
end G2
namespace Ti
open PySem L2 Fr G1 Sm Vs G2
open PySem.W (Dat kqdOk)
end Ti
namespace Ti
open PySem L2 Fr G1 Sm Vs G2
open PySem.W (Dat kqdOk)
end Ti
namespace L2
open PySem
open PySem.W (Dat)
end L2
namespace Sz
open PySem L2 Fr G1 Sm Vs G2 Rk
open PySem.W (Dat kqdOk)
end Sz
namespace Sf
open Rk Sz
end Sf
namespace Rw
open PySem L2 Fr G1 Sm Vs G2 Rk Sz Sf
open PySem.W (Dat kqdOk)
end Rw
namespace Rw
open PySem L2 Fr G1 Sm Vs G2 Rk Sz Sf
open PySem.W (Dat kqdOk)
end Rw
namespace Cl
open Rk Sz Sf
end Cl
namespace Mk
open Rk Sz Sf Cl
end Mk
namespace Rw
open PySem L2 Fr G1 Sm Vs G2 Rk Sz Sf Cl
open PySem.W (Dat kqdOk)
end Rw
namespace L2
open PySem
section
variable{K:PySem.W.Frag}{te:TE}{σ : St}{Q:VK}{H:Hp}
end
end L2
namespace Rw
open PySem L2 Fr G1 Sm Vs G2 Rk Sz Sf Cl
open PySem.W (Dat kqdOk)
end Rw
namespace Rw
open PySem L2 Fr G1 Sm Vs G2 Rk Sz Sf Cl
open PySem.W (Dat kqdOk)
end Rw
namespace L2
open PySem
end L2
namespace Dn
open PySem L2 Fr G1 Sm Vs G2 Rk Sz
open PySem.W (Dat kqdOk)
def pr(t:Tn):Tp:=(t.fr,t.to)
end Dn
namespace L2
open PySem
end L2
namespace Dn
open PySem L2 Fr G1 Sm Vs G2 Rk Sz
open PySem.W (Dat kqdOk kas_sort)
end Dn
namespace Dn
open PySem L2 Fr G1 Sm Vs G2 Rk Sz
open PySem.W (Dat kqdOk)
end Dn
namespace Mk
open Rk Sz Sf Cl
end Mk
namespace L2
open PySem
theorem k_gSub{to ti:TE}{t:TSet}{v:V}{σ : St}{H:Hp}{Q:St→Hp→Prop}(h:to σ H fun o H1=>ti σ H1 fun i H2=>t o i v H2 fun H3=>Q σ H3):gSub to ti t v σ H Q:=h
end L2
namespace Dn
open PySem L2 Fr G1 Sm Vs G2 Rk Sz Rw
open PySem.W (Dat kqdOk)
end Dn
namespace Dn
open PySem L2 Fr G1 Sm Vs G2 Rk Sz Sf Rw Cl
end Dn
namespace Lo
open Ti
end Lo
namespace L2
open PySem
end L2
namespace Lo
open PySem L2 Fr G1 Sm Vs G2 Ti Sz Rw
open PySem.W (Dat kqdOk)
end Lo
namespace Bo
end Bo
namespace Bo
end Bo
namespace Bo
end Bo
namespace L2
open PySem
end L2
namespace Br
open PySem L2 Fr G1 Sm Vs G2 Rk Sz Sf Rw
open PySem.W (Dat kqdOk)
end Br
namespace Bo
end Bo
namespace Br
open Rk Sf Rw
section
variable{R:List (List Int)}{es:List Int}{size:Nat}
end
end Br
namespace Bo
end Bo
namespace Br
open Rk Sf Rw Bo
section
variable{R:List (List Int)}{n:Nat}
end
section
variable{B:List (List Int)}{hs:List Nat}{m:Nat}
end
section
variable{R:List (List Int)}{n:Nat}
end
end Br
namespace Br
open Rk Sf Rw Bo
section
variable(R:List (List Int))(n:Nat)
end
section
variable{R:List (List Int)}{n k:Nat}{B:List (List Int)}{hs:List Nat}
end
end Br
namespace Br
open PySem L2 Fr G1 Sm Vs G2 Rk Sz Sf Rw
open PySem.W (Dat kqdOk)
end Br
namespace Br
open Rk Sf Rw Bo
end Br
namespace L2
open PySem PySem.Spec PyProof.Rows
open PySem.W (Dat kqdP kqdPs kqdOk)
end L2
namespace Br
open PySem L2 Fr G1 Sm Vs G2 Rk Sz Sf Rw Cl
open PySem.W (Dat kqdOk)
open PyProof.Rows
end Br
namespace Br
open PySem L2 Fr G1 Sm Vs G2 Rk Sz Sf Rw Cl
open PySem.W (Dat kqdOk)
end Br
namespace Br
open PySem L2 Fr G1 Sm Vs G2 Rk Sz Sf Rw Cl
open PySem.W (Dat kqdOk)
end Br
namespace Br
open Rk Sf Rw Bo Cl
section
variable{R:List (List Int)}{n:Nat}
end
end Br
namespace Fr
end Fr
namespace Tr
section
variable(fm:Nat→List Nat)
variable{fm}
end
section
variable(es:List (Nat×Nat))(pc:Nat→Rat)
variable{es}{pc}
end
end Tr
namespace Tr
open PySem L2 Fr G1 Sm Vs G2 Rk Sz Sf Rw Ti
open PySem.W (Dat kqdOk)
end Tr
namespace Tr
open PySem L2 Fr G1 Sm Vs G2 Rk Sz Sf Rw Ti
open PySem.W (Dat kqdOk)
end Tr
namespace Tr
open Fr
section
variable{es:List (Nat×Nat)}{pc:Nat→Rat}
end
end Tr
namespace Tr
open PySem L2 Fr G1 Sm Vs G2 Rk Sz Sf Rw Ti
open PySem.W (Dat kqdOk)
end Tr
namespace Tr
open PySem L2 Fr G1 Sm Vs G2 Rk Sz Sf Rw Ti
open PySem.W (Dat kqdOk)
end Tr
namespace Tr
open PySem L2 Fr G1 Sm Vs G2 Rk Sz Sf Rw Ti Lo
open PySem.W (Dat kqdOk)
end Tr
namespace Tr
open PySem L2 Fr G1 Sm Vs G2 Rk Sz Sf Rw Ti Lo
open PySem.W (Dat kqdOk)
end Tr
namespace Tr
open PySem L2 Fr G1 Sm Vs G2 Rk Sz Sf Rw Ti Lo
open PySem.W (Dat kqdOk)
section
variable{es:List (Nat×Nat)}{pc:Nat→Rat}
end
end Tr
namespace Tr
open PySem L2 Fr G1 Sm Vs G2 Rk Sz Sf Rw Ti Lo
open PySem.W (Dat kqdOk)
end Tr
namespace L2
open PySem PySem.Spec PyProof.Rows
end L2
namespace Tr
open PySem L2 Fr G1 Sm Vs G2 Rk Sz Sf Rw Ti Lo
open PySem.W (Dat kqdOk)
end Tr
namespace Vs
open PySem L2 Fr G1 Sm
open PySem.W (Dat kqdOk)
end Vs
namespace Rd
open Ti
section
variable{es:List (Nat×Nat)}{a:Nat}
end
end Rd
namespace Rd
open PySem L2 Fr G1 Sm Vs G2 Ti
open PySem.W (Dat kqdOk)
end Rd
namespace Rd
open PySem L2 Fr G1 Sm Vs G2 Ti
open PySem.W (Dat kqdOk)
section
variable{es:List (Nat×Nat)}{a:Nat}
end
end Rd
namespace Wq
open PySem L2 Fr G1 Sm Vs Tr
open PySem.W (Dat kqdOk)
end Wq
namespace Nv
open PySem L2 Fr G1 Sm Vs
open PySem.W (Dat kqdOk kqdP kqdPs)
end Nv
namespace Nv
open PySem L2 Fr G1 Sm Vs
open PySem.W (Dat kqdOk kqdP kqdPs)
end Nv
namespace L2
open PySem PySem.Spec PyProof.Rows
section
variable{X:Cx}
end
end L2
namespace Nv
open PySem L2 Fr G1 Sm Vs
open PySem.W (Dat kqdOk kqdP kqdPs)
end Nv
namespace Nv
open PySem L2 Fr G1 Sm Vs
open PySem.W (Dat kqdOk kqdP kqdPs)
end Nv
namespace Nv
open PySem L2 Fr G1 Sm Vs
open PySem.W (Dat kqdOk kqdP kqdPs)
end Nv
namespace Nv
open PySem L2 Fr G1 Sm Vs
open PySem.W (Dat kqdOk kqdP kqdPs)
end Nv
namespace Rk
end Rk
namespace Rk
end Rk
namespace Lk
open Rk Sf Ti Lo
end Lk
namespace Mb
open Rk Sz Sf Cl Mk Bo
end Mb
namespace Mb
open Rk Sz Sf Cl Mk
end Mb
namespace Lc
open PySem L2 Fr G1 Sm Vs G2 Rk Sz Sf Rw Ti Lo
open PySem.W (Dat kqdOk)
end Lc
namespace Lc
open PySem L2 Fr G1 Sm Vs G2 Rk Sz Sf Rw Ti Lo
section
variable{ts:List Tn}{w:Nat}
end
end Lc
namespace Wd
open PySem L2 Fr G1 Sm Vs Dn Rk
open PySem.W (Dat kqdOk)
def Nn(n:Nat)(ts:List Tn):Prop:=∀t∈ts,t.fr.length=n∧t.to.length=n
def spCanB(K:PySem.W.Frag):Sp:=fun vs H Q _=>∃(v w:V) (t:Tn) (c:List Int),vs=[v,w]∧Rz K H v (dT t)∧Rz K H w (dI c)∧t.fr.length≤100∧∀H',Same H H'→Q (.bl (can (pr t) c)) H'
theorem len_canB{K:PySem.W.Frag}{vs:List V}{H:Hp}{Q:VK}{E:XK}{x y:Str}(h:spCanB K vs H Q E):vs.length=[x,y].length:=by
 obtain ⟨a,b,c,d,rfl,_⟩:=h
 rfl
def t_canB(K:PySem.W.Frag):TS:=(tRet (tCB (rAll K) (tCons (tCompG (iZip K .T .T (tCons (tOp (rIxT K) (tVar 0) (tC (.int 0))) (tCons (tVar 1) tNil))) 2 (gTup K 2 (gCons (gName 0) (gCons (gName 1) gNil))) (tOp rLe (tVar 0) (tVar 1))) tNil)))
theorem rd_canB{K:PySem.W.Frag}{vs:List V}{H:Hp}{Q:VK}{E:XK}{N:List Str}(hN:N.length=2)(h:spCanB K vs H Q E):t_canB K (ends Q) (L2.start N vs) H:=by
 obtain ⟨v,w,t,c,rfl,rv,rw_,hl,k⟩:=h
 obtain ⟨a,w1,w2,w3,rfl,ha,q1,q2,_⟩:=dT_at rv
 obtain ⟨b,rfl,hb⟩:=dI_at rw_
 obtain ⟨f,rfl,hf⟩:=dI_at q1
 rw [show L2.start N [.ref a,.ref b]=[some (.ref a),some (.ref b)] by unfold L2.start;rw [hN];rfl]
 unfold t_canB
 have lz:(List.zip t.fr c).length=min t.fr.length c.length:=List.length_zip
 walk_at "rd"
 refine k_ixT (SqT.of ha) (v:=.ref f) rfl ?_
 walk_at "rd"
 refine ⟨f,b,_,_,rfl,SqT.of hf,SqT.of hb,?_⟩
 have ml:min (t.fr.map V.int).length (c.map V.int).length=(List.zip t.fr c).length:=by rw [List.length_map,List.length_map,lz]
 refine comp_zip (xs:=t.fr.map V.int) (ys:=c.map V.int) fun D nD=>⟨fun i H2=>AccZ K H D H2 ((((List.zip t.fr c).take i).map fun z=>decide (z.1≤z.2)).map Dat.bool),by simpa using AccZ.start (Same.refl _) nD,fun i H2 _ A=>⟨SqT.of (A.same _ _ hf),SqT.of (A.same _ _ hb)⟩,?_,?_⟩
 ·intro i x y H2 T e1 e2 A nT us hu
  obtain ⟨u1,u2',rfl⟩:∃u0 u1,us=[u0,u1]:=by
   match us,hu with
   | [u0,u1],_=>exact ⟨u0,u1,rfl⟩
  rw [List.getElem?_map] at e1 e2
  obtain ⟨m1,f1,rfl⟩:=Option.map_eq_some_iff.mp e1
  obtain ⟨m2,f2,rfl⟩:=Option.map_eq_some_iff.mp e2
  have ez:(List.zip t.fr c)[i]? = some (m1,m2):=by rw [List.getElem?_zip_eq_some];exact ⟨f1,f2⟩
  have li:i < (List.zip t.fr c).length:=(List.getElem?_eq_some_iff.mp ez).1
  refine k_gTup (SqT.of upd_same) rfl ?_
  walk_at "rd"
  refine ⟨⟨[some (.int m1),some (.int m2)],rfl,rfl⟩,?_⟩
  walk_at "rd"
  refine pushed (by rw [ml];exact li) ?_
  refine (A.on (same_new nT _)).pushK (.bl (decide (m1≤m2))) (small1000 (by rw [List.length_map,List.length_map,List.length_take];omega)) fun H4 A4=>?_
  show AccZ K H D H4 ((((List.zip t.fr c).take (i+1)).map fun z=>decide (z.1≤z.2)).map Dat.bool)
  rw [List.take_add_one,ez,List.map_append,List.map_append]
  exact A4
 ·intro H2 A
  rw [ml,List.take_of_length_le (Nat.le_refl _)] at A
  walk_at "rd"
  refine k_all A.bls ?_
  have e:((List.zip t.fr c).map fun z=>decide (z.1≤z.2)).all id=can (pr t) c:=by unfold can;rw [List.all_map];rfl
  rw [e]
  exact k H2 A.same
def spCntB(K:PySem.W.Frag):Sp:=fun vs H Q _=>∃(v w:V) (t:Tn) (c:List Int),vs=[v,w]∧Rz K H v (dT t)∧Rz K H w (dI c)∧t.fr.length=c.length∧t.to.length=c.length∧c.length≤100∧∀(p:Addr) (H':Hp),Same H H'→Rz K H' (.ref p) (dI (beh (pr t) c))→Q (.ref p) H'
theorem len_cntB{K:PySem.W.Frag}{vs:List V}{H:Hp}{Q:VK}{E:XK}{x y:Str}(h:spCntB K vs H Q E):vs.length=[x,y].length:=by
 obtain ⟨a,b,c,d,rfl,_⟩:=h
 rfl
theorem beh_at{t:Tn}{c:List Int}{i:Nat}{m1 m2 m3:Int}(f1:t.fr[i]? = some m1)(f2:t.to[i]? = some m2)(f3:c[i]? = some m3):(beh (pr t) c)[i]? = some (m3 - m1+m2):=by
 have li:i < c.length:=(List.getElem?_eq_some_iff.mp f3).1
 unfold beh
 rw [List.getElem?_map,List.getElem?_range li]
 show some (pt c i - pt t.fr i+pt t.to i)=_
 unfold pt
 rw [List.getD_eq_getElem?_getD,f3,List.getD_eq_getElem?_getD,f1,List.getD_eq_getElem?_getD,f2]
 rfl
theorem beh_l(t:Tp)(c:List Int):(beh t c).length=c.length:=by unfold beh;rw [List.length_map,List.length_range]
def t_cntB(K:PySem.W.Frag):TS:=(tRet (tCB (rTupOf K) (tCons (tCompG (iZip3 K (tCons (tVar 1) (tCons (tOp (rIxT K) (tVar 0) (tC (.int 0))) (tCons (tOp (rIxT K) (tVar 0) (tC (.int 1))) tNil)))) 3 (gTup K 3 (gCons (gName 0) (gCons (gName 1) (gCons (gName 2) gNil)))) (tOp qAdd (tOp qSub (tVar 0) (tVar 1)) (tVar 2))) tNil)))
theorem rd_cntB{K:PySem.W.Frag}{vs:List V}{H:Hp}{Q:VK}{E:XK}{N:List Str}(hN:N.length=2)(h:spCntB K vs H Q E):t_cntB K (ends Q) (L2.start N vs) H:=by
 obtain ⟨v,w,t,c,rfl,rv,rw_,l1,l2,hl,k⟩:=h
 obtain ⟨a,w1,w2,w3,rfl,ha,q1,q2,_⟩:=dT_at rv
 obtain ⟨b,rfl,hb⟩:=dI_at rw_
 obtain ⟨f,rfl,hf⟩:=dI_at q1
 obtain ⟨g,rfl,hg⟩:=dI_at q2
 rw [show L2.start N [.ref a,.ref b]=[some (.ref a),some (.ref b)] by unfold L2.start;rw [hN];rfl]
 unfold t_cntB
 have lb:=beh_l (pr t) c
 walk_at "rd"
 refine k_zip3 ?_
 walk_at "rd"
 refine k_ixT (SqT.of ha) (v:=.ref f) rfl ?_
 walk_at "rd"
 refine k_ixT (SqT.of ha) (v:=.ref g) rfl ?_
 walk_at "rd"
 refine ⟨b,f,g,_,_,_,rfl,SqT.of hb,SqT.of hf,SqT.of hg,?_⟩
 refine comp_zip3 (xs:=c.map V.int) (ys:=t.fr.map V.int) (zs:=t.to.map V.int) (m:=c.length) (List.length_map _) (by rw [List.length_map];exact l1) (by rw [List.length_map];exact l2) fun D nD=>⟨fun i H2=>AccZ K H D H2 (((beh (pr t) c).take i).map Dat.int),by simpa using AccZ.start (Same.refl _) nD,fun i H2 _ A=>⟨SqT.of (A.same _ _ hb),SqT.of (A.same _ _ hf),SqT.of (A.same _ _ hg)⟩,?_,?_⟩
 ·intro i x y u H2 T e1 e2 e3 A nT us hu
  obtain ⟨u1,u2,u3,rfl⟩:∃u0 u1 u2,us=[u0,u1,u2]:=by
   match us,hu with
   | [u0,u1,u2],_=>exact ⟨u0,u1,u2,rfl⟩
  rw [List.getElem?_map] at e1 e2 e3
  obtain ⟨m1,f1,rfl⟩:=Option.map_eq_some_iff.mp e1
  obtain ⟨m2,f2,rfl⟩:=Option.map_eq_some_iff.mp e2
  obtain ⟨m3,f3,rfl⟩:=Option.map_eq_some_iff.mp e3
  have li:i < c.length:=(List.getElem?_eq_some_iff.mp f1).1
  have ec:=beh_at f2 f3 f1
  refine k_gTup (SqT.of upd_same) rfl ?_
  walk_at "rd"
  refine ⟨⟨[some (.int m1),some (.int m2),some (.int m3)],rfl,rfl⟩,?_⟩
  walk_at "rd"
  refine pushed li ?_
  refine (A.on (same_new nT _)).pushK (.int _) (small1000 (by rw [List.length_map,List.length_take];omega)) fun H4 A4=>?_
  show AccZ K H D H4 (((beh (pr t) c).take (i+1)).map Dat.int)
  rw [List.take_add_one,ec,List.map_append]
  exact A4
 ·intro H2 A
  rw [List.take_of_length_le (by omega)] at A
  walk_at "rd"
  refine k_tupL (SqL.of (AccZ.ints A)) fun p np=>?_
  exact k p _ (A.same.trans (same_new np _)) (.tup upd_same (RpL.ints _))
end Wd
namespace Tw
open PySem L2 Fr G1 Sm Vs
open PySem.W (Dat kqdOk)
end Tw
namespace Tp2
open PySem L2 Str
open PySem.Builtin.Str (strSub subAt)
end Tp2
namespace Md
open PySem L2 Fr G1 Sm Vs
open PySem.W (Dat kqdOk kqdP kqdPs)
theorem k_lenset{r:V→Hp→(Nat→Hp→Prop)→Prop}{te:TE}{σ : St}{H:Hp}{Q:VK}(h:te σ H fun x H1=>r x H1 fun n H2=>(n:Int) < 2 ^ 63∧Q (.int n) H2):tLenSet r te σ H Q:=h
theorem kP_ints(ns:List Int):kqdPs (ns.map Dat.int)=ns.map PyData.int:=by
 induction ns with
 | nil=>rw [List.map_nil,kqdPs];rfl
 | cons n ns ih=>rw [List.map_cons,kqdPs,ih,kqdP];rfl
theorem hk_ints(n:Nat)(ns:List Int):hkPs n (ns.map PyData.int)=true:=by
 induction ns with
 | nil=>rw [List.map_nil,hkPs]
 | cons m ns ih=>rw [List.map_cons,hkPs,ih,hkP];rfl
end Md
namespace Tr2
open PySem L2 Fr G1 Sm Vs Tw Tp2 Md Tr
open PySem.W (Dat kqdOk)
open PySem.Builtin.Str (strSub)
end Tr2
namespace Cm
open Dn
abbrev Pr:=List Int×List Nat
def stp(T:List Tp)(h:Pr)(i:Nat):Option Pr:=match T[i]? with
 | some t=>if can t h.1=true then some (beh t h.1,h.2++[i]) else none
 | none=>none
def stps(T:List Tp)(h:Pr)(k:Nat):List Pr:=(List.range k).filterMap (stp T h)
def add(told:List Pr)(s:Pr):List Pr:=if s.1∈told.map Prod.fst then told else told++[s]
def adds(told:List Pr)(ss:List Pr):List Pr:=ss.foldl add told
def round(T:List Tp)(told:List Pr)(h:Pr):List Pr:=adds told (stps T h T.length)
def runs(T:List Tp):Nat→List Pr→Nat→List Pr
 | 0,told,_=>told
 | f+1,told,p=>match told[p]? with
  | some h=>if told.length < 61 then runs T f (round T told h) (p+1) else told
  | none=>told
def come(T:List Tp)(c:List Int):List Pr:=runs T 61 [(c,[])] 0
theorem stps_succ{T:List Tp}{h:Pr}{k:Nat}:stps T h (k+1)=stps T h k++(stp T h k).toList:=by
 unfold stps
 rw [List.range_succ,List.filterMap_append]
 have:List.filterMap (stp T h) [k]=(stp T h k).toList:=by cases e:stp T h k <;> simp [e]
 rw [this]
theorem adds_snoc{told ss:List Pr}{s:Pr}:adds told (ss++[s])=add (adds told ss) s:=by
 unfold adds;rw [List.foldl_append];rfl
theorem adds_next{T:List Tp}{told:List Pr}{h:Pr}{k:Nat}{t:Tp}(e:T[k]? = some t):adds told (stps T h (k+1))=if can t h.1=true then add (adds told (stps T h k)) (beh t h.1,h.2++[k]) else adds told (stps T h k):=by
 rw [stps_succ]
 unfold stp
 rw [e]
 by_cases z:can t h.1=true
 ·simp only [if_pos z];exact adds_snoc
 ·simp only [if_neg z];show adds told (stps T h k++[])=_;rw [List.append_nil]
theorem add_pre(told:List Pr)(s:Pr):∃r,add told s=told++r∧r.length≤1:=by
 unfold add;split
 ·exact ⟨[],(List.append_nil _).symm,Nat.zero_le _⟩
 ·exact ⟨[s],rfl,Nat.le_refl _⟩
theorem adds_pre:∀(ss told:List Pr),∃r,adds told ss=told++r∧r.length≤ss.length
 | [],told=>⟨[],(List.append_nil _).symm,Nat.le_refl _⟩
 | s :: ss,told=>by
  obtain ⟨r,e,l⟩:=add_pre told s
  obtain ⟨r',e',l'⟩:=adds_pre ss (add told s)
  refine ⟨r++r',?_,?_⟩
  ·show adds (add told s) ss=_
   rw [e',e,List.append_assoc]
  ·rw [List.length_append,List.length_cons];omega
theorem stps_len{T:List Tp}{h:Pr}{k:Nat}:(stps T h k).length≤k:=by
 refine Nat.le_trans (List.length_filterMap_le _ _) ?_
 rw [List.length_range];exact Nat.le_refl _
def wlk(T:List Tp):List Nat→List Int→Option (List Int)
 | [],c=>some c
 | n :: r,c=>match T[n]? with
  | some t=>if can t c=true then wlk T r (beh t c) else none
  | none=>none
theorem wlk_snoc{T:List Tp}{i:Nat}:∀(r:List Nat) (c d:List Int),wlk T r c=some d→wlk T (r++[i]) c=wlk T [i] d
 | [],c,d,e=>by cases Option.some.inj e;rfl
 | n :: r,c,d,e=>by
  show (match T[n]? with | some t=>if can t c=true then wlk T (r++[i]) (beh t c) else none | none=>none)=_
  unfold wlk at e
  cases e1:T[n]? with
  | none=>rw [e1] at e;cases e
  | some t =>
   rw [e1] at e
   by_cases z:can t c=true
   ·simp only [if_pos z] at e ⊢;exact wlk_snoc r _ d e
   ·simp only [if_neg z] at e;cases e
structure Fd (T:List Tp) (c:List Int) (m:Nat) (told:List Pr):Prop where
 nd:(told.map Prod.fst).Nodup
 wk:∀p∈told,wlk T p.2 c=some p.1
 le:∀p∈told,p.2.length≤m
 hd:told[0]? = some (c,[])
theorem Fd.start(T:List Tp)(c:List Int):Fd T c 0 [(c,[])]:=⟨by simp,by intro p hp;cases List.mem_singleton.mp hp;rfl,by intro p hp;cases List.mem_singleton.mp hp;exact Nat.le_refl _,rfl⟩
theorem Fd.add{T:List Tp}{c:List Int}{m:Nat}{told:List Pr}{s:Pr}(h:Fd T c m told)(w:wlk T s.2 c=some s.1)(l:s.2.length≤m):Fd T c m (Cm.add told s):=by
 unfold Cm.add
 split
 ·exact h
 ·rename_i z
  refine ⟨?_,?_,?_,?_⟩
  ·rw [List.map_append,List.nodup_append]
   refine ⟨h.nd,by simp,?_⟩
   intro a ha b hb e
   rw [List.map_cons,List.map_nil] at hb
   cases List.mem_singleton.mp hb
   exact z (e ▸ ha)
  ·intro p hp
   rcases List.mem_append.mp hp with hp | hp
   ·exact h.wk p hp
   ·cases List.mem_singleton.mp hp;exact w
  ·intro p hp
   rcases List.mem_append.mp hp with hp | hp
   ·exact h.le p hp
   ·cases List.mem_singleton.mp hp;exact l
  ·have:0 < told.length:=(List.getElem?_eq_some_iff.mp h.hd).1
   rw [List.getElem?_append_left this];exact h.hd
theorem stp_of{T:List Tp}{h s:Pr}{i:Nat}(e:stp T h i=some s):∃t,T[i]? = some t∧can t h.1=true∧s=(beh t h.1,h.2++[i]):=by
 unfold stp at e
 cases e1:T[i]? with
 | none=>rw [e1] at e;cases e
 | some t =>
  rw [e1] at e
  by_cases z:can t h.1=true
  ·simp only [if_pos z] at e;exact ⟨t,rfl,z,(Option.some.inj e).symm⟩
  ·simp only [if_neg z] at e;cases e
theorem Fd.adds{T:List Tp}{c:List Int}{m:Nat}:∀(ss told:List Pr),Fd T c m told→(∀s∈ss,wlk T s.2 c=some s.1∧s.2.length≤m)→Fd T c m (Cm.adds told ss)
 | [],_,h,_=>h
 | s :: ss,told,h,q=>Fd.adds ss _ (h.add (q s List.mem_cons_self).1 (q s List.mem_cons_self).2) fun x hx=>q x (List.mem_cons_of_mem _ hx)
theorem Fd.more{T:List Tp}{c:List Int}{m n:Nat}{told:List Pr}(h:Fd T c m told)(l:m≤n):Fd T c n told:=⟨h.nd,h.wk,fun p hp=>Nat.le_trans (h.le p hp) l,h.hd⟩
theorem Fd.step{T:List Tp}{c:List Int}{m k:Nat}{told:List Pr}{h:Pr}(f:Fd T c m told)(hh:h∈told):Fd T c (m+1) (Cm.adds told (stps T h k)):=by
 refine Fd.adds _ _ (f.more (Nat.le_succ _)) fun s hs=>?_
 obtain ⟨i,_,e⟩:=List.mem_filterMap.mp hs
 obtain ⟨t,e1,z,rfl⟩:=stp_of e
 refine ⟨?_,by rw [List.length_append];have:=f.le h hh;show h.2.length+1≤m+1;omega⟩
 rw [wlk_snoc _ _ _ (f.wk h hh)]
 unfold wlk
 rw [e1]
 simp only [if_pos z]
 rfl
theorem runs_fd{T:List Tp}{c:List Int}:∀(f:Nat) (told:List Pr) (p:Nat),Fd T c p told→∃m,m≤p+f∧Fd T c m (runs T f told p)
 | 0,told,p,h=>⟨p,Nat.le_refl _,h⟩
 | f+1,told,p,h=>by
  unfold runs
  cases e:told[p]? with
  | none=>exact ⟨p,by omega,h⟩
  | some x =>
   by_cases z:told.length < 61
   ·simp only [if_pos z]
    obtain ⟨m,l,q⟩:=runs_fd f _ (p+1) (h.step (k:=T.length) (List.mem_of_getElem? e))
    exact ⟨m,by omega,q⟩
   ·simp only [if_neg z];exact ⟨p,by omega,h⟩
theorem come_fd(T:List Tp)(c:List Int):Fd T c 61 (come T c):=by
 obtain ⟨m,l,q⟩:=runs_fd 61 _ 0 (Fd.start T c)
 exact q.more (by omega)
theorem runs_next{T:List Tp}{f p:Nat}{told:List Pr}{h:Pr}(e:told[p]? = some h)(l:told.length < 61):runs T (f+1) told p=runs T f (round T told h) (p+1):=by
 show (match told[p]? with | some h=>if told.length < 61 then runs T f (round T told h) (p+1) else told | none=>told)=_
 rw [e];exact if_pos l
theorem runs_end{T:List Tp}{p:Nat}{told:List Pr}(h:told.length≤p∨61≤told.length):∀f,runs T f told p=told
 | 0=>rfl
 | f+1=>by
  show (match told[p]? with | some h=>if told.length < 61 then runs T f (round T told h) (p+1) else told | none=>told)=_
  cases e:told[p]? with
  | none=>rfl
  | some x =>
   have:=(List.getElem?_eq_some_iff.mp e).1
   exact if_neg (by omega)
theorem wlk_len{T:List Tp}:∀(r:List Nat) (c d:List Int),wlk T r c=some d→d.length=c.length
 | [],c,d,e=>by cases Option.some.inj e;rfl
 | n :: r,c,d,e=>by
  unfold wlk at e
  cases e1:T[n]? with
  | none=>rw [e1] at e;cases e
  | some t =>
   rw [e1] at e
   by_cases z:can t c=true
   ·simp only [if_pos z] at e
    rw [wlk_len r _ d e]
    show (List.map _ (List.range c.length)).length=c.length
    rw [List.length_map,List.length_range]
   ·simp only [if_neg z] at e;cases e
theorem runs_len{T:List Tp}(h8:T.length≤8):∀(f:Nat) (told:List Pr) (p:Nat),told.length≤68→(runs T f told p).length≤68
 | 0,told,p,h=>h
 | f+1,told,p,h=>by
  unfold runs
  cases e:told[p]? with
  | none=>exact h
  | some x =>
   by_cases z:told.length < 61
   ·simp only [if_pos z]
    refine runs_len h8 f _ _ ?_
    obtain ⟨r,er,lr⟩:=adds_pre (stps T x T.length) told
    show (adds told (stps T x T.length)).length≤68
    have:=stps_len (T:=T) (h:=x) (k:=T.length)
    rw [er,List.length_append]
    omega
   ·simp only [if_neg z];exact h
end Cm
namespace Cg
open PySem L2 Fr G1 Sm Vs Dn Rk Wd Cm
open PySem.W (Dat kqdOk)
abbrev zs(r:List Nat):List Int:=r.map fun n:Nat=>(n:Int)
def dPr(p:Pr):Dat:=.tuple [dI p.1,.list ((zs p.2).map Dat.int)]
def spStepsOn(K:PySem.W.Frag):Sp:=fun vs H Q _=>∃(v u:V) (r:Addr) (ws:List Str) (ts:List Tn) (c:List Int) (row:List Nat),vs=[v,u,.ref r]∧Rz K H v (dV ws ts)∧Rz K H u (dI c)∧H r=some (.lst ((zs row).map V.int))∧Nn c.length ts∧c.length≤100∧ts.length≤8∧row.length≤100∧∀(l:Addr) (H':Hp),Acc K H l H' ((stps (ts.map pr) (c,row) ts.length).map dPr)→Q (.ref l) H'
theorem len_stepsOn{K:PySem.W.Frag}{vs:List V}{H:Hp}{Q:VK}{E:XK}{x y z:Str}(h:spStepsOn K vs H Q E):vs.length=[x,y,z].length:=by
 obtain ⟨a,b,c,_,_,_,_,rfl,_⟩:=h
 rfl
def t_stepsOn(K:PySem.W.Frag):TS:=(tSeq (tAsg (tLst tNil) (gName 3))
 (tSeq (tFor (iEnumT K (tCons (tOp (rIxT K) (tVar 0) (tC (.int 1))) tNil)) (gTup K 2 (gCons (gName 4) (gCons (gName 5) gNil)))
 (tIfS (tB (tCall (spCanB K) [] E0 (tCons (tVar 5) (tCons (tVar 1) tNil))))
 (tDrop (tBM K "list" rAppend (tVar 3) (tCons (tTup (tCons (tCall (spCntB K) [] E0 (tCons (tVar 5) (tCons (tVar 1) tNil))) (tCons (tOp rCat (tVar 2) (tLst (tCons (tVar 4) tNil))) tNil))) tNil)))
 tNext))
 (tRet (tVar 3))))
theorem rd_stepsOn{K:PySem.W.Frag}{vs:List V}{H:Hp}{Q:VK}{E:XK}{N:List Str}(hN:N.length=6)(h:spStepsOn K vs H Q E):t_stepsOn K (ends Q) (L2.start N vs) H:=by
 obtain ⟨v,u,r,ws,ts,c,row,rfl,rv,ru,hr,nn,l100,l8,lr,k⟩:=h
 rw [show L2.start N [v,u,.ref r]=[some v,some u,some (.ref r),none,none,none] by unfold L2.start;rw [hN];rfl]
 obtain ⟨p,v1,v2,rfl,hp,r1,r2⟩:=dV_at rv
 obtain ⟨b,xs,rfl,hb,rx⟩:=r2.tup_at
 have lx:xs.length=ts.length:=by rw [rx.length,List.length_map]
 unfold t_stepsOn
 walk_at "rd"
 refine ⟨by decide,fun l nl=>?_⟩
 have A0:Acc K H l (upd H l (.lst [])) []:=Acc.start nl
 have S0:=A0.same
 walk_at "rd"
 refine k_enumT ?_
 walk_at "rd"
 refine k_ixT (SqT.of (S0 _ _ hp)) (v:=.ref b) rfl ?_
 walk_at "rd"
 refine ⟨b,xs,rfl,SqT.of (S0 _ _ hb),?_⟩
 refine fat_enumT (xs:=xs) (fun i σ H2=>∃u4 u5:Option V,σ = [some (.ref p),some u,some (.ref r),some (.ref l),u4,u5]∧Acc K H l H2 ((stps (ts.map pr) (c,row) i).map dPr)) ⟨none,none,rfl,A0⟩ (fun i σ H2 _ ⟨_,_,_,A⟩=>SqT.of (A.same _ _ hb)) ?_ ?_
 ·rintro i z σ H2 T hz ⟨u4,u5,rfl,A⟩ nT
  obtain ⟨dd,g1,g2⟩:=rx.get hz
  rw [List.getElem?_map] at g1
  obtain ⟨t,et,rfl⟩:=Option.map_eq_some_iff.mp g1
  have li:i < ts.length:=(List.getElem?_eq_some_iff.mp et).1
  have nt:=nn t (List.mem_of_getElem? et)
  have es:(stps (ts.map pr) (c,row) (i+1))=stps (ts.map pr) (c,row) i++(stp (ts.map pr) (c,row) i).toList:=stps_succ
  have ep:stp (ts.map pr) (c,row) i=if can (pr t) c=true then some (beh (pr t) c,row++[i]) else none:=by
   unfold stp
   rw [List.getElem?_map,et]
   rfl
  have S2:=A.same
  have ST:=same_new nT (.tup [.int (i:Int),z])
  refine k_gTup (SqT.of upd_same) rfl ?_
  walk_at "rd"
  have A2:=A.on ST
  generalize upd H2 T (.tup [.int (i:Int),z])=H3 at ST A2 ⊢
  have rz:Rz K H3 z (dT t):=g2.same A2.same
  refine ⟨z,u,t,c,rfl,rz,ru.same A2.same,by omega,fun H4 S4=>?_⟩
  have A4:=A2.on S4
  by_cases y:can (pr t) c=true
  ·rw [y]
   walk_at "rd"
   refine ⟨A4.ty,?_⟩
   walk_at "rd"
   refine ⟨z,u,t,c,rfl,rz.same S4,ru.same A4.same,nt.1,nt.2,l100,fun o H5 S5 ro=>?_⟩
   walk_at "rd"
   refine ⟨by show 1≤sizeLine;decide,fun q nq=>?_⟩
   have S6:=same_new nq (.lst [V.int (i:Int)])
   walk_at "rd"
   refine ⟨r,q,_,_,rfl,rfl,S6 _ _ (S5 _ _ (A4.same _ _ hr)),upd_same,by rw [List.length_map,List.length_map];show row.length+1≤sizeLine;rw [sizeLine_eq];omega,fun g ng=>?_⟩
   have S7:=same_new ng (.lst ((zs row).map V.int++[V.int (i:Int)]))
   have hg:upd (upd H5 q (.lst [V.int (i:Int)])) g (.lst ((zs row).map V.int++[V.int (i:Int)])) g=some (.lst ((zs (row++[i])).map V.int)):=by rw [upd_same,show zs (row++[i])=zs row++[(i:Int)] from List.map_append ..,List.map_append];rfl
   have ng4:H4 g=none:=(S5.trans S6).free ng
   have S57:=S5.trans (S6.trans S7)
   have ro7:=ro.same (S6.trans S7)
   generalize upd (upd H5 q (.lst [V.int (i:Int)])) g (.lst ((zs row).map V.int++[V.int (i:Int)]))=H7 at S7 hg S57 ro7 ⊢
   walk_at "rd"
   refine ⟨by show 2≤sizeLine;decide,fun m nm=>?_⟩
   have S8:=same_new nm (.tup [V.ref o,.ref g])
   have rm:Rp K (fun a=>H4 a=none) (upd H7 m (.tup [V.ref o,.ref g])) (.ref m) (dPr (beh (pr t) c,row++[i])):=.tup upd_same (.cons ((ro7.same S8).mono fun _ z=>z.elim) (.cons (.lst ng4 (S8 _ _ hg) (RpL.ints _)) .nil))
   obtain ⟨ys,h1,h2,h3⟩:=A4.pushN (S57.trans S8) rm
   walk_at "rd"
   refine ⟨l,ys,_,rfl,rfl,h1,by rw [h2,List.length_map];exact small1000 (by have:=stps_len (T:=ts.map pr) (h:=(c,row)) (k:=i);omega),?_⟩
   walk_at "rd"
   refine ⟨_,_,rfl,?_⟩
   rw [es,ep,if_pos y,List.map_append]
   exact h3
  ·have y':can (pr t) c=false:=by cases e:can (pr t) c <;> simp_all
   rw [y']
   walk_at "rd"
   refine ⟨_,_,rfl,?_⟩
   rw [es,ep,if_neg y,List.map_append]
   show Acc K H l H4 (_++[])
   rw [List.append_nil]
   exact A4
 ·rintro σ H2 ⟨u4,u5,rfl,A⟩
  rw [lx] at A
  walk_at "rd"
  exact k l H2 A
theorem agr_dT{S:Addr→Prop}{H:Hp}{d:Addr}{kvs:List (List Key×V)}{o:HO}(hd:H d=some (.dT kvs)):Agr S H (upd H d o):=⟨fun a ys h=>by rw [upd_ne (ne_of h hd (by intro z;cases z))];exact h,fun a ys _ h=>by rw [upd_ne (ne_of h hd (by intro z;cases z))];exact h⟩
theorem acc_updD{K:PySem.W.Frag}{H0 H:Hp}{l d:Addr}{ds:List Dat}{kvs:List (List Key×V)}{o:HO}(A:Acc K H0 l H ds)(n:H0 d=none)(hd:H d=some (.dT kvs)):Acc K H0 l (upd H d o) ds:=by
 obtain ⟨xs,h1,h2⟩:=A.at_
 exact ⟨fun b u q=>by rw [upd_ne (ne_of_none q n)];exact A.same b u q,A.new,xs,by rw [upd_ne (ne_of h1 hd (by intro z;cases z))];exact h1,h2.agr (agr_dT hd)⟩
structure Fo (K:PySem.W.Frag) (H0 H:Hp) (l d:Addr) (told:List Pr):Prop where
 acc:Acc K H0 l H (told.map dPr)
 new:H0 d=none
 at_:∃kvs:List (List Key×V),H d=some (.dT kvs)∧kvs.length≤told.length∧∀c,(valV kvs (toK c)).isSome=decide (c∈told.map Prod.fst)
theorem Fo.on{K:PySem.W.Frag}{H0 H H':Hp}{l d:Addr}{told:List Pr}(F:Fo K H0 H l d told)(e:Same H H'):Fo K H0 H' l d told:=by
 obtain ⟨kvs,h1,h2⟩:=F.at_
 exact ⟨F.acc.on e,F.new,kvs,e _ _ h1,h2⟩
theorem Fo.has{K:PySem.W.Frag}{H0 H:Hp}{l d b:Addr}{told:List Pr}{c:List Int}(F:Fo K H0 H l d told)(hb:H b=some (.tup (c.map V.int))):∃o,DGet H d (.ref b) o∧o.isSome=decide (c∈told.map Prod.fst):=by
 obtain ⟨kvs,h1,_,h3⟩:=F.at_
 exact ⟨_,DGet.t h1 (k:=toK c) (b:=b) (by rw [toK_kV];exact hb),h3 c⟩
theorem Fo.grow{K:PySem.W.Frag}{H0 H:Hp}{l d b:Addr}{told:List Pr}{c:List Int}{row:List Nat}{S:Addr→Prop}{y:V}(F:Fo K H0 H l d told)(hb:H b=some (.tup (c.map V.int)))(lt:told.length < 1000)(nc:c∉told.map Prod.fst)(r:Rp K S H y (dPr (c,row)))(hS:∀a,S a→H0 a=none∧a≠l) :
  ∃H1,DPut H d (.ref b) (.bl true) H1∧(∀S',Agr S' H H1)∧Acc K H0 l H1 (told.map dPr)∧∃ys,H1 l=some (.lst ys)∧ys.length=told.length∧Fo K H0 (upd H1 l (.lst (ys++[y]))) l d (told++[(c,row)]):=by
 obtain ⟨kvs,h1,h2,h3⟩:=F.at_
 have A1:=acc_updD (o:=.dT (putK kvs (toK c) (.bl true))) F.acc F.new h1
 refine ⟨_,DPut.t h1 (k:=toK c) (b:=b) (by rw [toK_kV];exact hb) (small1000 (by omega)),fun _=>agr_dT h1,A1,?_⟩
 obtain ⟨ys,g1,g2,g3⟩:=A1.push (r.agr (agr_dT h1)) hS
 rw [List.length_map] at g2
 have ne:d≠l:=by
  intro z
  rw [← z,upd_same] at g1
  cases g1
 refine ⟨ys,g1,g2,by rw [List.map_append];exact g3,F.new,putK kvs (toK c) (.bl true),by rw [upd_ne ne,upd_same],?_,fun c'=>?_⟩
 ·have:=length_putK kvs (toK c) (.bl true)
  rw [List.length_append]
  show _≤told.length+1
  omega
 ·rw [valV_put,List.map_append]
  by_cases z:c'=c
  ·subst z
   rw [if_pos rfl]
   symm
   exact decide_eq_true (List.mem_append_right _ (List.mem_singleton.mpr rfl))
  ·rw [if_neg (fun e=>z (toK_inj e)),h3]
   refine decide_eq_decide.mpr ⟨fun m=>List.mem_append_left _ m,fun m=>?_⟩
   rcases List.mem_append.mp m with m | m
   ·exact m
   ·exact absurd (List.mem_singleton.mp m) z
end Cg
namespace Cg
open PySem L2 Fr G1 Sm Vs Dn Rk Wd Cm
open PySem.W (Dat kqdOk)
def CmO(K:PySem.W.Frag)(H:Hp)(Q:VK)(E:XK)(C:Addr)(L:List Pr):Prop :=
 (L.length≤60→∀(l:Addr) (H':Hp),Acc K H l H' (L.map dPr)→Q (.ref l) H') ∧
 (60 < L.length→∀(g dx:Addr) (H':Hp),Same H H'→H g=none→Rp K (fun a=>H a=none) H' (.ref g) (.list ((L.take 61).map dPr))→H' dx=some (.xd [("counts",.ref g)])→E (.ref C) (some dx) H')
def spComings (K:PySem.W.Frag) (C:Addr):Sp:=fun vs H Q E=>∃(v u:V) (ws:List Str) (ts:List Tn) (c:List Int),vs=[v,u]∧Rz K H v (dV ws ts)∧Rz K H u (dI c)∧Nn c.length ts∧c.length≤100∧ts.length≤8∧ExcS K C∧ExcF K C "counts"∧CmO K H Q E C (come (ts.map pr) c)
theorem len_comings{K:PySem.W.Frag}{C:Addr}{vs:List V}{H:Hp}{Q:VK}{E:XK}{x y:Str}(h:spComings K C vs H Q E):vs.length=[x,y].length:=by
 obtain ⟨a,b,_,_,_,rfl,_⟩:=h
 rfl
theorem Fo.first{K:PySem.W.Frag}{H0 H:Hp}{l d:Addr}{c:List Int}(A:Acc K H0 l H [dPr (c,[])])(nd:H d=none):Fo K H0 (upd (upd H d (.dT [])) d (.dT (putK [] (toK c) (.bl true)))) l d [(c,[])]:=by
 have n0:H0 d=none:=A.same.free nd
 refine ⟨acc_updD (A.on (same_new nd _)) n0 upd_same,n0,_,upd_same,?_,fun c'=>?_⟩
 ·have:=length_putK ([]:List (List Key×V)) (toK c) (.bl true)
  simpa using this
 ·rw [valV_put]
  by_cases z:c'=c
  ·subst z
   rw [if_pos rfl]
   simp
  ·rw [if_neg (fun e=>z (toK_inj e))]
   simp [z,valV]
theorem cut61(xs:List V)(h:61≤xs.length):cutV xs none (some (60+1))=xs.take 61:=by
 unfold cutV
 rw [show HT.sIx xs.length 0 none=0 from rfl,List.drop_zero,Nat.sub_zero]
 congr 1
 show HT.sIx xs.length xs.length (some 61)=61
 unfold HT.sIx
 simp
 omega
theorem pair_at{K:PySem.W.Frag}{S:Addr→Prop}{H:Hp}{z:V}{h:Pr}(r:Rp K S H z (dPr h)):∃(o:Addr) (y:V) (rr:Addr),z = .ref o∧H o=some (.tup [y,.ref rr])∧Rz K H y (dI h.1)∧H rr=some (.lst ((zs h.2).map V.int)):=by
 obtain ⟨o,ys,rfl,ho,ry⟩:=(show Rp K S H z (.tuple [dI h.1,.list ((zs h.2).map Dat.int)]) from r).tup_at
 match ys,ry with
 | [_,_],.cons q0 (.cons q1 .nil) =>
  obtain ⟨a0,xs0,rfl,h0,r0⟩:=q0.tup_at
  cases RpL.ints_of r0
  obtain ⟨rr,xs1,rfl,_,h1,r1⟩:=q1.lst_at
  cases RpL.ints_of r1
  exact ⟨o,_,rr,rfl,ho,.tup h0 (RpL.ints _),h1⟩
def t_comings(K:PySem.W.Frag)(E:XK)(x:Ex0.Ad):TS:=(tSeq (tAsg (tCB (rTupOf K) (tCons (tVar 1) tNil)) (gName 2))
 (tSeq (tAsg (tLst (tCons (tTup (tCons (tVar 2) (tCons (tLst tNil) tNil))) tNil)) (gName 3))
 (tSeq (tAsg (tDisp1T (tVar 2) (tC (.bl true))) (gName 4))
 (tSeq (tAsg (tC (.int 0)) (gName 5))
 (tSeq (tWhile (tTest (tOp rLt (tVar 5) (tCB (rLenQ K) (tCons (tVar 3) tNil))))
 (tSeq (tAsg (tOp (rIxL K) (tVar 3) (tVar 5)) (gName 6))
 (tSeq (tFor (iList K (tCall (spStepsOn K) [] E0 (tCons (tVar 0) (tCons (tOp (rIxT K) (tVar 6) (tC (.int 0))) (tCons (tOp (rIxT K) (tVar 6) (tC (.int 1))) tNil))))) (gName 7)
 (tIfS (tB (tDNotIn (tOp (rIxT K) (tVar 7) (tC (.int 0))) (tVar 4)))
 (tSeq (sDPut (tVar 4) (tOp (rIxT K) (tVar 7) (tC (.int 0))) (tC (.bl true)))
 (tDrop (tBM K "list" rAppend (tVar 3) (tCons (tVar 7) tNil))))
 tNext))
 (tSeq (tIfS (tTest (tOp rGt (tCB (rLenQ K) (tCons (tVar 3) tNil)) (tC (.int 60))))
 (tRaiseI E x.c8 (spIniL K x.c8 "counts") (tSl (rSlL K) (tVar 3) tNoPart (tPart (tOp qAdd (tC (.int 60)) (tC (.int 1))))))
 tNext)
 (tAsg (tOp qAdd (tVar 5) (tC (.int 1))) (gName 5))))))
 (tRet (tVar 3)))))))
theorem rd_comings{K:PySem.W.Frag}{x:Ex0.Ad}{vs:List V}{H:Hp}{Q:VK}{E:XK}{N:List Str}(hN:N.length=8)(h:spComings K x.c8 vs H Q E):t_comings K E x (ends Q) (L2.start N vs) H:=by
 obtain ⟨v,u,ws,ts,c,rfl,rv,ru,nn,l100,l8,hS,hF,k1,k2⟩:=h
 obtain ⟨b,rfl,hb⟩:=dI_at ru
 rw [show L2.start N [v,.ref b]=[some v,some (.ref b),none,none,none,none,none,none] by unfold L2.start;rw [hN];rfl]
 unfold t_comings
 walk_at "rd"
 refine k_tupT (SqT.of hb) ?_
 walk_at "rd"
 refine ⟨by decide,fun r0 n0=>?_⟩
 have S0:=same_new n0 (.lst [])
 walk_at "rd"
 refine ⟨by show 2≤sizeLine;decide,fun m nm=>?_⟩
 have S1:=same_new nm (.tup [V.ref b,.ref r0])
 walk_at "rd"
 refine ⟨by show 1≤sizeLine;decide,fun l nl=>?_⟩
 have S2:=same_new nl (.lst [V.ref m])
 have nl0:H l=none:=(S0.trans S1).free nl
 have nrl:r0≠l:=by
  intro z
  rw [← z,S1 _ _ upd_same] at nl
  cases nl
 have A0:Acc K H l (upd (upd (upd H r0 (.lst [])) m (.tup [V.ref b,.ref r0])) l (.lst [V.ref m])) [dPr (c,[])] :=
  ⟨(S0.trans S1).trans S2,nl0,[V.ref m],upd_same,.cons (.tup (S2 _ _ upd_same) (.cons (((ru.same S0).same S1).same S2 |>.mono fun _ z=>z.elim) (.cons (.lst ⟨n0,nrl⟩ (S2 _ _ (S1 _ _ upd_same)) .nil) .nil))) .nil⟩
 have hb3:=S2 _ _ (S1 _ _ (S0 _ _ hb))
 generalize upd (upd (upd H r0 (.lst [])) m (.tup [V.ref b,.ref r0])) l (.lst [V.ref m])=H3 at A0 hb3 ⊢
 walk_at "rd"
 refine k_disp1T fun d nd=>?_
 have S4:=same_new nd (.dT [])
 walk_at "rd"
 refine ⟨upd_same,b,toK c,rfl,by rw [toK_kV];exact S4 _ _ hb3,?_⟩
 have F0:=Fo.first A0 nd
 generalize upd (upd H3 d (.dT [])) d (.dT (putK [] (toK c) (.bl true)))=H5 at F0 ⊢
 walk_at "rd"
 refine while_by (fun σ H6=>∃(pl:Nat) (told:List Pr) (u6 u7:Option V),σ = [some v,some (.ref b),some (.ref b),some (.ref l),some (.ref d),some (.int (pl:Int)),u6,u7]∧Fo K H H6 l d told∧pl≤told.length∧told.length≤60∧Fd (ts.map pr) c pl told∧come (ts.map pr) c=runs (ts.map pr) (61 - pl) told pl)
  (fun σ _=>match σ with | [_,_,_,_,_,some (.int pl),_,_]=>61 - pl.toNat | _=>0) ⟨0,[(c,[])],none,none,rfl,F0,Nat.zero_le _,(show 1≤60 by decide),Fd.start _ _,rfl⟩ ?_ ?_
 ·rintro σ H6 ⟨pl,told,u6,u7,rfl,F,lpl,l60,fd,er⟩
  obtain ⟨xs,sq,lx,rx⟩:=F.acc.sq
  rw [List.length_map] at lx
  walk_at "rd"
  refine k_lenL sq ?_
  rw [lx]
  walk_at "rd"
  refine k_ite (fun lt=>?_) (fun ge=>?_)
  ·have lt':pl < told.length:=by omega
   obtain ⟨h,hh⟩:∃h,told[pl]? = some h:=⟨_,List.getElem?_eq_getElem lt'⟩
   obtain ⟨z,hz,rz⟩:=rx.get' (i:=pl) (d:=dPr h) (by rw [List.getElem?_map,hh];rfl)
   obtain ⟨o,y0,rr,rfl,ho,rz0,hrr⟩:=pair_at rz
   have hm:=List.mem_of_getElem? hh
   have hlen:h.1.length=c.length:=wlk_len _ _ _ (fd.wk h hm)
   have hrow:=fd.le h hm
   have er2:come (ts.map pr) c=runs (ts.map pr) (60 - pl) (round (ts.map pr) told h) (pl+1):=by
    rw [er,show 61 - pl=(60 - pl)+1 by omega]
    exact runs_next hh (by omega)
   have fd2:Fd (ts.map pr) c (pl+1) (round (ts.map pr) told h):=fd.step hm
   walk_at "rd"
   refine k_ixL sq (v:=.ref o) (atI_nat hz) ?_
   walk_at "rd"
   refine k_ixT (SqT.of ho) (v:=y0) rfl ?_
   walk_at "rd"
   refine k_ixT (SqT.of ho) (v:=.ref rr) rfl ?_
   walk_at "rd"
   refine ⟨v,y0,rr,ws,ts,h.1,h.2,rfl,rv.same F.acc.same,rz0,hrr,by rw [hlen];exact nn,by rw [hlen];exact l100,l8,by omega,fun ls H7 A7=>?_⟩
   obtain ⟨xs7,hls,rx7⟩:=A7.at_
   have lx7:xs7.length=(stps (ts.map pr) h ts.length).length:=by rw [rx7.length,List.length_map]
   have ln7:=stps_len (T:=ts.map pr) (h:=h) (k:=ts.length)
   have nl6:H6 l≠none:=by
    obtain ⟨_,q,_⟩:=F.acc.at_
    rw [q];intro z;cases z
   refine k_rlF (SqL.of hls) ?_
   refine fat_list (xs:=xs7) (fun i σ H8=>∃u7:Option V,σ = [some v,some (.ref b),some (.ref b),some (.ref l),some (.ref d),some (.int (pl:Int)),some (.ref o),u7]∧Fo K H H8 l d (adds told ((stps (ts.map pr) h ts.length).take i))∧Agr (fun a=>H6 a=none) H7 H8)
    ⟨_,rfl,F.on A7.same,Agr.of_same (Same.refl _)⟩ (fun i σ H8 _ ⟨_,_,_,ag⟩=>SqL.of (ag.lst _ _ A7.new hls)) ?_ ?_
   ·rintro i z7 σ H8 hz7 ⟨u7,rfl,F8,ag⟩
    obtain ⟨dd,g1,g2⟩:=rx7.get hz7
    rw [List.getElem?_map] at g1
    obtain ⟨s,es,rfl⟩:=Option.map_eq_some_iff.mp g1
    have li:i < xs7.length:=(List.getElem?_eq_some_iff.mp hz7).1
    have r8:Rp K (fun a=>H6 a=none) H8 z7 (dPr s):=(g2.mono fun _ q=>q.1).agr ag
    obtain ⟨o7,y7,rr7,rfl,ho7,ry7,_⟩:=pair_at r8
    obtain ⟨b7,rfl,hb7⟩:=dI_at ry7
    have esn:adds told ((stps (ts.map pr) h ts.length).take (i+1))=Cm.add (adds told ((stps (ts.map pr) h ts.length).take i)) s:=by
     rw [List.take_add_one,es]
     exact adds_snoc
    have ll:(adds told ((stps (ts.map pr) h ts.length).take i)).length≤68:=by
     obtain ⟨r,e,lr⟩:=adds_pre ((stps (ts.map pr) h ts.length).take i) told
     rw [e,List.length_append]
     rw [List.length_take] at lr
     omega
    generalize adds told ((stps (ts.map pr) h ts.length).take i)=told' at F8 esn ll
    walk_at "rd"
    refine k_ixT (SqT.of ho7) (v:=.ref b7) rfl ?_
    walk_at "rd"
    obtain ⟨og,dg,eo⟩:=F8.has hb7
    refine ⟨d,og,rfl,dg,?_⟩
    rw [eo]
    by_cases mm:s.1∈told'.map Prod.fst
    ·rw [decide_eq_true mm]
     walk_at "rd"
     refine ⟨_,rfl,?_,ag⟩
     rw [esn]
     unfold Cm.add
     rw [if_pos mm]
     exact F8
    ·rw [decide_eq_false mm]
     obtain ⟨H9,dp,agd,A9,ys,hl9,ly,F9⟩:=F8.grow (row:=s.2) hb7 (by omega) mm r8 fun a q=>⟨F.acc.same.free q,fun e=>nl6 (e ▸ q)⟩
     walk_at "rd"
     refine k_ixT (SqT.of ho7) (v:=.ref b7) rfl ?_
     refine ⟨d,H9,rfl,dp,?_⟩
     walk_at "rd"
     refine ⟨A9.ty,?_⟩
     walk_at "rd"
     refine ⟨l,ys,_,rfl,rfl,hl9,by rw [ly];exact small1000 (by omega),?_⟩
     walk_at "rd"
     refine ⟨_,rfl,?_,?_⟩
     ·rw [esn]
      unfold Cm.add
      rw [if_neg mm]
      exact F9
     ·have a2:=Agr.of_upd (S:=fun a=>H6 a=none) (o:=.lst (ys++[V.ref o7])) hl9 nl6
      have a1:=agd fun a=>H6 a=none
      exact ⟨fun a q w=>a2.tup _ _ (a1.tup _ _ (ag.tup _ _ w)),fun a q n w=>a2.lst _ _ n (a1.lst _ _ n (ag.lst _ _ n w))⟩
   ·rintro σ H8 ⟨u7,rfl,F8,ag⟩
    rw [lx7,List.take_of_length_le (Nat.le_refl _)] at F8
    have er3:adds told (stps (ts.map pr) h ts.length)=round (ts.map pr) told h:=by
     unfold round
     rw [List.length_map]
    rw [er3] at F8
    have l68:(round (ts.map pr) told h).length≤68:=by
     obtain ⟨r,e,lr⟩:=adds_pre (stps (ts.map pr) h ts.length) told
     rw [← er3,e,List.length_append]
     omega
    have lge:told.length≤(round (ts.map pr) told h).length:=by
     obtain ⟨r,e,lr⟩:=adds_pre (stps (ts.map pr) h ts.length) told
     rw [← er3,e,List.length_append]
     omega
    generalize round (ts.map pr) told h=told2 at F8 l68 lge er2 fd2
    obtain ⟨xs8,sq8,lx8,rx8⟩:=F8.acc.sq
    rw [List.length_map] at lx8
    walk_at "rd"
    refine k_lenL sq8 ?_
    rw [lx8]
    walk_at "rd"
    refine k_ite (fun big=>?_) (fun small=>?_)
    ·have big':60 < told2.length:=by omega
     have ec:come (ts.map pr) c=told2:=by rw [er2];exact runs_end (.inr (by omega)) _
     rw [ec] at k2
     walk_at "rd"
     unfold tRaiseI
     walk_at "rd"
     refine ⟨l,xs8,rfl,sq8,fun p np=>?_⟩
     have Sp:=same_new np (.lst (cutV xs8 none (some (60+1))))
     refine k_raiseIL (te:=fun _ H Q=>Q (.ref p) H) (D:=ends Q) (σ:=[]) hS hF ⟨p,_,rfl,fun H2 S=>SqL.of (S _ _ upd_same),fun g dx H' S ng hg hdx=>?_⟩ (fun h q=>h _ _ q)
     have S8:=Sp.trans S
     rw [cut61 xs8 (by omega)] at hg
     refine k2 big' g dx H' (F8.acc.same.trans S8) (F8.acc.same.free (Sp.free ng)) (.lst (F8.acc.same.free (Sp.free ng)) hg ?_) hdx
     rw [List.map_take]
     exact ((rx8.same S8).mono fun _ q=>q.1).take 61
    ·walk_at "rd"
     refine ⟨⟨pl+1,told2,_,_,rfl,F8,by omega,by omega,fd2,by rw [er2,show 61 - (pl+1)=60 - pl by omega]⟩,?_⟩
     show 61 - (((pl:Nat):Int)+1).toNat < 61 - ((pl:Nat):Int).toNat
     omega
  ·walk_at "rd"
   have ec:come (ts.map pr) c=told:=by rw [er];exact runs_end (.inl (by omega)) _
   rw [ec] at k1
   exact k1 l60 l H6 F.acc
 ·rintro σ H' R R' h ⟨w1,e1,w2,e2,p,ys,e3,e4,i,j,e5,e6,kk,e7,q⟩
  exact ⟨w1,e1,w2,e2,p,ys,e3,e4,i,j,e5,e6,kk,e7,h _ _ q⟩
def t_ini8 (K:PySem.W.Frag):TS:=(tSeq (tDrop (tBaseI K (tCons (tVar 0) (tCons (tC (.str "the walks come to more than sixty counts")) tNil))))
 (sFldX K (tVar 0) (tCB (rListOf K) (tCons (tVar 1) tNil)) "counts"))
theorem rd_ini8 {K:PySem.W.Frag} {C:Addr} {vs:List V} {H:Hp} {Q:VK} {E:XK} {N:List Str} (hN:N.length=2) (h:spIniL K C "counts" vs H Q E):t_ini8 K (ends Q) (L2.start N vs) H:=by
 obtain ⟨e,c,xs,rfl,sq,he,hS,hF,k⟩:=h
 rw [show L2.start N [.ref e,.ref c]=[some (.ref e),some (.ref c)] by unfold L2.start;rw [hN];rfl]
 unfold t_ini8
 walk_at "rd"
 unfold tBaseI
 walk_at "rd"
 refine ⟨e,C,none,_,rfl,he,hS,?_⟩
 refine ⟨_,rfl,?_⟩
 walk_at "rd"
 refine k_listL sq fun l nl=>?_
 exact ⟨_,rfl,e,C,rfl,same_new nl _ _ _ he,hF,fun dx ndx=>k l dx nl ndx⟩
end Cg
namespace Cg
open PySem L2 Fr G1 Sm Vs Dn Rk Wd Cm
open PySem.W (Dat kqdOk)
theorem pt_at{l:List Int}{i:Nat}(h:i < l.length):l[i]? = some (pt l i):=by
 unfold pt
 rw [List.getD_eq_getElem?_getD,List.getElem?_eq_getElem h];rfl
theorem can_all{t:Tp}{c:List Int}(l:t.1.length=c.length)(h:∀k < c.length,pt t.1 k≤pt c k):can t c=true:=by
 unfold can
 rw [List.all_eq_true]
 intro z hz
 obtain ⟨k,hk,rfl⟩:=List.mem_iff_getElem.mp hz
 rw [List.length_zip] at hk
 have q:=h k (by omega)
 rw [List.getElem_zip]
 unfold pt at q
 rw [List.getD_eq_getElem?_getD,List.getElem?_eq_getElem (by omega),List.getD_eq_getElem?_getD,List.getElem?_eq_getElem (by omega)] at q
 simpa using q
def spLStN(K:PySem.W.Frag):Sp:=fun vs H Q _=>∃(v w:V) (t:Tn) (c:List Int),vs=[v,w]∧Rz K H v (dT t)∧Rz K H w (dI c)∧t.fr.length=c.length∧t.to.length=c.length∧c.length≤100∧(can (pr t) c=true→∀(p:Addr) (H':Hp),Same H H'→Rz K H' (.ref p) (dI (beh (pr t) c))→Q (.ref p) H')∧(can (pr t) c=false→∀H',Same H H'→Q .non H')
theorem len_lstN{K:PySem.W.Frag}{vs:List V}{H:Hp}{Q:VK}{E:XK}{x y:Str}(h:spLStN K vs H Q E):vs.length=[x,y].length:=by
 obtain ⟨a,b,_,_,rfl,_⟩:=h
 rfl
def t_lstN(K:PySem.W.Frag):TS:=(tSeq (tAsg (tLst tNil) (gName 2))
 (tSeq (tFor (iRng1 (tCons (tCB (rLenQ K) (tCons (tVar 1) tNil)) tNil)) (gName 3)
 (tSeq (tIfS (tTest (tOp rLt (tOp (rIxT K) (tVar 1) (tVar 3)) (tOp (rIxT K) (tOp (rIxT K) (tVar 0) (tC (.int 0))) (tVar 3))))
 (tRet (tC .non))
 tNext)
 (tDrop (tBM K "list" rAppend (tVar 2) (tCons (tOp qAdd (tOp qSub (tOp (rIxT K) (tVar 1) (tVar 3)) (tOp (rIxT K) (tOp (rIxT K) (tVar 0) (tC (.int 0))) (tVar 3))) (tOp (rIxT K) (tOp (rIxT K) (tVar 0) (tC (.int 1))) (tVar 3))) tNil)))))
 (tRet (tCB (rTupOf K) (tCons (tVar 2) tNil)))))
theorem rd_lstN{K:PySem.W.Frag}{vs:List V}{H:Hp}{Q:VK}{E:XK}{N:List Str}(hN:N.length=4)(h:spLStN K vs H Q E):t_lstN K (ends Q) (L2.start N vs) H:=by
 obtain ⟨v,w,t,c,rfl,rv,rw_,l1,l2,hl,k1,k2⟩:=h
 obtain ⟨a,w1,w2,w3,rfl,ha,q1,q2,_⟩:=dT_at rv
 obtain ⟨b,rfl,hb⟩:=dI_at rw_
 obtain ⟨f,rfl,hf⟩:=dI_at q1
 obtain ⟨g,rfl,hg⟩:=dI_at q2
 rw [show L2.start N [.ref a,.ref b]=[some (.ref a),some (.ref b),none,none] by unfold L2.start;rw [hN];rfl]
 unfold t_lstN
 walk_at "rd"
 refine ⟨by decide,fun l nl=>?_⟩
 walk_at "rd"
 have Sl:=same_new nl (.lst [])
 refine k_lenT (SqT.of (Sl _ _ hb)) ?_
 rw [List.length_map]
 walk_at "rd"
 rw [show ((c.length:Nat):Int).toNat=c.length by omega]
 refine fat_range (fun i σ H2=>∃u3:Option V,σ = [some (.ref a),some (.ref b),some (.ref l),u3]∧AccZ K H l H2 (((beh (pr t) c).take i).map Dat.int)∧∀k < i,pt t.fr k≤pt c k) ⟨none,rfl,AccZ.start (Same.refl _) nl,fun k hk=>absurd hk (Nat.not_lt_zero _)⟩ ?_ ?_
 ·rintro i σ H2 hi ⟨u3,rfl,A,all⟩
  have ec:=beh_at (t:=t) (c:=c) (pt_at (l:=t.fr) (by omega)) (pt_at (l:=t.to) (by omega)) (pt_at hi)
  have ixI:∀{ls:List Int},i < ls.length→atI (ls.map V.int) (0+(i:Int))=some (.int (pt ls i)):=fun hh=>by
   rw [Int.zero_add]
   exact atI_nat (by rw [List.getElem?_map,pt_at hh];rfl)
  walk_at "rd"
  refine k_ixT (SqT.of (A.same _ _ hb)) (ixI hi) ?_
  walk_at "rd"
  refine k_ixT (SqT.of (A.same _ _ ha)) (v:=.ref f) rfl ?_
  walk_at "rd"
  refine k_ixT (SqT.of (A.same _ _ hf)) (ixI (by omega)) ?_
  walk_at "rd"
  refine k_ite (fun lt=>?_) (fun ge=>?_)
  ·walk_at "rd"
   refine k2 ?_ H2 A.same
   cases e:can (pr t) c with
   | false=>rfl
   | true =>
    have:=can_le e (k:=i) (by show i < t.fr.length;omega) hi
    exact absurd (show pt t.fr i≤pt c i from this) (by omega)
  ·walk_at "rd"
   refine ⟨A.ty,?_⟩
   walk_at "rd"
   refine k_ixT (SqT.of (A.same _ _ hb)) (ixI hi) ?_
   walk_at "rd"
   refine k_ixT (SqT.of (A.same _ _ ha)) (v:=.ref f) rfl ?_
   walk_at "rd"
   refine k_ixT (SqT.of (A.same _ _ hf)) (ixI (by omega)) ?_
   walk_at "rd"
   refine k_ixT (SqT.of (A.same _ _ ha)) (v:=.ref g) rfl ?_
   walk_at "rd"
   refine k_ixT (SqT.of (A.same _ _ hg)) (ixI (by omega)) ?_
   walk_at "rd"
   refine k_appZ A (.int (pt c i - pt t.fr i+pt t.to i)) (small1000 (by rw [List.length_map,List.length_take];omega)) fun H4 A4 _ _ _=>?_
   walk_at "rd"
   refine ⟨_,rfl,?_,fun k hk=>?_⟩
   ·rw [List.take_add_one,ec,List.map_append]
    exact A4
   ·by_cases z:k < i
    ·exact all k z
    ·have:k=i:=by omega
     subst this
     omega
 ·rintro σ H2 ⟨u3,rfl,A,all⟩
  rw [List.take_of_length_le (by unfold beh;rw [List.length_map,List.length_range];exact Nat.le_refl _)] at A
  walk_at "rd"
  refine k_tupL (SqL.of (AccZ.ints A)) fun p np=>?_
  exact k1 (can_all l1 all) p _ (A.same.trans (same_new np _)) (.tup upd_same (RpL.ints _))
structure Fp (K:PySem.W.Frag) (H0 H:Hp) (l d:Addr) (told:List Pr) (c:List Int):Prop where
 acc:Acc K H0 l H (told.map dPr)
 new:H0 d=none
 at_:∃kvs:List (List Key×V),H d=some (.dT kvs)∧kvs.length≤told.length+1∧∀c',(valV kvs (toK c')).isSome=decide (c'∈told.map Prod.fst++[c])
theorem Fp.on{K:PySem.W.Frag}{H0 H H':Hp}{l d:Addr}{told:List Pr}{c:List Int}(F:Fp K H0 H l d told c)(e:Same H H'):Fp K H0 H' l d told c:=by
 obtain ⟨kvs,h1,h2⟩:=F.at_
 exact ⟨F.acc.on e,F.new,kvs,e _ _ h1,h2⟩
theorem Fo.put{K:PySem.W.Frag}{H0 H:Hp}{l d b:Addr}{told:List Pr}{c:List Int}(F:Fo K H0 H l d told)(hb:H b=some (.tup (c.map V.int)))(lt:told.length < 1000) :
  ∃H1,DPut H d (.ref b) (.bl true) H1∧(∀S',Agr S' H H1)∧Fp K H0 H1 l d told c:=by
 obtain ⟨kvs,h1,h2,h3⟩:=F.at_
 refine ⟨_,DPut.t h1 (k:=toK c) (b:=b) (by rw [toK_kV];exact hb) (small1000 (by omega)),fun _=>agr_dT h1,acc_updD F.acc F.new h1,F.new,_,upd_same,?_,fun c'=>?_⟩
 ·have:=length_putK kvs (toK c) (.bl true)
  omega
 ·rw [valV_put]
  by_cases z:c'=c
  ·subst z
   rw [if_pos rfl]
   symm
   exact decide_eq_true (List.mem_append_right _ (List.mem_singleton.mpr rfl))
  ·rw [if_neg (fun e=>z (toK_inj e)),h3]
   refine decide_eq_decide.mpr ⟨fun m=>List.mem_append_left _ m,fun m=>?_⟩
   rcases List.mem_append.mp m with m | m
   ·exact m
   ·exact absurd (List.mem_singleton.mp m) z
theorem Fp.push{K:PySem.W.Frag}{H0 H:Hp}{l d:Addr}{told:List Pr}{c:List Int}{row:List Nat}{S:Addr→Prop}{y:V}(F:Fp K H0 H l d told c)(r:Rp K S H y (dPr (c,row)))(hS:∀a,S a→H0 a=none∧a≠l):∃ys,H l=some (.lst ys)∧ys.length=told.length∧Fo K H0 (upd H l (.lst (ys++[y]))) l d (told++[(c,row)]):=by
 obtain ⟨kvs,h1,h2,h3⟩:=F.at_
 obtain ⟨ys,g1,g2,g3⟩:=F.acc.push r hS
 rw [List.length_map] at g2
 have ne:d≠l:=by
  intro z
  rw [← z,h1] at g1
  cases g1
 exact ⟨ys,g1,g2,by rw [List.map_append];exact g3,F.new,kvs,by rw [upd_ne ne];exact h1,by rw [List.length_append];exact h2,fun c'=>by rw [List.map_append];exact h3 c'⟩
end Cg
namespace Cg
open PySem L2 Fr G1 Sm Vs Dn Rk Wd Cm
open PySem.W (Dat kqdOk)
def spDue(K:PySem.W.Frag):Sp:=fun vs H Q _=>∃(v u:V) (ws:List Str) (ts:List Tn) (c:List Int),vs=[v,u]∧Rz K H v (dV ws ts)∧Rz K H u (dI c)∧Nn c.length ts∧c.length≤100∧ts.length≤8∧∀(l:Addr) (H':Hp),Acc K H l H' ((come (ts.map pr) c).map dPr)→Q (.ref l) H'
theorem len_due{K:PySem.W.Frag}{vs:List V}{H:Hp}{Q:VK}{E:XK}{x y:Str}(h:spDue K vs H Q E):vs.length=[x,y].length:=by
 obtain ⟨a,b,_,_,_,rfl,_⟩:=h
 rfl
def t_due(K:PySem.W.Frag):TS:=(tSeq (tAsg (tLst (tCons (tTup (tCons (tVar 1) (tCons (tLst tNil) tNil))) tNil)) (gName 2))
 (tSeq (tAsg (tDisp1T (tVar 1) (tC (.bl true))) (gName 3))
 (tSeq (tAsg (tC (.int 0)) (gName 4))
 (tSeq (tWhile (tAnd (tTest (tOp rLt (tVar 4) (tCB (rLenQ K) (tCons (tVar 2) tNil)))) (tTest (tOp rLt (tCB (rLenQ K) (tCons (tVar 2) tNil)) (tC (.int 61)))))
 (tSeq (tFor (iRng1 (tCons (tCB (rLenQ K) (tCons (tOp (rIxT K) (tVar 0) (tC (.int 1))) tNil)) tNil)) (gName 5)
 (tSeq (tAsg (tCall (spLStN K) [] E0 (tCons (tOp (rIxT K) (tOp (rIxT K) (tVar 0) (tC (.int 1))) (tVar 5)) (tCons (tOp (rIxT K) (tOp (rIxL K) (tVar 2) (tVar 4)) (tC (.int 0))) tNil))) (gName 6))
 (tIfS (tAnd (tTest (tOp rNotN (tVar 6) (tC .non))) (tB (tDNotIn (tVar 6) (tVar 3))))
 (tSeq (sDPut (tVar 3) (tVar 6) (tC (.bl true)))
 (tDrop (tBM K "list" rAppend (tVar 2) (tCons (tTup (tCons (tVar 6) (tCons (tOp rCat (tOp (rIxT K) (tOp (rIxL K) (tVar 2) (tVar 4)) (tC (.int 1))) (tLst (tCons (tVar 5) tNil))) tNil))) tNil))))
 tNext)))
 (tAsg (tOp qAdd (tVar 4) (tC (.int 1))) (gName 4))))
 (tRet (tVar 2))))))
theorem rd_due{K:PySem.W.Frag}{vs:List V}{H:Hp}{Q:VK}{E:XK}{N:List Str}(hN:N.length=7)(h:spDue K vs H Q E):t_due K (ends Q) (L2.start N vs) H:=by
 obtain ⟨v,u,ws,ts,c,rfl,rv,ru,nn,l100,l8,k⟩:=h
 obtain ⟨b,rfl,hb⟩:=dI_at ru
 rw [show L2.start N [v,.ref b]=[some v,some (.ref b),none,none,none,none,none] by unfold L2.start;rw [hN];rfl]
 unfold t_due
 walk_at "rd"
 refine ⟨by decide,fun r0 n0=>?_⟩
 have S0:=same_new n0 (.lst [])
 walk_at "rd"
 refine ⟨by show 2≤sizeLine;decide,fun m nm=>?_⟩
 have S1:=same_new nm (.tup [V.ref b,.ref r0])
 walk_at "rd"
 refine ⟨by show 1≤sizeLine;decide,fun l nl=>?_⟩
 have S2:=same_new nl (.lst [V.ref m])
 have nl0:H l=none:=(S0.trans S1).free nl
 have nrl:r0≠l:=by
  intro z
  rw [← z,S1 _ _ upd_same] at nl
  cases nl
 have A0:Acc K H l (upd (upd (upd H r0 (.lst [])) m (.tup [V.ref b,.ref r0])) l (.lst [V.ref m])) [dPr (c,[])] :=
  ⟨(S0.trans S1).trans S2,nl0,[V.ref m],upd_same,.cons (.tup (S2 _ _ upd_same) (.cons (((ru.same S0).same S1).same S2 |>.mono fun _ z=>z.elim) (.cons (.lst ⟨n0,nrl⟩ (S2 _ _ (S1 _ _ upd_same)) .nil) .nil))) .nil⟩
 have hb3:=S2 _ _ (S1 _ _ (S0 _ _ hb))
 generalize upd (upd (upd H r0 (.lst [])) m (.tup [V.ref b,.ref r0])) l (.lst [V.ref m])=H3 at A0 hb3 ⊢
 walk_at "rd"
 refine k_disp1T fun d nd=>?_
 have S4:=same_new nd (.dT [])
 walk_at "rd"
 refine ⟨upd_same,b,toK c,rfl,by rw [toK_kV];exact S4 _ _ hb3,?_⟩
 have F0:=Fo.first A0 nd
 generalize upd (upd H3 d (.dT [])) d (.dT (putK [] (toK c) (.bl true)))=H5 at F0 ⊢
 walk_at "rd"
 refine while_by (fun σ H6=>∃(pl:Nat) (told:List Pr) (u5 u6:Option V),σ = [some v,some (.ref b),some (.ref l),some (.ref d),some (.int (pl:Int)),u5,u6]∧Fo K H H6 l d told∧pl≤told.length∧told.length≤68∧Fd (ts.map pr) c pl told∧come (ts.map pr) c=runs (ts.map pr) (61 - pl) told pl)
  (fun σ _=>match σ with | [_,_,_,_,some (.int pl),_,_]=>61 - pl.toNat | _=>0) ⟨0,[(c,[])],none,none,rfl,F0,Nat.zero_le _,(show 1≤68 by decide),Fd.start _ _,rfl⟩ ?_ ?_
 ·rintro σ H6 ⟨pl,told,u5,u6,rfl,F,lpl,l68,fd,er⟩
  obtain ⟨xs,sq,lx,rx⟩:=F.acc.sq
  rw [List.length_map] at lx
  walk_at "rd"
  refine k_lenL sq ?_
  rw [lx]
  walk_at "rd"
  refine k_ite (fun lt=>?_) (fun ge=>?_)
  ·walk_at "rd"
   refine k_lenL sq ?_
   rw [lx]
   walk_at "rd"
   refine k_ite (fun lt61=>?_) (fun ge61=>?_)
   ·have lt':pl < told.length:=by omega
    obtain ⟨h,hh⟩:∃h,told[pl]? = some h:=⟨_,List.getElem?_eq_getElem lt'⟩
    have hm:=List.mem_of_getElem? hh
    have hlen:h.1.length=c.length:=wlk_len _ _ _ (fd.wk h hm)
    have hrow:=fd.le h hm
    have er2:come (ts.map pr) c=runs (ts.map pr) (60 - pl) (round (ts.map pr) told h) (pl+1):=by
     rw [er,show 61 - pl=(60 - pl)+1 by omega]
     exact runs_next hh (by omega)
    have fd2:Fd (ts.map pr) c (pl+1) (round (ts.map pr) told h):=fd.step hm
    have rv6:=rv.same F.acc.same
    obtain ⟨p,v1,v2,rfl,hp,r1,r2⟩:=dV_at rv6
    obtain ⟨bt,xt,rfl,hbt,rxt⟩:=r2.tup_at
    have lxt:xt.length=ts.length:=by rw [rxt.length,List.length_map]
    walk_at "rd"
    refine k_ixT (SqT.of hp) (v:=.ref bt) rfl ?_
    walk_at "rd"
    refine k_lenT (SqT.of hbt) ?_
    rw [lxt]
    walk_at "rd"
    rw [show ((ts.length:Nat):Int).toNat=ts.length by omega]
    refine fat_range (fun i σ H8=>∃u5 u6:Option V,σ = [some (.ref p),some (.ref b),some (.ref l),some (.ref d),some (.int (pl:Int)),u5,u6]∧Fo K H H8 l d (adds told (stps (ts.map pr) h i))∧∀a ys,H6 a=some (.tup ys)→H8 a=some (.tup ys)) ⟨_,_,rfl,F,fun _ _ q=>q⟩ ?_ ?_
    ·rintro i σ H8 hi ⟨u5',u6',rfl,F8,tp⟩
     have et:ts[i]? = some ts[i]:=List.getElem?_eq_getElem hi
     obtain ⟨zt,hzt,rzt⟩:=rxt.get' (i:=i) (d:=dT ts[i]) (by rw [List.getElem?_map,et];rfl)
     have nt:=nn ts[i] (List.getElem_mem hi)
     have an:=adds_next (told:=told) (h:=h) (T:=ts.map pr) (k:=i) (t:=pr ts[i]) (by rw [List.getElem?_map,et];rfl)
     obtain ⟨r,ea,lr⟩:=adds_pre (stps (ts.map pr) h i) told
     have ll:=stps_len (T:=ts.map pr) (h:=h) (k:=i)
     have h8:(adds told (stps (ts.map pr) h i))[pl]? = some h:=by rw [ea,List.getElem?_append_left lt'];exact hh
     have l8':(adds told (stps (ts.map pr) h i)).length≤70:=by rw [ea,List.length_append];omega
     generalize adds told (stps (ts.map pr) h i)=told' at F8 an h8 l8'
     obtain ⟨xs8,sq8,lx8,rx8⟩:=F8.acc.sq
     obtain ⟨z,hz,rz⟩:=rx8.get' (i:=pl) (d:=dPr h) (by rw [List.getElem?_map,h8];rfl)
     obtain ⟨o,y0,rr,rfl,ho,ry0,hrr⟩:=pair_at rz
     have rzt8:Rz K H8 zt (dT ts[i]):=rzt.agr ⟨tp,fun _ _ q=>q.elim⟩
     generalize ts[i]=t at *
     walk_at "rd"
     refine k_ixT (SqT.of (tp _ _ hp)) (v:=.ref bt) rfl ?_
     walk_at "rd"
     refine k_ixT (SqT.of (tp _ _ hbt)) (v:=zt) (by rw [Int.zero_add];exact atI_nat hzt) ?_
     walk_at "rd"
     refine k_ixL sq8 (v:=.ref o) (atI_nat hz) ?_
     walk_at "rd"
     refine k_ixT (SqT.of ho) (v:=y0) rfl ?_
     walk_at "rd"
     refine ⟨zt,y0,t,h.1,rfl,rzt8,ry0,by rw [hlen];exact nt.1,by rw [hlen];exact nt.2,by rw [hlen];exact l100,fun cn q H9 S9 rq=>?_,fun cn H9 S9=>?_⟩
     ·rw [if_pos cn] at an
      have F9:=F8.on S9
      obtain ⟨bq,e0,hbq⟩:=dI_at rq
      cases e0
      walk_at "rd"
      obtain ⟨og,dg,eo⟩:=F9.has hbq
      refine ⟨_,rfl,?_⟩
      refine ⟨_,rfl,?_⟩
      refine ⟨d,og,rfl,dg,?_⟩
      rw [eo]
      by_cases mm:beh (pr t) h.1∈told'.map Prod.fst
      ·rw [decide_eq_true mm]
       walk_at "rd"
       refine ⟨_,_,rfl,?_,fun a ys w=>S9 _ _ (tp _ _ w)⟩
       rw [an]
       unfold Cm.add
       rw [if_pos mm]
       exact F9
      ·rw [decide_eq_false mm]
       obtain ⟨H10,dp,agd,F10⟩:=F9.put hbq (by omega)
       walk_at "rd"
       refine ⟨d,H10,rfl,dp,?_⟩
       walk_at "rd"
       refine ⟨F10.acc.ty,?_⟩
       obtain ⟨xs10,sq10,lx10,rx10⟩:=F10.acc.sq
       obtain ⟨z10,hz10,rz10⟩:=rx10.get' (i:=pl) (d:=dPr h) (by rw [List.getElem?_map,h8];rfl)
       obtain ⟨o10,y10,rr10,rfl,ho10,_,hrr10⟩:=pair_at rz10
       have rq10:Rz K H10 (.ref q) (dI (beh (pr t) h.1)):=rq.agr (agd _)
       have tp10:∀a ys,H6 a=some (.tup ys)→H10 a=some (.tup ys):=fun a ys w=>(agd fun _=>False).tup _ _ (S9 _ _ (tp _ _ w))
       walk_at "rd"
       refine k_ixL sq10 (v:=.ref o10) (atI_nat hz10) ?_
       walk_at "rd"
       refine k_ixT (SqT.of ho10) (v:=.ref rr10) rfl ?_
       walk_at "rd"
       refine ⟨by show 1≤sizeLine;decide,fun q1 nq1=>?_⟩
       have T1:=same_new nq1 (.lst [V.int (0+(i:Int))])
       walk_at "rd"
       refine ⟨rr10,q1,_,_,rfl,rfl,T1 _ _ hrr10,upd_same,by rw [List.length_map,List.length_map];show h.2.length+1≤sizeLine;rw [sizeLine_eq];omega,fun g ng=>?_⟩
       have T2:=same_new ng (.lst ((zs h.2).map V.int++[V.int (0+(i:Int))]))
       have hg:upd (upd H10 q1 (.lst [V.int (0+(i:Int))])) g (.lst ((zs h.2).map V.int++[V.int (0+(i:Int))])) g=some (.lst ((zs (h.2++[i])).map V.int)):=by rw [upd_same,show zs (h.2++[i])=zs h.2++[(i:Int)] from List.map_append ..,List.map_append,Int.zero_add];rfl
       have ng10:H10 g=none:=T1.free ng
       have T12:=T1.trans T2
       generalize upd (upd H10 q1 (.lst [V.int (0+(i:Int))])) g (.lst ((zs h.2).map V.int++[V.int (0+(i:Int))]))=H12 at T2 hg T12 ⊢
       walk_at "rd"
       refine ⟨by show 2≤sizeLine;decide,fun m10 nm10=>?_⟩
       have T3:=same_new nm10 (.tup [V.ref q,.ref g])
       have T13:=T12.trans T3
       have rm:Rp K (fun a=>H10 a=none) (upd H12 m10 (.tup [V.ref q,.ref g])) (.ref m10) (dPr (beh (pr t) h.1,h.2++[i])):=.tup upd_same (.cons ((rq10.same T13).mono fun _ w=>w.elim) (.cons (.lst ng10 (T3 _ _ hg) (RpL.ints _)) .nil))
       have nl10:H10 l≠none:=by
        obtain ⟨_,w,_⟩:=F10.acc.at_
        rw [w];intro e;cases e
       obtain ⟨ys,g1,g2,g3⟩:=(F10.on T13).push rm fun a w=>⟨F10.acc.same.free w,fun e=>nl10 (e ▸ w)⟩
       walk_at "rd"
       refine ⟨l,ys,_,rfl,rfl,g1,by rw [g2];exact small1000 (by omega),?_⟩
       walk_at "rd"
       refine ⟨_,_,rfl,?_,fun a ws' w=>?_⟩
       ·rw [an]
        unfold Cm.add
        rw [if_neg mm]
        exact g3
       ·exact (Agr.of_upd (S:=fun _=>False) g1 (fun f=>f)).tup _ _ (T13 _ _ (tp10 _ _ w))
     ·rw [if_neg (by rw [cn];intro z;cases z)] at an
      walk_at "rd"
      refine ⟨_,_,rfl,by rw [an];exact F8.on S9,fun a ys w=>S9 _ _ (tp _ _ w)⟩
    ·rintro σ H8 ⟨u5',u6',rfl,F8,tp⟩
     have er3:adds told (stps (ts.map pr) h ts.length)=round (ts.map pr) told h:=by
      unfold round
      rw [List.length_map]
     have l68':(round (ts.map pr) told h).length≤68:=by
      obtain ⟨r,e,lr⟩:=adds_pre (stps (ts.map pr) h ts.length) told
      have:=stps_len (T:=ts.map pr) (h:=h) (k:=ts.length)
      rw [← er3,e,List.length_append]
      omega
     have lge:told.length≤(round (ts.map pr) told h).length:=by
      obtain ⟨r,e,lr⟩:=adds_pre (stps (ts.map pr) h ts.length) told
      rw [← er3,e,List.length_append]
      omega
     rw [er3] at F8
     walk_at "rd"
     refine ⟨⟨pl+1,_,_,_,rfl,F8,by omega,l68',fd2,by rw [er2,show 61 - (pl+1)=60 - pl by omega]⟩,?_⟩
     show 61 - (((pl:Nat):Int)+1).toNat < 61 - ((pl:Nat):Int).toNat
     omega
   ·walk_at "rd"
    have ec:come (ts.map pr) c=told:=by rw [er];exact runs_end (.inr (by omega)) _
    rw [ec] at k
    exact k l H6 F.acc
  ·walk_at "rd"
   have ec:come (ts.map pr) c=told:=by rw [er];exact runs_end (.inl (by omega)) _
   rw [ec] at k
   exact k l H6 F.acc
 ·rintro σ H' R R' h ⟨w1,e1,w2,e2,p,ys,e3,e4,i,j,e5,e6,kk,e7,q⟩
  refine ⟨w1,e1,w2,e2,p,ys,e3,e4,i,j,e5,e6,kk,e7,?_⟩
  cases kk with
  | false=>exact h _ _ q
  | true =>
   obtain ⟨w1,e1,p,ys,e3,e4,i,j,e5,e6,kk,e7,q⟩:=q
   exact ⟨w1,e1,p,ys,e3,e4,i,j,e5,e6,kk,e7,h _ _ q⟩
end Cg
namespace Cg
open PySem L2 Fr G1 Sm Vs Dn Rk Wd Cm
open PySem.W (Dat kqdOk kqdP)
theorem wlk_cons{T:List Tp}{n:Nat}{r:List Nat}{c d:List Int}(e:wlk T (n :: r) c=some d):∃t,T[n]? = some t∧can t c=true∧wlk T r (beh t c)=some d:=by
 unfold Cm.wlk at e
 cases e1:T[n]? with
 | none=>rw [e1] at e;cases e
 | some t =>
  rw [e1] at e
  by_cases z:can t c=true
  ·simp only [if_pos z] at e;exact ⟨t,rfl,z,e⟩
  ·simp only [if_neg z] at e;cases e
def spWalks(K:PySem.W.Frag):Sp:=fun vs H Q _=>∃(v u:V) (g:Addr) (xs:List V) (ws:List Str) (ts:List Tn) (c:List Int) (L:List Pr),vs=[v,u,.ref g]∧Rz K H v (dV ws ts)∧Rz K H u (dI c)∧H g=some (.lst xs)∧RaL K H xs (L.map dPr)∧Nn c.length ts∧c.length≤100∧(∀p∈L,wlk (ts.map pr) p.2 c=some p.1∧p.2.length≤100)∧∀H',Same H H'→Q (.bl true) H'
theorem len_walks{K:PySem.W.Frag}{vs:List V}{H:Hp}{Q:VK}{E:XK}{x y z:Str}(h:spWalks K vs H Q E):vs.length=[x,y,z].length:=by
 obtain ⟨a,b,c,_,_,_,_,_,rfl,_⟩:=h
 rfl
theorem okS_dI(ns:List Int)(n:Nat)(l:ns.length≤1000):okS (n+1) (dI ns)=true:=okS_t (by rw [List.length_map];exact l) fun d hd=>by
 obtain ⟨i,_,rfl⟩:=List.mem_map.mp hd
 cases n <;> rfl
def t_walks(K:PySem.W.Frag):TS:=(tSeq (tFor (iList K (tVar 2)) (gTup K 2 (gCons (gName 3) (gCons (gName 4) gNil)))
 (tSeq (tIfS (tNot (tB (tCB (rIsi K) (tCons (tVar 4) (tCons (tC (.ty "list")) tNil)))))
 (tRet (tC (.bl false)))
 tNext)
 (tSeq (tAsg (tVar 1) (gName 5))
 (tSeq (tFor (iList K (tVar 4)) (gName 6)
 (tSeq (tIfS (tOr (tTest (tOp rIsN (tVar 5) (tC .non))) (tOr (tNot (tB (tCall spWhole [] E0 (tCons (tVar 6) tNil)))) (tOr (tTest (tOp rLt (tVar 6) (tC (.int 0)))) (tTest (tOp rGe (tVar 6) (tCB (rLenQ K) (tCons (tOp (rIxT K) (tVar 0) (tC (.int 1))) tNil)))))))
 (tRet (tC (.bl false)))
 tNext)
 (tAsg (tCall (spLStN K) [] E0 (tCons (tOp (rIxT K) (tOp (rIxT K) (tVar 0) (tC (.int 1))) (tVar 6)) (tCons (tVar 5) tNil))) (gName 5))))
 (tIfS (tOr (tTest (tOp rIsN (tVar 5) (tC .non))) (tNot (tB (tCall (spSame K 4) [] E0 (tCons (tVar 3) (tCons (tVar 5) tNil))))))
 (tRet (tC (.bl false)))
 tNext)))))
 (tRet (tC (.bl true))))
theorem rd_walks{K:PySem.W.Frag}{vs:List V}{H:Hp}{Q:VK}{E:XK}{N:List Str}(hN:N.length=7)(h:spWalks K vs H Q E):t_walks K (ends Q) (L2.start N vs) H:=by
 obtain ⟨v,u,g,xs,ws,ts,c,L,rfl,rv,ru,hg,rx,nn,l100,wk,k⟩:=h
 obtain ⟨p,v1,v2,rfl,hp,r1,r2⟩:=dV_at rv
 obtain ⟨b,ys,rfl,hb,ry⟩:=r2.tup_at
 have ly:ys.length=ts.length:=by rw [ry.length,List.length_map]
 rw [show L2.start N [.ref p,u,.ref g]=[some (.ref p),some u,some (.ref g),none,none,none,none] by unfold L2.start;rw [hN];rfl]
 unfold t_walks
 walk_at "rd"
 refine k_rlF (SqL.of hg) ?_
 refine fat_list (xs:=xs) (fun i σ H2=>∃u3 u4 u5 u6:Option V,σ = [some (.ref p),some u,some (.ref g),u3,u4,u5,u6]∧Same H H2) ⟨none,none,none,none,rfl,Same.refl _⟩ (fun i σ H2 _ ⟨_,_,_,_,_,S⟩=>SqL.of (S _ _ hg)) ?_ ?_
 ·rintro i z σ H2 hz ⟨u3,u4,u5,u6,rfl,S2⟩
  obtain ⟨dd,g1,g2⟩:=rx.get hz
  rw [List.getElem?_map] at g1
  obtain ⟨h,eh,rfl⟩:=Option.map_eq_some_iff.mp g1
  obtain ⟨w1,w2⟩:=wk h (List.mem_of_getElem? eh)
  have lh:h.1.length=c.length:=wlk_len _ _ _ w1
  obtain ⟨o,y0,rr,rfl,ho,ry0,hrr⟩:=pair_at g2
  refine k_gTup (SqT.of (S2 _ _ ho)) rfl ?_
  walk_at "rd"
  refine k_isi (.lst (S2 _ _ hrr)) kit_list_list ?_
  walk_at "rd"
  refine k_rlF (SqL.of (S2 _ _ hrr)) ?_
  refine fat_list (xs:=(zs h.2).map V.int) (fun j σ H3=>∃(w:V) (u6:Option V) (d:List Int),σ = [some (.ref p),some u,some (.ref g),some y0,some (.ref rr),some w,u6]∧Same H H3∧Rz K H3 w (dI d)∧d.length=c.length∧wlk (ts.map pr) (h.2.drop j) d=some h.1) ⟨u,_,c,rfl,S2,ru.same S2,rfl,by rw [List.drop_zero];exact w1⟩ (fun j σ H3 _ ⟨_,_,_,_,S,_⟩=>SqL.of (S _ _ hrr)) ?_ ?_
  ·rintro j z σ H3 hz ⟨w,u6',d,rfl,S3,rw_,ld,wd⟩
   rw [List.getElem?_map] at hz
   obtain ⟨z',hz',rfl⟩:=Option.map_eq_some_iff.mp hz
   rw [List.getElem?_map] at hz'
   obtain ⟨n,hn,rfl⟩:=Option.map_eq_some_iff.mp hz'
   have lj:=(List.getElem?_eq_some_iff.mp hn).1
   have ed:h.2.drop j=n :: h.2.drop (j+1):=by
    rw [List.drop_eq_getElem_cons lj,(List.getElem?_eq_some_iff.mp hn).2]
   rw [ed] at wd
   obtain ⟨t',et0,cn,wd'⟩:=wlk_cons wd
   rw [List.getElem?_map] at et0
   obtain ⟨t,et,rfl⟩:=Option.map_eq_some_iff.mp et0
   have ln:=(List.getElem?_eq_some_iff.mp et).1
   have nt:=nn t (List.mem_of_getElem? et)
   obtain ⟨zt,hzt,rzt⟩:=ry.get' (i:=n) (d:=dT t) (by rw [List.getElem?_map,et];rfl)
   obtain ⟨bw,rfl,hbw⟩:=dI_at rw_
   walk_at "rd"
   rw [decide_eq_false (fun z:V.ref bw=V.non=>by cases z)]
   walk_at "rd"
   refine ⟨(n:Int),rfl,?_⟩
   walk_at "rd"
   refine k_ite (fun lt=>absurd lt (by omega)) (fun _=>?_)
   walk_at "rd"
   refine k_ixT (SqT.of (S3 _ _ hp)) (v:=.ref b) rfl ?_
   walk_at "rd"
   refine k_lenT (SqT.of (S3 _ _ hb)) ?_
   rw [ly]
   walk_at "rd"
   refine k_ite (fun lt=>absurd lt (by omega)) (fun _=>?_)
   walk_at "rd"
   refine k_ixT (SqT.of (S3 _ _ hp)) (v:=.ref b) rfl ?_
   walk_at "rd"
   refine k_ixT (SqT.of (S3 _ _ hb)) (v:=zt) (atI_nat hzt) ?_
   walk_at "rd"
   refine ⟨zt,.ref bw,t,d,rfl,rzt.same S3,rw_,by omega,by omega,by omega,fun _ q H4 S4 rq=>?_,fun cf=>absurd (cf.symm.trans cn) (by decide)⟩
   walk_at "rd"
   exact ⟨.ref q,_,beh (pr t) d,rfl,S3.trans S4,rq,by unfold beh;rw [List.length_map,List.length_range];exact ld,wd'⟩
  ·rintro σ H3 ⟨w,u6',d,rfl,S3,rw_,ld,wd⟩
   rw [show ((zs h.2).map V.int).length=h.2.length by rw [List.length_map,List.length_map],List.drop_eq_nil_of_le (Nat.le_refl _)] at wd
   cases Option.some.inj (show some d=some h.1 from wd)
   obtain ⟨bw,rfl,hbw⟩:=dI_at rw_
   walk_at "rd"
   rw [decide_eq_false (fun z:V.ref bw=V.non=>by cases z)]
   walk_at "rd"
   refine ⟨y0,.ref bw,_,_,rfl,(ry0.same S3).a,rw_.a,okS_dI _ 3 (by omega),fun _=>?_,fun z=>absurd rfl z⟩
   walk_at "rd"
   exact ⟨_,_,_,_,rfl,S3⟩
 ·rintro σ H2 ⟨u3,u4,u5,u6,rfl,S2⟩
  walk_at "rd"
  exact k H2 S2
theorem good_I(c:List Int):L2.Good (dI c):=by
 have e:kqdP (dI c) = .tuple (c.map PyData.int):=by
  unfold dI
  rw [kqdP,Md.kP_ints]
 exact ⟨ok_dI c 7,by rw [e,hkP,Md.hk_ints],_,e⟩
theorem dI_inj{a b:List Int}(h:dI a=dI b):a=b:=by
 have e:a.map Dat.int=b.map Dat.int:=by injection h
 exact List.map_inj_right (fun x y z=>by injection z) |>.mp e
theorem nd_I:∀{cs:List (List Int)},cs.Nodup→(cs.map dI).Nodup
 | [],_=>List.nodup_nil
 | c :: cs,h=>by
  rw [List.nodup_cons] at h
  rw [List.map_cons,List.nodup_cons]
  refine ⟨fun z=>?_,nd_I h.2⟩
  obtain ⟨u,hu,e⟩:=List.mem_map.mp z
  exact h.1 (dI_inj e ▸ hu)
end Cg
namespace Bg
open Rk Sf Rw Bo Br
section
variable{R:List (List Int)}{n:Nat}
end
section
variable(R:List (List Int))(n:Nat)
end
section
variable{R:List (List Int)}{n k:Nat}{B:List (List Int)}{hs:List Nat}
end
end Bg
set_option Elab.async false
set_option linter.all false
set_option maxRecDepth 100000
set_option maxHeartbeats 4000000
namespace K33
open PySem L2 Fr G1 Sm Vs Dn Rk Wd Cm Cg
open PySem.W (Dat kqdOk)
open K33H
open Ex0 Kd in
structure Exs (K:PySem.W.Frag) (mg:Str→Option Value) (x:Ad):Prop where
 v:ExcV K mg "VesselError" x.V
 vb:ExcB K mg "VesselError" x.V
 mv:mg "ValueError" = none
 m0:mg "NoFraction" = some (.ref x.c0)
 m1:mg "NoStuffs" = some (.ref x.c1)
 m2:mg "NoHeap" = some (.ref x.c2)
 m3:mg "NoPace" = some (.ref x.c3)
 m4:mg "NoTurnings" = some (.ref x.c4)
 m5:mg "NoTurning" = some (.ref x.c5)
 m6:mg "NoText" = some (.ref x.c6)
 m7:mg "NotNow" = some (.ref x.c7)
 m8:mg "TooMany" = some (.ref x.c8)
 m9:mg "NoDrain" = some (.ref x.c9)
 m10:mg "NotEven" = some (.ref x.c10)
 m11:mg "NoStuff" = some (.ref x.c11)
 m12:mg "NoPieces" = some (.ref x.c12)
 m13:mg "NoDeed" = some (.ref x.c13)
 i8:∃f,ExcI K mg "TooMany" x.c8 f
 h8:ExcS K x.c8
 f8:ExcF K x.c8 "counts"
 s8:SubC K x.c8 x.V
 a8:ExcA K x.c8
 k8_0:KitE K x.c8 (.ref x.c0) false
 k8_1:KitE K x.c8 (.ref x.c1) false
 k8_2:KitE K x.c8 (.ref x.c2) false
 k8_3:KitE K x.c8 (.ref x.c3) false
 k8_4:KitE K x.c8 (.ref x.c4) false
 k8_5:KitE K x.c8 (.ref x.c5) false
 k8_6:KitE K x.c8 (.ref x.c6) false
 k8_7:KitE K x.c8 (.ref x.c7) false
 k8_8:KitE K x.c8 (.ref x.c8) true
 k8_9:KitE K x.c8 (.ref x.c9) false
 k8_10:KitE K x.c8 (.ref x.c10) false
 k8_11:KitE K x.c8 (.ref x.c11) false
 k8_12:KitE K x.c8 (.ref x.c12) false
 k8_13:KitE K x.c8 (.ref x.c13) false
 kv8:KitE K x.c8 (.ty "ValueError") true
def RK (x:Ex0.Ad) (C:Addr) (nm:Str):Prop:=(C=x.c8∧nm = "TooMany")
def spKinds(x:Ex0.Ad):Sp:=fun vs H Q _=>∃(e C:Addr) (nm:Str),vs=[.ref e]∧ExH H e C∧RK x C nm∧∀(p:Addr) (H':Hp),Same H H'→H' p=some (.lst [.str nm])→Q (.ref p) H'
theorem len_kinds{x:Ex0.Ad}{vs:List V}{H:Hp}{Q:VK}{E:XK}{y:Str}(h:spKinds x vs H Q E):vs.length=[y].length:=by
 obtain ⟨a,b,c,rfl,_⟩:=h
 rfl
open Ex0 Kd in
theorem rd_kinds8 {K:PySem.W.Frag} {mg:Str→Option Value} {x:Ad} (T:Exs K mg x) {e:Addr} {H:Hp} {D:Ends} (he:ExH H e x.c8) (k:∀(p:Addr) (H':Hp),Same H H'→H' p=some (.lst [.str "TooMany"])→D.rt (.ref p) H'):tKinds K x D [some (.ref e),none] H:=by
 refine ⟨(by show 0≤sizeLine;decide),fun l nl=>?_⟩
 obtain ⟨d,he⟩:=he
 have ne:e≠l:=ne_of_none he nl
 have h1:ExH (upd H l (.lst [])) e x.c8:=⟨d,by rw [upd_ne ne];exact he⟩
 have hl0:upd H l (.lst []) l=some (.lst []):=upd_same
 have S0:Same H (upd H l (.lst [])):=same_new nl _
 have h2:ExH (upd (upd H l (.lst [])) l (.lst [.str "TooMany"])) e x.c8:=⟨d,by rw [upd_ne ne,upd_ne ne];exact he⟩
 generalize hH1:upd H l (.lst [])=H1 at h1 hl0 S0 h2 ⊢
 refine rd_no h1 T.a8 T.k8_0 ?_
 refine rd_no h1 T.a8 T.k8_1 ?_
 refine rd_no h1 T.a8 T.k8_2 ?_
 refine rd_no h1 T.a8 T.k8_3 ?_
 refine rd_no h1 T.a8 T.k8_4 ?_
 refine rd_no h1 T.a8 T.k8_5 ?_
 refine rd_no h1 T.a8 T.k8_6 ?_
 refine rd_no h1 T.a8 T.k8_7 ?_
 refine rd_yes h1 T.a8 T.k8_8 hl0 ?_
 have hl:upd H1 l (.lst [.str "TooMany"]) l=some (.lst [.str "TooMany"]):=upd_same
 have S:Same H (upd H1 l (.lst [.str "TooMany"])):=fun b o q=>by
  rw [upd_ne (ne_of_none q nl)]
  exact S0 _ _ q
 generalize upd H1 l (.lst [.str "TooMany"])=H2 at h2 hl S ⊢
 refine rd_no h2 T.a8 T.k8_9 ?_
 refine rd_no h2 T.a8 T.k8_10 ?_
 refine rd_no h2 T.a8 T.k8_11 ?_
 refine rd_no h2 T.a8 T.k8_12 ?_
 refine rd_no h2 T.a8 T.k8_13 ?_
 refine ⟨_,rfl,e,x.c8,_,true,rfl,h2,T.a8,T.kv8,_,rfl,iteF ?_⟩
 exact ⟨_,rfl,k l H2 S hl⟩
theorem rd_kinds{K:PySem.W.Frag}{mg:Str→Option Value}{x:Ex0.Ad}(T:Exs K mg x){vs:List V}{H:Hp}{Q:VK}{E:XK}{N:List Str}(hN:N.length=2)(h:spKinds x vs H Q E):Ex0.tKinds K x (G1.ends Q) (L2.start N vs) H:=by
 obtain ⟨e,C,nm,rfl,he,rk,k⟩:=h
 rw [show L2.start N [.ref e]=[some (.ref e),none] by unfold L2.start;rw [hN];rfl]
 obtain ⟨rfl,rfl⟩:=rk
 exact rd_kinds8 T he k
structure Cn (K:PySem.W.Frag) (mg:Str→Option Value):Prop where
 MOST_COUNTS:∃t,mg "MOST_COUNTS" = some (.int 60 t)
theorem p40:(10:Int) ^ (40:Int).toNat=10000000000000000000000000000000000000000:=by decide +kernel
def ToP(K:PySem.W.Frag)(x:Ex0.Ad)(H H':Hp)(v1 v2:V)(L:List Pr):Prop :=
 (L.length≤60→v2 = .non∧∃l,v1 = .ref l∧Acc K H l H' (L.map dPr)) ∧
 (60 < L.length→v1 = .non∧∃e dx g,v2 = .ref e∧H' e=some (excD e x.c8 dx)∧H' dx=some (.xd [("counts",.ref g)])∧H g=none∧Rp K (fun a=>H a=none) H' (.ref g) (.list ((L.take 61).map dPr)))
def spTold(K:PySem.W.Frag)(x:Ex0.Ad):Sp:=fun vs H Q _=>∃(v u:V) (ws:List Str) (ts:List Tn) (c:List Int),vs=[v,u]∧Rz K H v (dV ws ts)∧Rz K H u (dI c)∧Nn c.length ts∧c.length≤100∧ts.length≤8 ∧
 ∀(p:Addr) (H':Hp) (v1 v2:V),Same H H'→H' p=some (.tup [v1,v2])→ToP K x H H' v1 v2 (come (ts.map pr) c)→Q (.ref p) H'
theorem len_told{K:PySem.W.Frag}{x:Ex0.Ad}{vs:List V}{H:Hp}{Q:VK}{E:XK}{a b:Str}(h:spTold K x vs H Q E):vs.length=[a,b].length:=by
 obtain ⟨a,b,c,d,e,rfl,_⟩:=h
 rfl
def t_told(K:PySem.W.Frag)(x:Ex0.Ad):TS:=(tSeq (tAsg (tC .non) (gName 2))
 (tSeq (tAsg (tC .non) (gName 3))
 (tSeq (tTryA K (spComings K x.c8) x.V 3 4 2 (tCons (tVar 0) (tCons (tVar 1) tNil)))
 (tRet (tTup (tCons (tVar 3) (tCons (tVar 2) tNil)))))))
theorem rd_told{K:PySem.W.Frag}{mg:Str→Option Value}{x:Ex0.Ad}(T:Exs K mg x){vs:List V}{H:Hp}{Q:VK}{E:XK}{N:List Str}(hN:N.length=5)(h:spTold K x vs H Q E):t_told K x (ends Q) (L2.start N vs) H:=by
 obtain ⟨v,u,ws,ts,c,rfl,rv,ru,nn,l100,l8,k⟩:=h
 rw [show L2.start N [v,u]=[some v,some u,none,none,none] by unfold L2.start;rw [hN];rfl]
 unfold t_told
 walk_at "rd"
 refine ⟨_,rfl,_,rfl,v,u,ws,ts,c,rfl,rv,ru,nn,l100,l8,T.h8,T.f8,?_,?_⟩
 ·intro le l H' A
  walk_at "rd"
  refine ⟨by show 2≤sizeLine;decide,fun q nq=>?_⟩
  have Sq:=same_new nq (.tup [V.ref l,.non])
  exact k q _ (.ref l) .non (A.same.trans Sq) upd_same ⟨fun _=>⟨rfl,l,rfl,A.on Sq⟩,fun z=>absurd z (by omega)⟩
 ·intro big g dx H' S' ng rg hd
  refine ⟨x.c8,rfl,T.s8,fun ex nx=>?_⟩
  have Sx:=same_new nx (excD ex x.c8 dx)
  walk_at "rd"
  refine ⟨by show 2≤sizeLine;decide,fun q nq=>?_⟩
  have Sq:=same_new nq (.tup [V.non,.ref ex])
  exact k q _ .non (.ref ex) (S'.trans (Sx.trans Sq)) upd_same ⟨fun z=>absurd z (by omega),fun _=>⟨rfl,ex,dx,g,rfl,Sq _ _ upd_same,Sq _ _ (Sx _ _ hd),ng,rg.same (Sx.trans Sq)⟩⟩
def spRefW (K:PySem.W.Frag) (x:Ex0.Ad):Sp:=fun vs H Q _=>∃(v u:V) (e dx g:Addr) (xs:List V) (ws:List Str) (ts:List Tn) (c:List Int) (L:List Pr),vs=[v,u,.ref e]∧Rz K H v (dV ws ts)∧Rz K H u (dI c)∧H e=some (excD e x.c8 dx)∧H dx=some (.xd [("counts",.ref g)])∧H g=some (.lst xs)∧RaL K H xs (L.map dPr)∧Nn c.length ts∧c.length≤100∧L.length=61∧L[0]? = some (c,[])∧(L.map Prod.fst).Nodup∧(∀p∈L,wlk (ts.map pr) p.2 c=some p.1∧p.2.length≤100)∧∀H',Same H H'→Q (.bl true) H'
theorem len_refw{K:PySem.W.Frag}{x:Ex0.Ad}{vs:List V}{H:Hp}{Q:VK}{E:XK}{a b c:Str}(h:spRefW K x vs H Q E):vs.length=[a,b,c].length:=by
 obtain ⟨a,b,c,_,_,_,_,_,_,_,rfl,_⟩:=h
 rfl
theorem okS_dPr{p:Pr}(n:Nat)(h1:p.1.length≤1000)(h2:p.2.length≤1000):okS (n+2) (dPr p)=true:=by
 refine okS_t (show 2≤1000 by decide) fun d hd=>?_
 rcases List.mem_cons.mp hd with rfl | hd
 ·exact okS_dI _ n h1
 ·cases List.mem_singleton.mp hd
  refine okS_l (by rw [List.length_map,List.length_map];exact h2) fun d hd=>?_
  obtain ⟨i,_,rfl⟩:=List.mem_map.mp hd
  cases n <;> rfl
def t_refw (K:PySem.W.Frag) (x:Ex0.Ad):TS:=(tSeq (tIfS (tOr (tTest (tOp rIsN (tVar 2) (tC .non))) (tOr (tTest (tOp (rNeD K) (tCall (spKinds x) [] E0 (tCons (tVar 2) tNil)) (tLst (tCons (tC (.str "TooMany")) tNil)))) (tNot (tB (tCB (rIsi K) (tCons (tFldX K (tVar 2) "counts") (tCons (tC (.ty "list")) tNil)))))))
 (tRet (tC (.bl false)))
 tNext)
 (tSeq (tAsg (tFldX K (tVar 2) "counts") (gName 3))
 (tSeq (tIfS (tOr (tTest (tOp rNe (tCB (rLenQ K) (tCons (tVar 3) tNil)) (tC (.int 61)))) (tNot (tB (tCall (spSame K 4) [] E0 (tCons (tOp (rIxL K) (tVar 3) (tC (.int 0))) (tCons (tTup (tCons (tVar 1) (tCons (tLst tNil) tNil))) tNil))))))
 (tRet (tC (.bl false)))
 tNext)
 (tSeq (tFor (iList K (tVar 3)) (gName 4)
 (tIfS (tOr (tNot (tB (tCB (rIsi K) (tCons (tVar 4) (tCons (tC (.ty "tuple")) tNil))))) (tTest (tOp rNe (tCB (rLenQ K) (tCons (tVar 4) tNil)) (tC (.int 2)))))
 (tRet (tC (.bl false)))
 tNext))
 (tRet (tAndV (tCall (spWalks K) [] E0 (tCons (tVar 0) (tCons (tVar 1) (tCons (tVar 3) tNil)))) (tOp rEq (tLenSet (rSetE K) (tComp (iList K (tVar 3)) (tOp (rIxT K) (tVar 0) (tC (.int 0))))) (tC (.int 61)))))))))
theorem rd_refw{K:PySem.W.Frag}{mg:Str→Option Value}{x:Ex0.Ad}(T:Exs K mg x){vs:List V}{H:Hp}{Q:VK}{E:XK}{N:List Str}(hN:N.length=5)(h:spRefW K x vs H Q E):t_refw K x (ends Q) (L2.start N vs) H:=by
 obtain ⟨v,u,e,dx,g,xs,ws,ts,c,L,rfl,rv,ru,he,hd,hg,rx,nn,l100,l61,hd0,nd,wk,k⟩:=h
 rw [show L2.start N [v,u,.ref e]=[some v,some u,some (.ref e),none,none] by unfold L2.start;rw [hN];rfl]
 have lx:xs.length=61:=by rw [rx.length,List.length_map,l61]
 unfold t_refw
 walk_at "rd"
 rw [decide_eq_false (fun z:V.ref e=V.non=>by cases z)]
 walk_at "rd"
 refine ⟨e,x.c8,"TooMany",rfl,.ofD he,⟨rfl,rfl⟩,fun pk H2 S2 hk=>?_⟩
 walk_at "rd"
 refine ⟨by show 1≤sizeLine;decide,fun q2 nq2=>?_⟩
 have S3:=same_new nq2 (.lst [.str "TooMany"])
 have ok:kqdOk 8 (.list [.str "TooMany"])=true:=by decide +kernel
 refine k_neD (d:=.list [.str "TooMany"]) (e:=.list [.str "TooMany"]) (.lst (SqL.of (S3 _ _ hk)) (.cons (.str _) .nil)) (.lst (SqL.of upd_same) (.cons (.str _) .nil)) ok ok (fun z=>absurd rfl z) (fun _=>?_)
 have S03:=S2.trans S3
 generalize upd H2 q2 (.lst [.str "TooMany"])=H3 at S3 S03 ⊢
 walk_at "rd"
 refine ⟨_,rfl,e,x.c8,dx,_,_,rfl,S03 _ _ he,S03 _ _ hd,T.a8,T.f8,rfl,?_⟩
 walk_at "rd"
 refine k_isi (.lst (S03 _ _ hg)) kit_list_list ?_
 walk_at "rd"
 refine ⟨_,rfl,e,x.c8,dx,_,_,rfl,S03 _ _ he,S03 _ _ hd,T.a8,T.f8,rfl,?_⟩
 walk_at "rd"
 refine k_lenL (SqL.of (S03 _ _ hg)) ?_
 rw [lx]
 walk_at "rd"
 rw [show (!decide (((61:Nat):Int)=61))=false by decide]
 walk_at "rd"
 obtain ⟨z0,hz0,rz0⟩:=rx.get' (i:=0) (d:=dPr (c,[])) (by rw [List.getElem?_map,hd0];rfl)
 refine k_ixL (SqL.of (S03 _ _ hg)) (i:=0) (v:=z0) (atI_nat (j:=0) hz0) ?_
 walk_at "rd"
 refine ⟨by decide,fun r0 n0=>?_⟩
 have S4:=same_new n0 (.lst [])
 walk_at "rd"
 refine ⟨by show 2≤sizeLine;decide,fun m nm=>?_⟩
 have S5:=same_new nm (.tup [u,.ref r0])
 have S45:=S4.trans S5
 have S05:=S03.trans S45
 have rm:Ra K (upd (upd H3 r0 (.lst [])) m (.tup [u,.ref r0])) (.ref m) (dPr (c,[])):=.tup upd_same (.cons ((ru.same S05).mono fun _ z=>z.elim) (.cons (.lst trivial (S5 _ _ upd_same) .nil) .nil))
 generalize upd (upd H3 r0 (.lst [])) m (.tup [u,.ref r0])=H5 at rm S05 ⊢
 walk_at "rd"
 refine ⟨z0,.ref m,_,_,rfl,(rz0.same S05).a,rm,okS_dPr 2 (by show c.length≤1000;omega) (by show 0≤1000;decide),fun _=>?_,fun z=>absurd rfl z⟩
 walk_at "rd"
 refine k_rlF (SqL.of (S05 _ _ hg)) ?_
 refine fat_list (xs:=xs) (fun i σ H6=>∃u4:Option V,σ = [some v,some u,some (.ref e),some (.ref g),u4]∧Same H H6) ⟨_,rfl,S05⟩ (fun i σ H6 _ ⟨_,_,S⟩=>SqL.of (S _ _ hg)) ?_ ?_
 ·rintro i z σ H6 hz ⟨u4,rfl,S6⟩
  obtain ⟨dd,g1,g2⟩:=rx.get hz
  rw [List.getElem?_map] at g1
  obtain ⟨h,eh,rfl⟩:=Option.map_eq_some_iff.mp g1
  obtain ⟨o,y0,rr,rfl,ho,_,_⟩:=pair_at g2
  walk_at "rd"
  refine k_isi (.tup (S6 _ _ ho)) kit_tuple_tuple ?_
  walk_at "rd"
  refine k_lenT (SqT.of (S6 _ _ ho)) ?_
  walk_at "rd"
  exact ⟨_,rfl,S6⟩
 ·rintro σ H6 ⟨u4,rfl,S6⟩
  walk_at "rd"
  refine ⟨v,u,g,xs,ws,ts,c,L,rfl,rv.same S6,ru.same S6,S6 _ _ hg,rx.same S6,nn,l100,wk,fun H7 S7=>?_⟩
  have S07:=S6.trans S7
  walk_at "rd"
  refine Md.k_lenset ?_
  walk_at "rd"
  refine k_rlC (SqL.of (S07 _ _ hg)) ?_
  refine comp_list (xs:=xs) fun D nD=>⟨fun j H8=>AccZ K H7 D H8 (((L.map Prod.fst).take j).map dI),AccZ.start (Same.refl _) nD,fun i H8 _ B=>SqL.of ((S07.trans B.same) _ _ hg),?_,?_⟩
  ·intro i z H8 hz B
   have S08:=S07.trans B.same
   obtain ⟨dd,g1,g2⟩:=rx.get hz
   rw [List.getElem?_map] at g1
   obtain ⟨h,eh,rfl⟩:=Option.map_eq_some_iff.mp g1
   have li:i < L.length:=(List.getElem?_eq_some_iff.mp eh).1
   obtain ⟨o,y0,rr,rfl,ho,ry,_⟩:=pair_at g2
   walk_at "rd"
   refine k_ixT (SqT.of (S08 _ _ ho)) (v:=y0) rfl ?_
   refine pushed (by omega) (B.pushK (ry.same S08) (small1000 ?_) fun H9 B9=>?_)
   ·rw [List.length_map,List.length_take,List.length_map]
    omega
   ·show AccZ K H7 D H9 (((L.map Prod.fst).take (i+1)).map dI)
    rw [List.take_add_one,List.getElem?_map,eh,List.map_append]
    exact B9
  ·intro H8 B
   rw [lx,List.take_of_length_le (by rw [List.length_map];omega)] at B
   obtain ⟨ys,hD,ry⟩:=B.at_
   refine ⟨.L,D,ys,(L.map Prod.fst).map dI,rfl,SqL.of hD,ry.rep,?_,by rw [List.length_map,List.length_map];omega,?_⟩
   ·intro d hd
    obtain ⟨t,_,rfl⟩:=List.mem_map.mp hd
    exact good_I t
   have hc:cnt ((L.map Prod.fst).map dI)=61:=by rw [(cnt_nodup _).mpr (nd_I nd),List.length_map,List.length_map,l61]
   rw [hc]
   refine ⟨by decide,?_⟩
   walk_at "rd"
   exact k H8 (S07.trans B.same)
def spRight(K:PySem.W.Frag):Sp:=fun vs H Q _=>∃(v u:V) (ws:List Str) (ts:List Tn) (c:List Int),vs=[v,u]∧Rz K H v (dV ws ts)∧Rz K H u (dI c)∧Nn c.length ts∧c.length≤100∧ts.length≤8∧∀H',Same H H'→Q (.bl true) H'
theorem len_right{K:PySem.W.Frag}{vs:List V}{H:Hp}{Q:VK}{E:XK}{a b:Str}(h:spRight K vs H Q E):vs.length=[a,b].length:=by
 obtain ⟨a,b,c,d,e,rfl,_⟩:=h
 rfl
theorem same_put{H H':Hp}{a:Addr}{o:HO}(S:Same H H')(n:H a=none):Same H (upd H' a o):=fun b u q=>by rw [upd_ne (ne_of_none q n)];exact S b u q
def t_right(K:PySem.W.Frag)(x:Ex0.Ad):TS:=(tSeq (tAsg (tCall (spDue K) [] E0 (tCons (tVar 0) (tCons (tVar 1) tNil))) (gName 2))
 (tSeq (tAsg (tCall (spTold K x) [] E0 (tCons (tVar 0) (tCons (tVar 1) tNil))) (gTup K 2 (gCons (gName 3) (gCons (gName 4) gNil))))
 (tSeq (tIfS (tTest (tOp rGt (tCB (rLenQ K) (tCons (tVar 2) tNil)) (tC (.int 60))))
 (tSeq (tIfS (tNot (tB (tCall (spRefW K x) [] E0 (tCons (tVar 0) (tCons (tVar 1) (tCons (tVar 4) tNil))))))
 (tRet (tC (.bl false)))
 tNext)
 (tSeq (tDrop (tBM0 K "list" rClear (tFldX K (tVar 4) "counts")))
 (tRet (tC (.bl true)))))
 tNext)
 (tSeq (tIfS (tOr (tTest (tOp rNotN (tVar 4) (tC .non))) (tNot (tB (tCall (spSame K 4) [] E0 (tCons (tVar 3) (tCons (tVar 2) tNil))))))
 (tRet (tC (.bl false)))
 tNext)
 (tSeq (tFor (iList K (tVar 3)) (gTup K 2 (gCons (gName 5) (gCons (gName 6) gNil)))
 (tDrop (tBM K "list" rAppend (tVar 6) (tCons (tC (.int 0)) tNil))))
 (tSeq (tDrop (tBM0 K "list" rClear (tVar 3)))
 (tRet (tC (.bl true)))))))))
theorem rd_right{K:PySem.W.Frag}{mg:Str→Option Value}{x:Ex0.Ad}(T:Exs K mg x){vs:List V}{H:Hp}{Q:VK}{E:XK}{N:List Str}(hN:N.length=7)(h:spRight K vs H Q E):t_right K x (ends Q) (L2.start N vs) H:=by
 obtain ⟨v,u,ws,ts,c,rfl,rv,ru,nn,l100,l8,k⟩:=h
 rw [show L2.start N [v,u]=[some v,some u,none,none,none,none,none] by unfold L2.start;rw [hN];rfl]
 have fd:=come_fd (ts.map pr) c
 have l68:(come (ts.map pr) c).length≤68:=runs_len (by rw [List.length_map];exact l8) _ _ _ (show 1≤68 by decide)
 unfold t_right
 walk_at "rd"
 refine ⟨v,u,ws,ts,c,rfl,rv,ru,nn,l100,l8,fun ld H1 A1=>?_⟩
 have S1:=A1.same
 walk_at "rd"
 refine ⟨v,u,ws,ts,c,rfl,rv.same S1,ru.same S1,nn,l100,l8,fun q H2 v1 v2 S2 hq tp=>?_⟩
 have S02:=S1.trans S2
 generalize come (ts.map pr) c=L at fd l68 A1 tp
 have A2:=A1.on S2
 obtain ⟨xd,sqd,lxd,rxd⟩:=A2.sq
 rw [List.length_map] at lxd
 walk_at "rd"
 refine k_gTup (SqT.of hq) rfl ?_
 walk_at "rd"
 refine k_lenL sqd ?_
 rw [lxd]
 walk_at "rd"
 refine k_ite (fun big=>?_) (fun small=>?_)
 ·obtain ⟨rfl,e,dx,g,rfl,he,hd,ng,rg⟩:=tp.2 (by omega)
  obtain ⟨g',xs,eg,_,hg,rx⟩:=rg.lst_at
  cases eg
  walk_at "rd"
  refine ⟨v,u,e,dx,g,xs,ws,ts,c,L.take 61,rfl,rv.same S02,ru.same S02,he,hd,hg,rx.mono fun _ _=>trivial,nn,l100,by rw [List.length_take];omega,by rw [List.getElem?_take_of_lt (by decide)];exact fd.hd,?_,fun p hp=>⟨fd.wk p (List.mem_of_mem_take hp),Nat.le_trans (fd.le p (List.mem_of_mem_take hp)) (by decide)⟩,fun H3 S3=>?_⟩
  ·rw [List.map_take]
   exact fd.nd.sublist (List.take_sublist _ _)
  ·walk_at "rd"
   refine ⟨_,rfl,e,x.c8,dx,_,_,rfl,S3 _ _ he,S3 _ _ hd,T.a8,T.f8,rfl,?_⟩
   refine ⟨.inl ⟨rfl,_,SqL.of (S3 _ _ hg)⟩,?_⟩
   refine k_clear (S3 _ _ hg) ?_
   walk_at "rd"
   exact k _ (same_put (S02.trans S3) (S1.free ng))
 ·obtain ⟨rfl,l,rfl,A3⟩:=tp.1 (by omega)
  obtain ⟨xs,hl,rx⟩:=A3.at_
  have lx:xs.length=L.length:=by rw [rx.length,List.length_map]
  walk_at "rd"
  have okl:okS 4 (.list (L.map dPr))=true:=okS_l (by rw [List.length_map];omega) fun d hd=>by
   obtain ⟨p,hp,rfl⟩:=List.mem_map.mp hd
   have:=wlk_len _ _ _ (fd.wk p hp)
   have:=fd.le p hp
   exact okS_dPr 1 (by omega) (by omega)
  refine ⟨_,rfl,?_⟩
  refine ⟨_,rfl,?_⟩
  refine ⟨.ref l,.ref ld,.list (L.map dPr),.list (L.map dPr),rfl,.lst trivial hl (rx.mono fun _ _=>trivial),?_,okl,fun _=>?_,fun z=>absurd rfl z⟩
  ·obtain ⟨ys,h1,h2⟩:=A2.at_
   exact .lst trivial h1 (h2.mono fun _ _=>trivial)
  walk_at "rd"
  refine k_rlF (SqL.of hl) ?_
  refine fat_list (xs:=xs) (fun i σ H6=>∃u5 u6:Option V,σ = [some v,some u,some (.ref ld),some (.ref l),some .non,u5,u6]∧Same H H6∧H6 l=some (.lst xs)∧∀(j:Nat) (z:V),xs[j]? = some z→∃(o:Addr) (y:V) (rr:Addr) (ys:List V),z=V.ref o∧H6 o=some (.tup [y,.ref rr])∧H rr=none∧rr≠l∧H6 rr=some (.lst ys)∧ys.length≤100+i) ⟨_,_,rfl,S02,hl,?_⟩ (fun i σ H6 _ ⟨_,_,_,_,q,_⟩=>SqL.of q) ?_ ?_
  ·intro j z hz
   obtain ⟨dd,g1,g2⟩:=rx.get hz
   rw [List.getElem?_map] at g1
   obtain ⟨h,eh,rfl⟩:=Option.map_eq_some_iff.mp g1
   obtain ⟨o,ys,rfl,ho,ry⟩:=(show Rp K _ H2 z (.tuple [dI h.1,.list ((zs h.2).map Dat.int)]) from g2).tup_at
   match ys,ry with
   | [y0,_],.cons _ (.cons q1 .nil) =>
    obtain ⟨rr,xs1,rfl,nr,h1,r1⟩:=q1.lst_at
    cases RpL.ints_of r1
    refine ⟨o,y0,rr,_,rfl,ho,S1.free nr.1,nr.2,h1,?_⟩
    have:=fd.le h (List.mem_of_getElem? eh)
    rw [List.length_map,List.length_map]
    omega
  ·rintro i z σ H6 hz ⟨u5,u6,rfl,S6,hl6,all⟩
   have li:i < xs.length:=(List.getElem?_eq_some_iff.mp hz).1
   obtain ⟨o,y,rr,ys,rfl,ho,nr,ne,hr,ly⟩:=all i z hz
   refine k_gTup (SqT.of ho) rfl ?_
   walk_at "rd"
   refine ⟨.inl ⟨rfl,_,SqL.of hr⟩,?_⟩
   walk_at "rd"
   refine ⟨rr,ys,_,rfl,rfl,hr,small1000 (by omega),?_⟩
   walk_at "rd"
   refine ⟨_,_,rfl,same_put S6 nr,by rw [upd_ne (Ne.symm ne)];exact hl6,fun j z' hz'=>?_⟩
   obtain ⟨o',y',rr',ys',rfl,ho',nr',ne',hr',ly'⟩:=all j z' hz'
   have no:o'≠rr:=ne_of ho' hr (by intro z;cases z)
   by_cases er:rr'=rr
   ·subst er
    exact ⟨o',y',rr',_,rfl,by rw [upd_ne no];exact ho',nr',ne',upd_same,by rw [List.length_append];show ys.length+1≤_;omega⟩
   ·exact ⟨o',y',rr',ys',rfl,by rw [upd_ne no];exact ho',nr',ne',by rw [upd_ne er];exact hr',by omega⟩
  ·rintro σ H6 ⟨u5,u6,rfl,S6,hl6,all⟩
   walk_at "rd"
   refine ⟨.inl ⟨rfl,_,SqL.of hl6⟩,?_⟩
   walk_at "rd"
   refine k_clear hl6 ?_
   walk_at "rd"
   exact k _ (same_put S6 (S1.free A3.new))
def t_law(K:PySem.W.Frag):TS:=(tSeq (tAsg (tCall (spVessel K) [] E0 (tCons (tVar 0) tNil)) (gName 1))
 (tSeq (tAsg (tCall (spMixed K) [] E0 (tCons (tCall (spCell K) [] E0 (tCons (tVar 0) (tCons (tC (.int 21)) tNil))) (tCons (tC (.int 7)) tNil))) (gName 2))
 (tSeq (tAsg (tOp (rIxL K) (tLst (tCons (tC (.int 1)) (tCons (tC (.int 3)) (tCons (tC (.int 9)) (tCons (tC (.int 3)) tNil))))) (tOp rMod (tOp (rIxL K) (tVar 2) (tC (.int 5))) (tC (.int 4)))) (gName 3))
 (tSeq (tAsg (tComp (iRng1 (tCons (tCB (rLenQ K) (tCons (tOp (rIxT K) (tVar 1) (tC (.int 0))) tNil)) tNil)) (tOp rMod (tOp (rIxL K) (tVar 3) (tVar 0)) (tOp qAdd (tVar 4) (tC (.int 1))))) (gName 4))
 (tSeq (tAsg (tCB (rTupOf K) (tCons (tComp (iRng1 (tCons (tCB (rLenQ K) (tCons (tOp (rIxT K) (tVar 1) (tC (.int 0))) tNil)) tNil)) (tOp rMod (tOp rDiv (tOp (rIxL K) (tVar 3) (tVar 0)) (tC (.int 10))) (tOp qAdd (tVar 4) (tC (.int 1))))) tNil)) (gName 5))
 (tSeq (tIfS (tTest (tOp rEq (tOp rMod (tCall (spCell K) [] E0 (tCons (tVar 0) (tCons (tC (.int 22)) tNil))) (tC (.int 4))) (tC (.int 1))))
 (tAsg (tOp rMod (tCall (spCell K) [] E0 (tCons (tVar 0) (tCons (tC (.int 23)) tNil))) (tOp rPow (tC (.int 10)) (tC (.int 40)))) (gSub (tVar 4) (tOp rMod (tOp (rIxL K) (tVar 2) (tC (.int 6))) (tCB (rLenQ K) (tCons (tVar 4) tNil))) rSetL))
 tNext)
 (tSeq (tIfS (tTest (tOp rEq (tOp rMod (tCall (spCell K) [] E0 (tCons (tVar 0) (tCons (tC (.int 22)) tNil))) (tC (.int 8))) (tC (.int 6))))
 (tSeq (tAsg (tOp qAdd (tC (.int 1)) (tOp rMod (tOp (rIxL K) (tVar 2) (tC (.int 0))) (tC (.int 3)))) (gName 6))
 (tSeq (tAsg (tTup (tCons (tTup (tCons (tC (.str "a")) (tCons (tC (.str "b")) tNil))) (tCons (tTup (tCons (tTup (tCons (tTup (tCons (tVar 6) (tCons (tC (.int 0)) tNil))) (tCons (tTup (tCons (tC (.int 0)) (tCons (tOp rMod (tOp (rIxL K) (tVar 2) (tC (.int 1))) (tC (.int 3))) tNil))) (tCons (tTup (tCons (tC (.int 1)) (tCons (tC (.int 1)) tNil))) tNil)))) tNil)) tNil))) (gName 1))
 (tSeq (tAsg (tLst (tCons (tOp qAdd (tOp (rI CMul fun i j=>.int (i*j)) (tVar 6) (tOp qAdd (tC (.int 56)) (tOp rMod (tOp (rIxL K) (tVar 2) (tC (.int 2))) (tC (.int 8))))) (tOp rMod (tOp (rIxL K) (tVar 2) (tC (.int 3))) (tVar 6))) (tCons (tOp rMod (tOp (rIxL K) (tVar 2) (tC (.int 4))) (tC (.int 3))) tNil))) (gName 4))
 (tAsg (tTup (tCons (tOp (rI CMul fun i j=>.int (i*j)) (tVar 6) (tOp qAdd (tC (.int 56)) (tOp rMod (tOp (rIxL K) (tVar 2) (tC (.int 3))) (tC (.int 8))))) (tCons (tC (.int 0)) tNil))) (gName 5)))))
 tNext)
 (tSeq (tFor (iList K (tLst (tCons (tCB (rTupOf K) (tCons (tVar 4) tNil)) (tCons (tVar 5) (tCons (tCB (rTupOf K) (tCons (tVar 4) tNil)) tNil))))) (gName 7)
 (tIfS (tNot (tB (tCall (spRight K) [] E0 (tCons (tVar 1) (tCons (tVar 7) tNil)))))
 (tRet (tC (.bl false)))
 tNext))
 (tRet (tC (.bl true)))))))))))
def t_rest(K:PySem.W.Frag):TS:=(tSeq (tIfS (tTest (tOp rEq (tOp rMod (tCall (spCell K) [] E0 (tCons (tVar 0) (tCons (tC (.int 22)) tNil))) (tC (.int 8))) (tC (.int 6))))
 (tSeq (tAsg (tOp qAdd (tC (.int 1)) (tOp rMod (tOp (rIxL K) (tVar 2) (tC (.int 0))) (tC (.int 3)))) (gName 6))
 (tSeq (tAsg (tTup (tCons (tTup (tCons (tC (.str "a")) (tCons (tC (.str "b")) tNil))) (tCons (tTup (tCons (tTup (tCons (tTup (tCons (tVar 6) (tCons (tC (.int 0)) tNil))) (tCons (tTup (tCons (tC (.int 0)) (tCons (tOp rMod (tOp (rIxL K) (tVar 2) (tC (.int 1))) (tC (.int 3))) tNil))) (tCons (tTup (tCons (tC (.int 1)) (tCons (tC (.int 1)) tNil))) tNil)))) tNil)) tNil))) (gName 1))
 (tSeq (tAsg (tLst (tCons (tOp qAdd (tOp (rI CMul fun i j=>.int (i*j)) (tVar 6) (tOp qAdd (tC (.int 56)) (tOp rMod (tOp (rIxL K) (tVar 2) (tC (.int 2))) (tC (.int 8))))) (tOp rMod (tOp (rIxL K) (tVar 2) (tC (.int 3))) (tVar 6))) (tCons (tOp rMod (tOp (rIxL K) (tVar 2) (tC (.int 4))) (tC (.int 3))) tNil))) (gName 4))
 (tAsg (tTup (tCons (tOp (rI CMul fun i j=>.int (i*j)) (tVar 6) (tOp qAdd (tC (.int 56)) (tOp rMod (tOp (rIxL K) (tVar 2) (tC (.int 3))) (tC (.int 8))))) (tCons (tC (.int 0)) tNil))) (gName 5)))))
 tNext)
 (tSeq (tFor (iList K (tLst (tCons (tCB (rTupOf K) (tCons (tVar 4) tNil)) (tCons (tVar 5) (tCons (tCB (rTupOf K) (tCons (tVar 4) tNil)) tNil))))) (gName 7)
 (tIfS (tNot (tB (tCall (spRight K) [] E0 (tCons (tVar 1) (tCons (tVar 7) tNil)))))
 (tRet (tC (.bl false)))
 tNext))
 (tRet (tC (.bl true)))))
def t_behind(K:PySem.W.Frag):TS:=(tSeq (tFor (iList K (tLst (tCons (tCB (rTupOf K) (tCons (tVar 4) tNil)) (tCons (tVar 5) (tCons (tCB (rTupOf K) (tCons (tVar 4) tNil)) tNil))))) (gName 7)
 (tIfS (tNot (tB (tCall (spRight K) [] E0 (tCons (tVar 1) (tCons (tVar 7) tNil)))))
 (tRet (tC (.bl false)))
 tNext))
 (tRet (tC (.bl true))))
theorem rd_behind{K:PySem.W.Frag}{H:Hp}{Q:VK}{lc:Addr}{v o:V}{ws:List Str}{ts:List Tn}{cs os:List Int}{u0 u2 u3 u6:Option V}(rv:Rz K H v (dV ws ts))(hc:H lc=some (.lst (cs.map V.int)))(ro:Rz K H o (dI os))(nn:Nn cs.length ts)(lo:os.length=cs.length)(l100:cs.length≤100)(l8:ts.length≤8)(k:∀H',Q (.bl true) H') :
  t_behind K (ends Q) [u0,some v,u2,u3,some (.ref lc),some o,u6,none] H:=by
 unfold t_behind
 walk_at "rd"
 refine k_tupL (SqL.of hc) fun p1 n1=>?_
 have S1:=same_new n1 (.tup (cs.map V.int))
 have r1:Rz K (upd H p1 (.tup (cs.map V.int))) (.ref p1) (dI cs):=.tup upd_same (RpL.ints _)
 generalize upd H p1 (.tup (cs.map V.int))=H1 at S1 r1 ⊢
 walk_at "rd"
 refine k_tupL (SqL.of (S1 _ _ hc)) fun p2 n2=>?_
 have S2:=same_new n2 (.tup (cs.map V.int))
 have r2:Rz K (upd H1 p2 (.tup (cs.map V.int))) (.ref p2) (dI cs):=.tup upd_same (RpL.ints _)
 generalize upd H1 p2 (.tup (cs.map V.int))=H2 at S2 r2 ⊢
 have r1':=r1.same S2
 have S02:=S1.trans S2
 walk_at "rd"
 refine ⟨by show 3≤sizeLine;decide,fun l nl=>?_⟩
 have S3:=same_new nl (.lst [.ref p1,o,.ref p2])
 have hl:upd H2 l (.lst [.ref p1,o,.ref p2]) l=some (.lst [.ref p1,o,.ref p2]):=upd_same
 generalize upd H2 l (.lst [.ref p1,o,.ref p2])=H3 at S3 hl ⊢
 have S03:=S02.trans S3
 have rs:∀(i:Nat) (z:V),[V.ref p1,o,.ref p2][i]? = some z→∃c',Rz K H3 z (dI c')∧c'.length=cs.length:=fun i z hz=>by
  match i,hz with
  | 0,hz=>cases hz;exact ⟨cs,r1'.same S3,rfl⟩
  | 1,hz=>cases hz;exact ⟨os,ro.same S03,lo⟩
  | 2,hz=>cases hz;exact ⟨cs,r2.same S3,rfl⟩
 walk_at "rd"
 refine k_rlF (SqL.of hl) ?_
 refine fat_list (xs:=[.ref p1,o,.ref p2]) (fun i σ H6=>∃u7:Option V,σ = [u0,some v,u2,u3,some (.ref lc),some o,u6,u7]∧Same H3 H6) ⟨_,rfl,Same.refl _⟩ (fun i σ H6 _ ⟨_,_,S⟩=>SqL.of (S _ _ hl)) ?_ ?_
 ·rintro i z σ H6 hz ⟨u7,rfl,S6⟩
  obtain ⟨c',rz,lz⟩:=rs i z hz
  walk_at "rd"
  refine ⟨v,z,ws,ts,c',rfl,rv.same (S03.trans S6),rz.same S6,by rw [lz];exact nn,by omega,l8,fun H7 S7=>?_⟩
  walk_at "rd"
  exact ⟨_,rfl,S6.trans S7⟩
 ·rintro σ H6 ⟨u7,rfl,S6⟩
  walk_at "rd"
  exact k H6
theorem rd_rest{K:PySem.W.Frag}{H:Hp}{Q:VK}{a px lc:Addr}{ns:List Int}{v o:V}{ws:List Str}{ts:List Tn}{cs os:List Int}{u3:Option V}{z0 z1 z2 z3 z4 z5 z6:Int}(hS:SqL K H a (ns.map V.int))(hx:H px=some (.lst ([z0,z1,z2,z3,z4,z5,z6].map V.int)))
  (rv:Rz K H v (dV ws ts)) (hc:H lc=some (.lst (cs.map V.int))) (ro:Rz K H o (dI os)) (nn:Nn cs.length ts) (lo:os.length=cs.length) (l100:cs.length≤100) (l8:ts.length≤8) (k:∀H',Q (.bl true) H') :
  t_rest K (ends Q) [some (.ref a),some v,some (.ref px),u3,some (.ref lc),some o,none,none] H:=by
 unfold t_rest
 walk_at "rd"
 refine ⟨a,ns,22,rfl,hS,by decide,?_⟩
 generalize cellOf ns 22=c22
 walk_at "rd"
 refine k_ite (fun _=>?_) (fun _=>?_)
 ·walk_at "rd"
  refine k_ixL (SqL.of hx) (i:=0) (v:=.int z0) rfl ?_
  walk_at "rd"
  have tk:0 < 1+z0 % 3:=by omega
  generalize 1+z0 % 3=take at tk ⊢
  refine ⟨by show 2≤sizeLine;decide,fun pA nA=>?_⟩
  have S1:=same_new nA (.tup [.str "a",.str "b"])
  have rA:Rz K (upd H pA (.tup [.str "a",.str "b"])) (.ref pA) (.tuple [.str "a",.str "b"]):=.tup upd_same (.cons (.str _) (.cons (.str _) .nil))
  generalize upd H pA (.tup [.str "a",.str "b"])=H1 at S1 rA ⊢
  walk_at "rd"
  refine ⟨by show 2≤sizeLine;decide,fun pB nB=>?_⟩
  have S2:=same_new nB (.tup [.int take,.int 0])
  have rB:Rz K (upd H1 pB (.tup [.int take,.int 0])) (.ref pB) (dI [take,0]):=.tup upd_same (RpL.ints [take,0])
  generalize upd H1 pB (.tup [.int take,.int 0])=H2 at S2 rB ⊢
  have rA2:=rA.same S2
  have T2:=S1.trans S2
  walk_at "rd"
  refine k_ixL (SqL.of (T2 _ _ hx)) (i:=1) (v:=.int z1) rfl ?_
  walk_at "rd"
  generalize z1 % 3=m1
  refine ⟨by show 2≤sizeLine;decide,fun pC nC=>?_⟩
  have S3:=same_new nC (.tup [.int 0,.int m1])
  have rC:Rz K (upd H2 pC (.tup [.int 0,.int m1])) (.ref pC) (dI [0,m1]):=.tup upd_same (RpL.ints [0,m1])
  generalize upd H2 pC (.tup [.int 0,.int m1])=H3 at S3 rC ⊢
  have rA3:=rA2.same S3
  have rB3:=rB.same S3
  have T3:=T2.trans S3
  walk_at "rd"
  refine ⟨by show 2≤sizeLine;decide,fun pD nD=>?_⟩
  have S4:=same_new nD (.tup [.int 1,.int 1])
  have rD:Rz K (upd H3 pD (.tup [.int 1,.int 1])) (.ref pD) (dI [1,1]):=.tup upd_same (RpL.ints [1,1])
  generalize upd H3 pD (.tup [.int 1,.int 1])=H4 at S4 rD ⊢
  have rA4:=rA3.same S4
  have rB4:=rB3.same S4
  have rC4:=rC.same S4
  have T4:=T3.trans S4
  walk_at "rd"
  refine ⟨by show 3≤sizeLine;decide,fun pE nE=>?_⟩
  have S5:=same_new nE (.tup [.ref pB,.ref pC,.ref pD])
  have rE:Rz K (upd H4 pE (.tup [.ref pB,.ref pC,.ref pD])) (.ref pE) (dT ⟨[take,0],[0,m1],1,1⟩):=.tup upd_same (.cons (rB4.same S5) (.cons (rC4.same S5) (.cons (rD.same S5) .nil)))
  generalize upd H4 pE (.tup [.ref pB,.ref pC,.ref pD])=H5 at S5 rE ⊢
  have rA5:=rA4.same S5
  have T5:=T4.trans S5
  walk_at "rd"
  refine ⟨by show 1≤sizeLine;decide,fun pF nF=>?_⟩
  have S6:=same_new nF (.tup [.ref pE])
  have rF:Rz K (upd H5 pF (.tup [.ref pE])) (.ref pF) (.tuple [dT ⟨[take,0],[0,m1],1,1⟩]):=.tup upd_same (.cons (rE.same S6) .nil)
  generalize upd H5 pF (.tup [.ref pE])=H6 at S6 rF ⊢
  have rA6:=rA5.same S6
  have T6:=T5.trans S6
  walk_at "rd"
  refine ⟨by show 2≤sizeLine;decide,fun pG nG=>?_⟩
  have S7:=same_new nG (.tup [.ref pA,.ref pF])
  have rG:Rz K (upd H6 pG (.tup [.ref pA,.ref pF])) (.ref pG) (dV ["a","b"] [⟨[take,0],[0,m1],1,1⟩]):=.tup upd_same (.cons (rA6.same S7) (.cons (rF.same S7) .nil))
  generalize upd H6 pG (.tup [.ref pA,.ref pF])=H7 at S7 rG ⊢
  have T7:=T6.trans S7
  have hx7:=T7 _ _ hx
  walk_at "rd"
  refine k_ixL (SqL.of hx7) (i:=2) (v:=.int z2) rfl ?_
  walk_at "rd"
  refine k_ixL (SqL.of hx7) (i:=3) (v:=.int z3) rfl ?_
  walk_at "rd"
  refine k_ixL (SqL.of hx7) (i:=4) (v:=.int z4) rfl ?_
  walk_at "rd"
  generalize take*(56+z2 % 8)+z3 % take=n1
  generalize z4 % 3=n2
  refine ⟨by show 2≤sizeLine;decide,fun lc' nl=>?_⟩
  have S8:=same_new nl (.lst [.int n1,.int n2])
  have hc':upd H7 lc' (.lst [.int n1,.int n2]) lc'=some (.lst ([n1,n2].map V.int)):=upd_same
  generalize upd H7 lc' (.lst [.int n1,.int n2])=H8 at S8 hc' ⊢
  walk_at "rd"
  refine k_ixL (SqL.of (S8 _ _ hx7)) (i:=3) (v:=.int z3) rfl ?_
  walk_at "rd"
  generalize take*(56+z3 % 8)=n3
  refine ⟨by show 2≤sizeLine;decide,fun po' npo=>?_⟩
  have S9:=same_new npo (.tup [.int n3,.int 0])
  have rO:Rz K (upd H8 po' (.tup [.int n3,.int 0])) (.ref po') (dI [n3,0]):=.tup upd_same (RpL.ints [n3,0])
  generalize upd H8 po' (.tup [.int n3,.int 0])=H9 at S9 rO ⊢
  exact rd_behind (rG.same (S8.trans S9)) (S9 _ _ hc') rO (fun t ht=>by cases List.mem_singleton.mp ht;exact ⟨rfl,rfl⟩) rfl (show 2≤100 by decide) (show 1≤8 by decide) k
 ·exact rd_behind rv hc ro nn lo l100 l8 k
theorem rd_law {K:PySem.W.Frag} {vs:List V} {H:Hp} {Q:VK} {E:XK} (h:spLaw K vs H Q E):t_law K (ends Q) (L2.start ["_law_script","_law_vessel_here","_law_xs","_law_most","_law_count","_law_other","_law_take","_law_one"] vs) H:=by
 obtain ⟨a,ns,rfl,hS,hl,k⟩:=h
 show t_law K (ends Q) [some (.ref a),none,none,none,none,none,none,none] H
 unfold t_law
 walk_at "rd"
 refine ⟨a,ns,rfl,hS,fun p H1 ws ts S1 vo rv=>?_⟩
 obtain ⟨p',v1,v2,e0,hp,r1,r2⟩:=dV_at rv
 cases e0
 obtain ⟨a1,ys,rfl,ha1,ry⟩:=r1.tup_at
 have ly:ys.length=ws.length:=by rw [ry.length,List.length_map]
 obtain ⟨hs,po,h8,tk⟩:=vo.turns
 have w1:=vo.w1
 have w5:=vo.w5
 have nn:Nn ws.length ts:=fun t ht=>by
  obtain ⟨f,g,_,pc⟩:=tk.ok t ht
  exact ⟨(po.2 _ f).1,(po.2 _ g).1⟩
 walk_at "rd"
 refine ⟨a,ns,21,rfl,S1.seq hS,by decide,?_⟩
 generalize cellOf ns 21=c21
 walk_at "rd"
 refine ⟨c21,7,rfl,by decide,by decide,fun px H2 xs7 A2 l7 m7=>?_⟩
 have hx:=AccZ.ints A2
 have S2:=A2.same
 obtain ⟨z0,z1,z2,z3,z4,z5,z6,rfl⟩:∃z0 z1 z2 z3 z4 z5 z6:Int,xs7=[z0,z1,z2,z3,z4,z5,z6]:=by
  match xs7,l7 with
  | [z0,z1,z2,z3,z4,z5,z6],_=>exact ⟨z0,z1,z2,z3,z4,z5,z6,rfl⟩
 walk_at "rd"
 refine ⟨by show 4≤sizeLine;decide,fun lq nlq=>?_⟩
 have S3:=same_new nlq (.lst [.int 1,.int 3,.int 9,.int 3])
 walk_at "rd"
 refine k_ixL (SqL.of (S3 _ _ hx)) (i:=5) (v:=.int z5) rfl ?_
 walk_at "rd"
 obtain ⟨mo,m1,am⟩:∃mo:Int,1≤mo∧atI [V.int 1,.int 3,.int 9,.int 3] (z5 % 4)=some (.int mo):=by
  have:z5 % 4=0∨z5 % 4=1∨z5 % 4=2∨z5 % 4=3:=by omega
  rcases this with e | e | e | e <;> rw [e]
  ·exact ⟨1,by decide,rfl⟩
  ·exact ⟨3,by decide,rfl⟩
  ·exact ⟨9,by decide,rfl⟩
  ·exact ⟨3,by decide,rfl⟩
 refine k_ixL (SqL.of upd_same) am ?_
 generalize upd H2 lq (.lst [.int 1,.int 3,.int 9,.int 3])=H3 at S3 ⊢
 have S13:=S2.trans S3
 have hx3:=S3 _ _ hx
 have ix7:∀i:Nat,i < 5→∃z,atI ([z0,z1,z2,z3,z4,z5,z6].map V.int) (0+(i:Int))=some (.int z):=fun i hi=>by
  match i,hi with
  | 0,_=>exact ⟨z0,rfl⟩
  | 1,_=>exact ⟨z1,rfl⟩
  | 2,_=>exact ⟨z2,rfl⟩
  | 3,_=>exact ⟨z3,rfl⟩
  | 4,_=>exact ⟨z4,rfl⟩
 walk_at "rd"
 refine k_ixT (SqT.of (S13 _ _ hp)) (v:=.ref a1) rfl ?_
 walk_at "rd"
 refine k_lenT (SqT.of (S13 _ _ ha1)) ?_
 rw [ly]
 walk_at "rd"
 refine comp_range (n:=ws.length) fun D nD=>⟨fun i H4=>∃cs:List Int,AccZ K H3 D H4 (cs.map Dat.int)∧cs.length=i,⟨[],by simpa using AccZ.start (Same.refl _) nD,rfl⟩,?_,?_⟩
 ·rintro i H4 hi ⟨cs,A4,lc⟩
  obtain ⟨z,az⟩:=ix7 i (by omega)
  walk_at "rd"
  refine k_ixL (SqL.of (A4.same _ _ hx3)) az ?_
  walk_at "rd"
  refine pushed hi (A4.pushK (.int (z % (mo+1))) (small1000 (by rw [List.length_map];omega)) fun H5 A5=>?_)
  exact ⟨cs++[z % (mo+1)],by rw [List.map_append];exact A5,by rw [List.length_append,lc];rfl⟩
 ·rintro H4 ⟨cs,A4,lc⟩
  have hc4:=AccZ.ints A4
  have S14:=S13.trans A4.same
  walk_at "rd"
  refine k_ixT (SqT.of (S14 _ _ hp)) (v:=.ref a1) rfl ?_
  walk_at "rd"
  refine k_lenT (SqT.of (S14 _ _ ha1)) ?_
  rw [ly]
  walk_at "rd"
  refine comp_range (n:=ws.length) fun D' nD'=>⟨fun i H5=>∃os:List Int,AccZ K H4 D' H5 (os.map Dat.int)∧os.length=i,⟨[],by simpa using AccZ.start (Same.refl _) nD',rfl⟩,?_,?_⟩
  ·rintro i H5 hi ⟨os,A5,lo⟩
   obtain ⟨z,az⟩:=ix7 i (by omega)
   walk_at "rd"
   refine k_ixL (SqL.of (A5.same _ _ (A4.same _ _ hx3))) az ?_
   walk_at "rd"
   refine pushed hi (A5.pushK (.int (z / 10 % (mo+1))) (small1000 (by rw [List.length_map];omega)) fun H6 A6=>?_)
   exact ⟨os++[z / 10 % (mo+1)],by rw [List.map_append];exact A6,by rw [List.length_append,lo];rfl⟩
  ·rintro H5 ⟨os,A5,lo⟩
   walk_at "rd"
   refine k_tupL (SqL.of (AccZ.ints A5)) fun pc np=>?_
   have ro:Rz K (upd H5 pc (.tup (os.map V.int))) (.ref pc) (dI os):=.tup upd_same (RpL.ints _)
   have S46:=A5.same.trans (same_new np (.tup (os.map V.int)))
   generalize upd H5 pc (.tup (os.map V.int))=H6 at ro S46 ⊢
   have S36:=A4.same.trans S46
   have hc6:=S46 _ _ hc4
   have S06:=S1.trans (S13.trans S36)
   walk_at "rd"
   refine ⟨a,ns,22,rfl,S06.seq hS,by decide,?_⟩
   generalize cellOf ns 22=c22
   walk_at "rd"
   refine k_ite (fun _=>?_) (fun _=>?_)
   ·walk_at "rd"
    refine ⟨a,ns,23,rfl,S06.seq hS,by decide,?_⟩
    generalize cellOf ns 23=c23
    walk_at "rd"
    rw [p40]
    walk_at "rd"
    generalize c23 % 10000000000000000000000000000000000000000=great
    refine k_gSub (k_var (i:=4) rfl ?_)
    walk_at "rd"
    refine k_ixL (SqL.of (S36 _ _ hx3)) (i:=6) (v:=.int z6) rfl ?_
    walk_at "rd"
    refine k_lenL (SqL.of hc6) ?_
    rw [List.length_map]
    have lp:(0:Int) < (cs.length:Int):=by omega
    walk_at "rd"
    have i0:=Int.emod_nonneg z6 (show (cs.length:Int)≠0 by omega)
    have i1:=Int.emod_lt_of_pos z6 lp
    generalize z6 % (cs.length:Int)=ix at i0 i1 ⊢
    refine ⟨D,_,ix,ix.toNat,rfl,rfl,hc6,?_,?_⟩
    ·unfold ixN
     rw [if_pos (by omega),if_pos (by rw [List.length_map];omega)]
    have es:(cs.map V.int).set ix.toNat (.int great)=(cs.set ix.toNat great).map V.int:=(List.map_set ..).symm
    rw [es]
    have T6:=same_put (o:=.lst ((cs.set ix.toNat great).map V.int)) S36 nD
    exact rd_rest ((S1.trans (S13.trans T6)).seq hS) (T6 _ _ hx3) (rv.same (S13.trans T6)) upd_same (Rz.upd ro hc6) (by rw [List.length_set,lc];exact nn) (by rw [List.length_set];omega) (by rw [List.length_set];omega) tk.le k
   ·exact rd_rest (S06.seq hS) (S36 _ _ hx3) (rv.same (S13.trans S36)) hc6 ro (by rw [lc];exact nn) (by omega) (by omega) tk.le k
theorem sc_can_be_made:FnScope ["turning","count"] ["turning","count"] (defScope (top 18)):=⟨rfl,rfl,rfl,by decide +kernel,rfl,by decide +kernel,by decide +kernel⟩
theorem sc_count_behind:FnScope ["turning","count"] ["turning","count"] (defScope (top 19)):=⟨rfl,rfl,rfl,by decide +kernel,rfl,by decide +kernel,by decide +kernel⟩
theorem sc_steps_on:FnScope ["vessel","count","row","steps","number","turning"] ["vessel","count","row"] (defScope (top 20)):=⟨rfl,rfl,rfl,by decide +kernel,rfl,by decide +kernel,by decide +kernel⟩
theorem sc_comings:FnScope ["vessel","count","start","told","found","place","here","step"] ["vessel","count"] (defScope (top 21)):=⟨rfl,rfl,rfl,by decide +kernel,rfl,by decide +kernel,by decide +kernel⟩
theorem sc_law_cell_at:FnScope ["_law_script","_law_k"] ["_law_script","_law_k"] (defScope (top 23)):=⟨rfl,rfl,rfl,by decide +kernel,rfl,by decide +kernel,by decide +kernel⟩
theorem sc_law_mixed:FnScope ["_law_cell","_law_many","_law_found","_law_number","_law_k"] ["_law_cell","_law_many"] (defScope (top 24)):=⟨rfl,rfl,rfl,by decide +kernel,rfl,by decide +kernel,by decide +kernel⟩
theorem sc_law_divisor:FnScope ["_law_one","_law_other","_law_rest"] ["_law_one","_law_other"] (defScope (top 25)):=⟨rfl,rfl,rfl,by decide +kernel,rfl,by decide +kernel,by decide +kernel⟩
theorem sc_law_lowest:FnScope ["_law_top","_law_bottom","_law_share"] ["_law_top","_law_bottom"] (defScope (top 26)):=⟨rfl,rfl,rfl,by decide +kernel,rfl,by decide +kernel,by decide +kernel⟩
theorem sc_law_base:FnScope ["_law_cell","_law_size","_law_number","_law_found","_law_k"] ["_law_cell","_law_size"] (defScope (top 27)):=⟨rfl,rfl,rfl,by decide +kernel,rfl,by decide +kernel,by decide +kernel⟩
theorem sc_law_word:FnScope ["_law_base_here","_law_place","_law_size","_law_k","_law_signs","_law_other"] ["_law_base_here","_law_place","_law_size","_law_k"] (defScope (top 28)):=⟨rfl,rfl,rfl,by decide +kernel,rfl,by decide +kernel,by decide +kernel⟩
theorem sc_law_words:FnScope ["_law_script","_law_at","_law_many","_law_cell","_law_size","_law_base_here","_law_words_here","_law_k","_law_word_here"] ["_law_script","_law_at","_law_many"] (defScope (top 29)):=⟨rfl,rfl,rfl,by decide +kernel,rfl,by decide +kernel,by decide +kernel⟩
theorem sc_law_heap:FnScope ["_law_number","_law_many","_law_most","_law_found","_law_k"] ["_law_number","_law_many","_law_most"] (defScope (top 30)):=⟨rfl,rfl,rfl,by decide +kernel,rfl,by decide +kernel,by decide +kernel⟩
theorem sc_law_pool:FnScope ["_law_script","_law_at","_law_many","_law_first","_law_most","_law_found","_law_k","_law_heap_here"] ["_law_script","_law_at","_law_many"] (defScope (top 31)):=⟨rfl,rfl,rfl,by decide +kernel,rfl,by decide +kernel,by decide +kernel⟩
theorem sc_law_pace:FnScope ["_law_number","_law_other","_law_great"] ["_law_number","_law_other","_law_great"] (defScope (top 32)):=⟨rfl,rfl,rfl,by decide +kernel,rfl,by decide +kernel,by decide +kernel⟩
theorem sc_law_turnings:FnScope ["_law_script","_law_at","_law_pool_here","_law_first","_law_pairs","_law_found","_law_k","_law_xs","_law_one","_law_two","_law_pair","_law_pace_here"] ["_law_script","_law_at","_law_pool_here"] (defScope (top 33)):=⟨rfl,rfl,rfl,by decide +kernel,rfl,by decide +kernel,by decide +kernel⟩
theorem sc_law_vessel:FnScope ["_law_script","_law_many","_law_words_here"] ["_law_script"] (defScope (top 34)):=⟨rfl,rfl,rfl,by decide +kernel,rfl,by decide +kernel,by decide +kernel⟩
theorem sc_law_whole:FnScope ["_law_found"] ["_law_found"] (defScope (top 35)):=⟨rfl,rfl,rfl,by decide +kernel,rfl,by decide +kernel,by decide +kernel⟩
theorem sc_law_same:FnScope ["_law_found","_law_due_here","_law_k"] ["_law_found","_law_due_here"] (defScope (top 36)):=⟨rfl,rfl,rfl,by decide +kernel,rfl,by decide +kernel,by decide +kernel⟩
theorem sc_law_kinds:FnScope ["_law_e","_law_found"] ["_law_e"] (defScope (top 37)):=⟨rfl,rfl,rfl,by decide +kernel,rfl,by decide +kernel,by decide +kernel⟩
theorem sc_law_step:FnScope ["_law_turning","_law_count","_law_found","_law_k"] ["_law_turning","_law_count"] (defScope (top 38)):=⟨rfl,rfl,rfl,by decide +kernel,rfl,by decide +kernel,by decide +kernel⟩
theorem sc_law_due:FnScope ["_law_vessel_here","_law_count","_law_due_here","_law_seen","_law_at","_law_k","_law_there"] ["_law_vessel_here","_law_count"] (defScope (top 39)):=⟨rfl,rfl,rfl,by decide +kernel,rfl,by decide +kernel,by decide +kernel⟩
theorem sc_law_walks:FnScope ["_law_vessel_here","_law_count","_law_found","_law_here","_law_row","_law_there","_law_number"] ["_law_vessel_here","_law_count","_law_found"] (defScope (top 40)):=⟨rfl,rfl,rfl,by decide +kernel,rfl,by decide +kernel,by decide +kernel⟩
theorem sc_law_refused_well:FnScope ["_law_vessel_here","_law_count","_law_caught","_law_found","_law_pair"] ["_law_vessel_here","_law_count","_law_caught"] (defScope (top 41)):=⟨rfl,rfl,rfl,by decide +kernel,rfl,by decide +kernel,by decide +kernel⟩
theorem sc_law_told:FnScope ["_law_vessel_here","_law_count","_law_caught","_law_told_here","_law_e"] ["_law_vessel_here","_law_count"] (defScope (top 42)):=⟨rfl,rfl,rfl,by decide +kernel,rfl,by decide +kernel,by decide +kernel⟩
theorem sc_law_right:FnScope ["_law_vessel_here","_law_count","_law_due_here","_law_told_here","_law_caught","_law_here","_law_row"] ["_law_vessel_here","_law_count"] (defScope (top 43)):=⟨rfl,rfl,rfl,by decide +kernel,rfl,by decide +kernel,by decide +kernel⟩
theorem sc_law:FnScope ["_law_script","_law_vessel_here","_law_xs","_law_most","_law_count","_law_other","_law_take","_law_one"] ["_law_script"] (defScope (top 44)):=⟨rfl,rfl,rfl,by decide +kernel,rfl,by decide +kernel,by decide +kernel⟩
section
variable{P:Program}{w:World}{K:PySem.W.Frag}{mg:Str→Option Value}{base:Heap}
theorem sc_ini8:FnScope ["self","counts"] ["self","counts"] (defScope (ini 10)):=⟨rfl,rfl,rfl,by decide +kernel,rfl,by decide +kernel,by decide +kernel⟩
theorem ok_ini8 {x:Ex0.Ad} (T:Exs K mg x) (G:Cn K mg) {f:Addr} {fd:FuncData} (F:Fun K "__init__" "TooMany.__init__" (ini 10) f fd) (B:Blt mg):FnOk P w K mg base CX0 1 f fd ["self","counts"] (spIniL K x.c8 "counts"):=by
 refine F.ok sc_ini8 (fun vs H Q E h=>len_iniL h) (fun cdv A outer s H vs Q E hr h=>?_)
 have nd:=sc_ini8.nd
 have hpo:=fun {M A env}=>@PassesOwn.never M A env
 have hu:=hr.units
 have hu1:=Nat.lt_of_le_of_lt (Nat.add_le_add_left (by decide:1≤64) _) hu
 exact ⟨t_ini8 K,(pss_cons (ps_expr (pe_baseI rfl T.vb (pa_cons (pv 0) (pa_cons pe_str pa_nil))))
 (pss_one (ps_fldX (pv 0) (pe_callTy call_list_of rfl B.list bb_list (pa_cons (pv 1) pa_nil)) rfl))),(rd_ini8 rfl h)⟩
theorem ok_can_be_made {x:Ex0.Ad} (T:Exs K mg x) (G:Cn K mg) (F:FunAt K mg "can_be_made" (top 18) ["turning","count"]) (B:Blt mg)  : FnC P w K mg base CX0 1 "can_be_made" ["turning","count"] (spCanB K):=by
 refine F.ok sc_can_be_made (fun vs H Q E h=>len_canB h) (fun f cdv A outer s H vs Q E hr h=>?_)
 have nd:=sc_can_be_made.nd
 have hpo:=fun {M A env}=>@PassesOwn.never M A env
 have hu:=hr.units
 have hu1:=Nat.lt_of_le_of_lt (Nat.add_le_add_left (by decide:1≤64) _) hu
 have own:OwnFr (cxOf CX0 P w K mg base ["turning","count"] "can_be_made" (defScope (top 18)) f cdv A outer s H E).nox:=⟨rfl,rfl,rfl⟩
 exact ⟨t_canB K,(pss_one (ps_ret (pe_callB (call_all rfl) rfl B.all bb_all (pa_cons (pe_lcN ["taken","pieces"] ["turning","count"] (by show CompS (defScope (top 18)) ["turning","count"] ["turning","count"] _ _;exact ⟨rfl,by decide +kernel,by decide +kernel,by decide +kernel,by decide +kernel,rfl,by decide +kernel,by decide +kernel,by decide +kernel⟩) rfl (pi_zip (k1:=.T) (k2:=.T) rfl B.zip (pa_cons (pe_ix ix_tup (pv 0) pe_int (fun _ _=>rfl)) (pa_cons (pv 1) pa_nil))) (fun _ _ _ _ _=>(pg_tup rfl (pgs_cons (pg_name (i:=0) (show (["taken","pieces","turning","count"]:List Str).Nodup by decide +kernel) rfl (by first | exact Or.inl rfl | exact Or.inr rfl)) (pgs_cons (pg_name (i:=1) (show (["taken","pieces","turning","count"]:List Str).Nodup by decide +kernel) rfl (by first | exact Or.inl rfl | exact Or.inr rfl)) pgs_nil)))) (fun _ _ _ _ _=>(pe_cmpR op_le (pv 0) (pv 1) (nomark _)))) pa_nil)))),(rd_canB rfl h)⟩
theorem ok_count_behind {x:Ex0.Ad} (T:Exs K mg x) (G:Cn K mg) (F:FunAt K mg "count_behind" (top 19) ["turning","count"]) (B:Blt mg)  : FnC P w K mg base CX0 1 "count_behind" ["turning","count"] (spCntB K):=by
 refine F.ok sc_count_behind (fun vs H Q E h=>len_cntB h) (fun f cdv A outer s H vs Q E hr h=>?_)
 have nd:=sc_count_behind.nd
 have hpo:=fun {M A env}=>@PassesOwn.never M A env
 have hu:=hr.units
 have hu1:=Nat.lt_of_le_of_lt (Nat.add_le_add_left (by decide:1≤64) _) hu
 have own:OwnFr (cxOf CX0 P w K mg base ["turning","count"] "count_behind" (defScope (top 19)) f cdv A outer s H E).nox:=⟨rfl,rfl,rfl⟩
 exact ⟨t_cntB K,(pss_one (ps_ret (pe_callTy call_tuple_of rfl B.tuple bb_tuple (pa_cons (pe_lcN ["pieces","taken","put"] ["turning","count"] (by show CompS (defScope (top 19)) ["turning","count"] ["turning","count"] _ _;exact ⟨rfl,by decide +kernel,by decide +kernel,by decide +kernel,by decide +kernel,rfl,by decide +kernel,by decide +kernel,by decide +kernel⟩) rfl (pi_zip3 rfl B.zip (pa_cons (pv 1) (pa_cons (pe_ix ix_tup (pv 0) pe_int (fun _ _=>rfl)) (pa_cons (pe_ix ix_tup (pv 0) pe_int (fun _ _=>rfl)) pa_nil)))) (fun _ _ _ _ _=>(pg_tup rfl (pgs_cons (pg_name (i:=0) (show (["pieces","taken","put","turning","count"]:List Str).Nodup by decide +kernel) rfl (by first | exact Or.inl rfl | exact Or.inr rfl)) (pgs_cons (pg_name (i:=1) (show (["pieces","taken","put","turning","count"]:List Str).Nodup by decide +kernel) rfl (by first | exact Or.inl rfl | exact Or.inr rfl)) (pgs_cons (pg_name (i:=2) (show (["pieces","taken","put","turning","count"]:List Str).Nodup by decide +kernel) rfl (by first | exact Or.inl rfl | exact Or.inr rfl)) pgs_nil))))) (fun _ _ _ _ _=>(pe_op op_add (pe_op op_sub (pv 0) (pv 1)) (pv 2)))) pa_nil)))),(rd_cntB rfl h)⟩
theorem ok_steps_on {x:Ex0.Ad} (T:Exs K mg x) (G:Cn K mg) (F:FunAt K mg "steps_on" (top 20) ["vessel","count","row"]) (B:Blt mg) (c_can_be_made:FnC P w K mg base CX0 1 "can_be_made" ["turning","count"] (spCanB K)) (c_count_behind:FnC P w K mg base CX0 1 "count_behind" ["turning","count"] (spCntB K)):FnC P w K mg base CX0 2 "steps_on" ["vessel","count","row"] (spStepsOn K):=by
 refine F.ok sc_steps_on (fun vs H Q E h=>len_stepsOn h) (fun f cdv A outer s H vs Q E hr h=>?_)
 have nd:=sc_steps_on.nd
 have hpo:=fun {M A env}=>@PassesOwn.never M A env
 have hu:=hr.units
 have hu1:=Nat.lt_of_le_of_lt (Nat.add_le_add_left (by decide:1≤64) _) hu
 have own:OwnFr (cxOf CX0 P w K mg base ["vessel","count","row","steps","number","turning"] "steps_on" (defScope (top 20)) f cdv A outer s H E).nox:=⟨rfl,rfl,rfl⟩
 exact ⟨t_stepsOn K,(pss_cons (ps_set (i:=3) nd rfl (by first | exact Or.inl rfl | exact Or.inr rfl) (pe_lst pa_nil))
 (pss_cons (ps_for hpo rfl (pi_enumT rfl B.enumerate (pa_cons (pe_ix ix_tup (pv 0) pe_int (fun _ _=>rfl)) pa_nil)) (pg_tup rfl (pgs_cons (pg_name (i:=4) nd rfl (by first | exact Or.inl rfl | exact Or.inr rfl)) (pgs_cons (pg_name (i:=5) nd rfl (by first | exact Or.inl rfl | exact Or.inr rfl)) pgs_nil)))
 (pss_one (ps_if (pt_val (pe_callF c_can_be_made hr rfl (pa_cons (pv 5) (pa_cons (pv 1) pa_nil))))
 (pss_one (ps_expr (pe_bm PySem.F.plainAttrs_list PySem.F.slot_list_append PySem.F.type_list_append mt_append (pv 3) (pa_cons (pe_tup (pa_cons (pe_callF c_count_behind hr rfl (pa_cons (pv 5) (pa_cons (pv 1) pa_nil))) (pa_cons (pe_op op_cat (pv 2) (pe_lst (pa_cons (pv 4) pa_nil))) pa_nil))) pa_nil))))
 pss_nil)))
 (pss_one (ps_ret (pv 3))))),(rd_stepsOn rfl h)⟩
theorem ok_comings {x:Ex0.Ad} (T:Exs K mg x) (G:Cn K mg) (F:FunAt K mg "comings" (top 21) ["vessel","count"]) (B:Blt mg) (c_steps_on:FnC P w K mg base CX0 2 "steps_on" ["vessel","count","row"] (spStepsOn K)) (i_TooMany:IniC P w K mg base 1 "TooMany" x.c8 (spIniL K x.c8 "counts")):FnC P w K mg base (CXE P w) 3 "comings" ["vessel","count"] (spComings K x.c8):=by
 refine F.okE sc_comings (fun vs H Q E h=>len_comings h) (fun f cdv A outer s H vs Q E hr h=>?_)
 have nd:=sc_comings.nd
 have hpo:=hpo_of (CX:=CXE P w) (P:=P) (w:=w) (K:=K) (mg:=mg) (base:=base) (N:=["vessel","count","start","told","found","place","here","step"]) (qual:="comings") (sc:=defScope (top 21)) (f:=f) (cd:=cdv) (A:=A) (outer:=outer) (s:=s) (H:=H) (E:=E)
 have hu:=hr.units
 have hu1:=Nat.lt_of_le_of_lt (Nat.add_le_add_left (by decide:1≤64) _) hu
 have hlv:=lv_of (P:=P) (w:=w) (K:=K) (mg:=mg) (base:=base) (N:=["vessel","count","start","told","found","place","here","step"]) (qual:="comings") (sc:=defScope (top 21)) (f:=f) (cd:=cdv) (A:=A) (outer:=outer) (s:=s) (H:=H) (E:=E)
 exact ⟨t_comings K E x,(pss_cons (ps_set (i:=2) nd rfl (by first | exact Or.inl rfl | exact Or.inr rfl) (pe_callTy call_tuple_of rfl B.tuple bb_tuple (pa_cons (pv 1) pa_nil)))
 (pss_cons (ps_set (i:=3) nd rfl (by first | exact Or.inl rfl | exact Or.inr rfl) (pe_lst (pa_cons (pe_tup (pa_cons (pv 2) (pa_cons (pe_lst pa_nil) pa_nil))) pa_nil)))
 (pss_cons (ps_set (i:=4) nd rfl (by first | exact Or.inl rfl | exact Or.inr rfl) (pe_disp1T hu1 (pv 2) pe_bl))
 (pss_cons (ps_set (i:=5) nd rfl (by first | exact Or.inl rfl | exact Or.inr rfl) pe_int)
 (pss_cons (ps_while hpo (pt_cmpR op_lt (pv 5) (pe_callB call_len_seq rfl B.len bb_len (pa_cons (pv 3) pa_nil)) (nomark _))
 (pss_cons (ps_set (i:=6) nd rfl (by first | exact Or.inl rfl | exact Or.inr rfl) (pe_ix ix_list (pv 3) (pv 5) (fun _ _=>rfl)))
 (pss_cons (ps_for hpo rfl (pi_list (pe_callF c_steps_on hr rfl (pa_cons (pv 0) (pa_cons (pe_ix ix_tup (pv 6) pe_int (fun _ _=>rfl)) (pa_cons (pe_ix ix_tup (pv 6) pe_int (fun _ _=>rfl)) pa_nil))))) (pg_name (i:=7) nd rfl (by first | exact Or.inl rfl | exact Or.inr rfl))
 (pss_one (ps_if (pt_cmp (pc_dnotin hu1 (pe_ix ix_tup (pv 7) pe_int (fun _ _=>rfl)) (pv 4)) (by with_unfolding_all rfl))
 (pss_cons (ps_dput hu1 (pv 4) (pe_ix ix_tup (pv 7) pe_int (fun _ _=>rfl)) pe_bl rfl)
 (pss_one (ps_expr (pe_bm PySem.F.plainAttrs_list PySem.F.slot_list_append PySem.F.type_list_append mt_append (pv 3) (pa_cons (pv 7) pa_nil)))))
 pss_nil)))
 (pss_cons (ps_if (pt_cmpR op_gt (pe_callB call_len_seq rfl B.len bb_len (pa_cons (pv 3) pa_nil)) (pe_globI rfl G.MOST_COUNTS) (nomark _))
 (pss_one (ps_raiseC hlv rfl rfl i_TooMany (hr.mono (by decide)) (pe_slice sl_list (pv 3) po_none (po_some (pe_op op_add (pe_globI rfl G.MOST_COUNTS) pe_int)))))
 pss_nil)
 (pss_one (ps_set (i:=5) nd rfl (by first | exact Or.inl rfl | exact Or.inr rfl) (pe_op op_add (pv 5) pe_int)))))))
 (pss_one (ps_ret (pv 3)))))))),(rd_comings rfl h)⟩
theorem ok_law_cell_at {x:Ex0.Ad} (T:Exs K mg x) (G:Cn K mg) (F:FunAt K mg "_law_cell_at" (top 23) ["_law_script","_law_k"]) (B:Blt mg)  : FnC P w K mg base CX0 1 "_law_cell_at" ["_law_script","_law_k"] (spCell K):=by
 refine F.ok sc_law_cell_at (fun vs H Q E h=>len_cell h) (fun f cdv A outer s H vs Q E hr h=>?_)
 have nd:=sc_law_cell_at.nd
 have hpo:=fun {M A env}=>@PassesOwn.never M A env
 have hu:=hr.units
 have hu1:=Nat.lt_of_le_of_lt (Nat.add_le_add_left (by decide:1≤64) _) hu
 have own:OwnFr (cxOf CX0 P w K mg base ["_law_script","_law_k"] "_law_cell_at" (defScope (top 23)) f cdv A outer s H E).nox:=⟨rfl,rfl,rfl⟩
 exact ⟨tCell K,(pss_cons (ps_if (pt_cmpR op_lt (pv 1) (pe_callB call_len_seq rfl B.len bb_len (pa_cons (pv 0) pa_nil)) (nomark _))
 (pss_one (ps_ret (pe_ix ix_list (pv 0) (pv 1) (fun _ _=>rfl))))
 pss_nil)
 (pss_one (ps_ret pe_int))),(by obtain ⟨a,ns,k,rfl,hS,h0,q⟩:=h;exact rd_cell hS h0 q)⟩
theorem ok_law_mixed {x:Ex0.Ad} (T:Exs K mg x) (G:Cn K mg) (F:FunAt K mg "_law_mixed" (top 24) ["_law_cell","_law_many"]) (B:Blt mg)  : FnC P w K mg base CX0 1 "_law_mixed" ["_law_cell","_law_many"] (spMixed K):=by
 refine F.ok sc_law_mixed (fun vs H Q E h=>len_mixed h) (fun f cdv A outer s H vs Q E hr h=>?_)
 have nd:=sc_law_mixed.nd
 have hpo:=fun {M A env}=>@PassesOwn.never M A env
 have hu:=hr.units
 have hu1:=Nat.lt_of_le_of_lt (Nat.add_le_add_left (by decide:1≤64) _) hu
 have own:OwnFr (cxOf CX0 P w K mg base ["_law_cell","_law_many","_law_found","_law_number","_law_k"] "_law_mixed" (defScope (top 24)) f cdv A outer s H E).nox:=⟨rfl,rfl,rfl⟩
 exact ⟨t_mixed K,(pss_cons (ps_set (i:=2) nd rfl (by first | exact Or.inl rfl | exact Or.inr rfl) (pe_lst pa_nil))
 (pss_cons (ps_set (i:=3) nd rfl (by first | exact Or.inl rfl | exact Or.inr rfl) (pe_op op_fdiv (pv 0) pe_int))
 (pss_cons (ps_if (pt_cmpR op_eq (pe_op op_mod (pv 0) pe_int) pe_int (nomark _))
 (pss_cons (ps_for hpo rfl (pi_range1 rfl B.range (pa_cons (pv 1) pa_nil)) (pg_name (i:=4) nd rfl (by first | exact Or.inl rfl | exact Or.inr rfl))
 (pss_cons (ps_expr (pe_bm PySem.F.plainAttrs_list PySem.F.slot_list_append PySem.F.type_list_append mt_append (pv 2) (pa_cons (pe_op op_mod (pv 3) pe_int) pa_nil)))
 (pss_one (ps_set (i:=3) nd rfl (by first | exact Or.inl rfl | exact Or.inr rfl) (pe_op op_fdiv (pv 3) pe_int)))))
 (pss_one (ps_ret (pv 2))))
 pss_nil)
 (pss_cons (ps_set (i:=3) nd rfl (by first | exact Or.inl rfl | exact Or.inr rfl) (pe_op op_mod (pe_op op_add (pe_op op_mul (pe_op op_mod (pv 3) pe_int) pe_int) pe_int) pe_int))
 (pss_cons (ps_for hpo rfl (pi_range1 rfl B.range (pa_cons (pv 1) pa_nil)) (pg_name (i:=4) nd rfl (by first | exact Or.inl rfl | exact Or.inr rfl))
 (pss_cons (ps_set (i:=3) nd rfl (by first | exact Or.inl rfl | exact Or.inr rfl) (pe_op op_mod (pe_op op_add (pe_op op_add (pe_op op_add (pe_op op_mul (pv 3) (pv 3)) (pe_op op_mul pe_int (pv 3))) (pv 4)) pe_int) pe_int))
 (pss_one (ps_expr (pe_bm PySem.F.plainAttrs_list PySem.F.slot_list_append PySem.F.type_list_append mt_append (pv 2) (pa_cons (pv 3) pa_nil))))))
 (pss_one (ps_ret (pv 2)))))))),(rd_mixed rfl h)⟩
theorem ok_law_divisor {x:Ex0.Ad} (T:Exs K mg x) (G:Cn K mg) (F:FunAt K mg "_law_divisor" (top 25) ["_law_one","_law_other"]) (B:Blt mg)  : FnC P w K mg base CX0 1 "_law_divisor" ["_law_one","_law_other"] spDiv:=by
 refine F.ok sc_law_divisor (fun vs H Q E h=>len_div h) (fun f cdv A outer s H vs Q E hr h=>?_)
 have nd:=sc_law_divisor.nd
 have hpo:=fun {M A env}=>@PassesOwn.never M A env
 have hu:=hr.units
 have hu1:=Nat.lt_of_le_of_lt (Nat.add_le_add_left (by decide:1≤64) _) hu
 have own:OwnFr (cxOf CX0 P w K mg base ["_law_one","_law_other","_law_rest"] "_law_divisor" (defScope (top 25)) f cdv A outer s H E).nox:=⟨rfl,rfl,rfl⟩
 exact ⟨tDiv,(pss_cons (ps_while hpo (pt_cmpR op_ne (pv 1) pe_int (nomark _))
 (pss_cons (ps_set (i:=2) nd rfl (by first | exact Or.inl rfl | exact Or.inr rfl) (pe_op op_modN (pv 0) (pv 1)))
 (pss_cons (ps_set (i:=0) nd rfl (by first | exact Or.inl rfl | exact Or.inr rfl) (pv 1))
 (pss_one (ps_set (i:=1) nd rfl (by first | exact Or.inl rfl | exact Or.inr rfl) (pv 2))))))
 (pss_one (ps_ret (pe_callB call_abs rfl B.abs bb_abs (pa_cons (pv 0) pa_nil))))),(by obtain ⟨a,b,rfl,k⟩:=h;exact rd_div a b H _ k)⟩
theorem ok_law_lowest {x:Ex0.Ad} (T:Exs K mg x) (G:Cn K mg) (F:FunAt K mg "_law_lowest" (top 26) ["_law_top","_law_bottom"]) (B:Blt mg) (c_law_divisor:FnC P w K mg base CX0 1 "_law_divisor" ["_law_one","_law_other"] spDiv):FnC P w K mg base CX0 2 "_law_lowest" ["_law_top","_law_bottom"] (spLowP K):=by
 refine F.ok sc_law_lowest (fun vs H Q E h=>len_lowP h) (fun f cdv A outer s H vs Q E hr h=>?_)
 have nd:=sc_law_lowest.nd
 have hpo:=fun {M A env}=>@PassesOwn.never M A env
 have hu:=hr.units
 have hu1:=Nat.lt_of_le_of_lt (Nat.add_le_add_left (by decide:1≤64) _) hu
 have own:OwnFr (cxOf CX0 P w K mg base ["_law_top","_law_bottom","_law_share"] "_law_lowest" (defScope (top 26)) f cdv A outer s H E).nox:=⟨rfl,rfl,rfl⟩
 exact ⟨tLow0,(pss_cons (ps_if (pt_cmpR op_lt (pv 1) pe_int (nomark _))
 pss_never
 pss_nil)
 (pss_cons (ps_if (pt_cmpR op_eq (pv 1) pe_int (nomark _))
 (pss_one (ps_set (i:=1) nd rfl (by first | exact Or.inl rfl | exact Or.inr rfl) pe_int))
 pss_nil)
 (pss_cons (ps_set (i:=2) nd rfl (by first | exact Or.inl rfl | exact Or.inr rfl) (pe_callF c_law_divisor hr rfl (pa_cons (pv 0) (pa_cons (pv 1) pa_nil))))
 (pss_one (ps_ret (pe_tup (pa_cons (pe_op op_fdivW (pv 0) (pv 2)) (pa_cons (pe_op op_fdivW (pv 1) (pv 2)) pa_nil)))))))),(rd_lowP rfl h)⟩
theorem ok_law_base {x:Ex0.Ad} (T:Exs K mg x) (G:Cn K mg) (F:FunAt K mg "_law_base" (top 27) ["_law_cell","_law_size"]) (B:Blt mg)  : FnC P w K mg base CX0 1 "_law_base" ["_law_cell","_law_size"] spBase:=by
 refine F.ok sc_law_base (fun vs H Q E h=>len_base h) (fun f cdv A outer s H vs Q E hr h=>?_)
 have nd:=sc_law_base.nd
 have hpo:=fun {M A env}=>@PassesOwn.never M A env
 have hu:=hr.units
 have hu1:=Nat.lt_of_le_of_lt (Nat.add_le_add_left (by decide:1≤64) _) hu
 have own:OwnFr (cxOf CX0 P w K mg base ["_law_cell","_law_size","_law_number","_law_found","_law_k"] "_law_base" (defScope (top 27)) f cdv A outer s H E).nox:=⟨rfl,rfl,rfl⟩
 exact ⟨t_base K,(pss_cons (ps_set (i:=2) nd rfl (by first | exact Or.inl rfl | exact Or.inr rfl) (pe_op op_mod (pe_op op_add (pe_op op_mul (pe_op op_mod (pv 0) pe_int) pe_int) pe_int) pe_int))
 (pss_cons (ps_set (i:=3) nd rfl (by first | exact Or.inl rfl | exact Or.inr rfl) pe_str)
 (pss_cons (ps_for hpo rfl (pi_range1 rfl B.range (pa_cons (pv 1) pa_nil)) (pg_name (i:=4) nd rfl (by first | exact Or.inl rfl | exact Or.inr rfl))
 (pss_cons (ps_set (i:=2) nd rfl (by first | exact Or.inl rfl | exact Or.inr rfl) (pe_op op_mod (pe_op op_add (pe_op op_add (pe_op op_add (pe_op op_mul (pv 2) (pv 2)) (pe_op op_mul pe_int (pv 2))) (pv 4)) pe_int) pe_int))
 (pss_one (ps_set (i:=3) nd rfl (by first | exact Or.inl rfl | exact Or.inr rfl) (pe_op op_add_str (pv 3) (pe_ix ix_str pe_str (pe_op op_mod (pv 2) pe_int) (fun _ _=>rfl)))))))
 (pss_one (ps_ret (pv 3)))))),(rd_base rfl h)⟩
theorem ok_law_word {x:Ex0.Ad} (T:Exs K mg x) (G:Cn K mg) (F:FunAt K mg "_law_word" (top 28) ["_law_base_here","_law_place","_law_size","_law_k"]) (B:Blt mg)  : FnC P w K mg base CX0 1 "_law_word" ["_law_base_here","_law_place","_law_size","_law_k"] spWord:=by
 refine F.ok sc_law_word (fun vs H Q E h=>len_word h) (fun f cdv A outer s H vs Q E hr h=>?_)
 have nd:=sc_law_word.nd
 have hpo:=fun {M A env}=>@PassesOwn.never M A env
 have hu:=hr.units
 have hu1:=Nat.lt_of_le_of_lt (Nat.add_le_add_left (by decide:1≤64) _) hu
 have own:OwnFr (cxOf CX0 P w K mg base ["_law_base_here","_law_place","_law_size","_law_k","_law_signs","_law_other"] "_law_word" (defScope (top 28)) f cdv A outer s H E).nox:=⟨rfl,rfl,rfl⟩
 exact ⟨t_word K,(pss_cons (ps_set (i:=4) nd rfl (by first | exact Or.inl rfl | exact Or.inr rfl) pe_str)
 (pss_cons (ps_set (i:=5) nd rfl (by first | exact Or.inl rfl | exact Or.inr rfl) (pe_ix ix_str (pv 4) (pe_op op_mod (pe_op op_add (pe_bm PySem.F.plainAttrs_str PySem.F.slot_str_find PySem.F.type_str_find mt_find (pv 4) (pa_cons (pe_ix ix_str (pv 0) (pv 1) (fun _ _=>rfl)) pa_nil)) (pe_op op_mul pe_int (pv 3))) pe_int) (fun _ _=>rfl)))
 (pss_one (ps_ret (pe_op op_add_str (pe_op op_add_str (pe_slice sl_str (pv 0) po_none (po_some (pv 1))) (pv 5)) (pe_slice sl_str (pv 0) (po_some (pe_op op_add (pv 1) pe_int)) (po_some (pv 2)))))))),(rd_word rfl h)⟩
theorem ok_law_words {x:Ex0.Ad} (T:Exs K mg x) (G:Cn K mg) (F:FunAt K mg "_law_words" (top 29) ["_law_script","_law_at","_law_many"]) (B:Blt mg) (c_law_cell_at:FnC P w K mg base CX0 1 "_law_cell_at" ["_law_script","_law_k"] (spCell K)) (c_law_base:FnC P w K mg base CX0 1 "_law_base" ["_law_cell","_law_size"] spBase) (c_law_word:FnC P w K mg base CX0 1 "_law_word" ["_law_base_here","_law_place","_law_size","_law_k"] spWord):FnC P w K mg base CX0 2 "_law_words" ["_law_script","_law_at","_law_many"] (spWords K):=by
 refine F.ok sc_law_words (fun vs H Q E h=>len_words h) (fun f cdv A outer s H vs Q E hr h=>?_)
 have nd:=sc_law_words.nd
 have hpo:=fun {M A env}=>@PassesOwn.never M A env
 have hu:=hr.units
 have hu1:=Nat.lt_of_le_of_lt (Nat.add_le_add_left (by decide:1≤64) _) hu
 have own:OwnFr (cxOf CX0 P w K mg base ["_law_script","_law_at","_law_many","_law_cell","_law_size","_law_base_here","_law_words_here","_law_k","_law_word_here"] "_law_words" (defScope (top 29)) f cdv A outer s H E).nox:=⟨rfl,rfl,rfl⟩
 exact ⟨t_words K,(pss_cons (ps_set (i:=3) nd rfl (by first | exact Or.inl rfl | exact Or.inr rfl) (pe_callF c_law_cell_at hr rfl (pa_cons (pv 0) (pa_cons (pv 1) pa_nil))))
 (pss_cons (ps_set (i:=4) nd rfl (by first | exact Or.inl rfl | exact Or.inr rfl) (pe_op op_add pe_int (pe_op op_mod (pv 3) pe_int)))
 (pss_cons (ps_set (i:=5) nd rfl (by first | exact Or.inl rfl | exact Or.inr rfl) (pe_callF c_law_base hr rfl (pa_cons (pe_callF c_law_cell_at hr rfl (pa_cons (pv 0) (pa_cons (pe_op op_add (pv 1) pe_int) pa_nil))) (pa_cons pe_int pa_nil))))
 (pss_cons (ps_set (i:=6) nd rfl (by first | exact Or.inl rfl | exact Or.inr rfl) (pe_lst pa_nil))
 (pss_cons (ps_for hpo rfl (pi_range1 rfl B.range (pa_cons (pv 2) pa_nil)) (pg_name (i:=7) nd rfl (by first | exact Or.inl rfl | exact Or.inr rfl))
 (pss_cons (ps_set (i:=8) nd rfl (by first | exact Or.inl rfl | exact Or.inr rfl) (pe_callF c_law_word hr rfl (pa_cons (pv 5) (pa_cons (pe_op op_mod (pe_op op_fdiv (pv 3) pe_int) (pv 4)) (pa_cons (pv 4) (pa_cons (pv 7) pa_nil))))))
 (pss_cons (ps_if (pt_cmpR op_eq (pe_op op_mod (pe_op op_fdiv (pv 3) pe_int) pe_int) pe_int (nomark _))
 (pss_one (ps_set (i:=8) nd rfl (by first | exact Or.inl rfl | exact Or.inr rfl) (pe_slice sl_str (pv 5) po_none (po_some (pe_op op_add (pv 7) pe_int)))))
 pss_nil)
 (pss_one (ps_expr (pe_bm PySem.F.plainAttrs_list PySem.F.slot_list_append PySem.F.type_list_append mt_append (pv 6) (pa_cons (pv 8) pa_nil)))))))
 (pss_one (ps_ret (pv 6)))))))),(rd_words rfl h)⟩
theorem ok_law_heap {x:Ex0.Ad} (T:Exs K mg x) (G:Cn K mg) (F:FunAt K mg "_law_heap" (top 30) ["_law_number","_law_many","_law_most"]) (B:Blt mg)  : FnC P w K mg base CX0 1 "_law_heap" ["_law_number","_law_many","_law_most"] (spHeap K):=by
 refine F.ok sc_law_heap (fun vs H Q E h=>len_heap h) (fun f cdv A outer s H vs Q E hr h=>?_)
 have nd:=sc_law_heap.nd
 have hpo:=fun {M A env}=>@PassesOwn.never M A env
 have hu:=hr.units
 have hu1:=Nat.lt_of_le_of_lt (Nat.add_le_add_left (by decide:1≤64) _) hu
 have own:OwnFr (cxOf CX0 P w K mg base ["_law_number","_law_many","_law_most","_law_found","_law_k"] "_law_heap" (defScope (top 30)) f cdv A outer s H E).nox:=⟨rfl,rfl,rfl⟩
 exact ⟨t_heap K,(pss_cons (ps_set (i:=3) nd rfl (by first | exact Or.inl rfl | exact Or.inr rfl) (pe_lst pa_nil))
 (pss_cons (ps_for hpo rfl (pi_range1 rfl B.range (pa_cons (pv 1) pa_nil)) (pg_name (i:=4) nd rfl (by first | exact Or.inl rfl | exact Or.inr rfl))
 (pss_cons (ps_expr (pe_bm PySem.F.plainAttrs_list PySem.F.slot_list_append PySem.F.type_list_append mt_append (pv 3) (pa_cons (pe_op op_mod (pv 0) (pe_op op_add (pv 2) pe_int)) pa_nil)))
 (pss_one (ps_set (i:=0) nd rfl (by first | exact Or.inl rfl | exact Or.inr rfl) (pe_op op_fdiv (pv 0) (pe_op op_add (pv 2) pe_int))))))
 (pss_one (ps_ret (pe_callTy call_tuple_of rfl B.tuple bb_tuple (pa_cons (pv 3) pa_nil)))))),(rd_heap rfl h)⟩
theorem ok_law_pool {x:Ex0.Ad} (T:Exs K mg x) (G:Cn K mg) (F:FunAt K mg "_law_pool" (top 31) ["_law_script","_law_at","_law_many"]) (B:Blt mg) (c_law_cell_at:FnC P w K mg base CX0 1 "_law_cell_at" ["_law_script","_law_k"] (spCell K)) (c_law_heap:FnC P w K mg base CX0 1 "_law_heap" ["_law_number","_law_many","_law_most"] (spHeap K)) (c_law_mixed:FnC P w K mg base CX0 1 "_law_mixed" ["_law_cell","_law_many"] (spMixed K)):FnC P w K mg base CX0 2 "_law_pool" ["_law_script","_law_at","_law_many"] (spPool K):=by
 refine F.ok sc_law_pool (fun vs H Q E h=>len_pool h) (fun f cdv A outer s H vs Q E hr h=>?_)
 have nd:=sc_law_pool.nd
 have hpo:=fun {M A env}=>@PassesOwn.never M A env
 have hu:=hr.units
 have hu1:=Nat.lt_of_le_of_lt (Nat.add_le_add_left (by decide:1≤64) _) hu
 have own:OwnFr (cxOf CX0 P w K mg base ["_law_script","_law_at","_law_many","_law_first","_law_most","_law_found","_law_k","_law_heap_here"] "_law_pool" (defScope (top 31)) f cdv A outer s H E).nox:=⟨rfl,rfl,rfl⟩
 exact ⟨t_pool K,(pss_cons (ps_set (i:=3) nd rfl (by first | exact Or.inl rfl | exact Or.inr rfl) (pe_callF c_law_cell_at hr rfl (pa_cons (pv 0) (pa_cons (pv 1) pa_nil))))
 (pss_cons (ps_set (i:=4) nd rfl (by first | exact Or.inl rfl | exact Or.inr rfl) (pe_ix ix_list (pe_lst (pa_cons pe_int (pa_cons pe_int (pa_cons pe_int (pa_cons pe_int pa_nil))))) (pe_op op_mod (pv 3) pe_int) (fun _ _=>rfl)))
 (pss_cons (ps_set (i:=5) nd rfl (by first | exact Or.inl rfl | exact Or.inr rfl) (pe_lst pa_nil))
 (pss_cons (ps_for hpo rfl (pi_range1 rfl B.range (pa_cons (pe_op op_add pe_int (pe_op op_mod (pe_op op_fdiv (pv 3) pe_int) pe_int)) pa_nil)) (pg_name (i:=6) nd rfl (by first | exact Or.inl rfl | exact Or.inr rfl))
 (pss_cons (ps_set (i:=7) nd rfl (by first | exact Or.inl rfl | exact Or.inr rfl) (pe_callF c_law_heap hr rfl (pa_cons (pe_ix ix_list (pe_callF c_law_mixed hr rfl (pa_cons (pe_callF c_law_cell_at hr rfl (pa_cons (pv 0) (pa_cons (pe_op op_add (pe_op op_add (pv 1) pe_int) (pv 6)) pa_nil))) (pa_cons pe_int pa_nil))) pe_int (fun _ _=>rfl)) (pa_cons (pv 2) (pa_cons (pv 4) pa_nil)))))
 (pss_one (ps_if (pt_cmpR (op_notInD hu) (pv 7) (pv 5) (by with_unfolding_all rfl))
 (pss_one (ps_expr (pe_bm PySem.F.plainAttrs_list PySem.F.slot_list_append PySem.F.type_list_append mt_append (pv 5) (pa_cons (pv 7) pa_nil))))
 pss_nil))))
 (pss_cons (ps_if (pt_cmpR op_lt (pe_callB call_len_seq rfl B.len bb_len (pa_cons (pv 5) pa_nil)) pe_int (nomark _))
 (pss_one (ps_expr (pe_bm PySem.F.plainAttrs_list PySem.F.slot_list_append PySem.F.type_list_append mt_append (pv 5) (pa_cons (pe_callTy call_tuple_of rfl B.tuple bb_tuple (pa_cons (pe_op op_cat (pe_lst (pa_cons (pe_callTy call_int1 rfl B.int bb_int (pa_cons (pe_cmpR op_eq (pe_ix ix_tup (pe_ix ix_list (pv 5) pe_int (fun _ _=>rfl)) pe_int (fun _ _=>rfl)) pe_int (nomark _)) pa_nil)) pa_nil)) (pe_lc (M:=["_law_script","_law_at","_law_many","_law_first","_law_most","_law_found","#_law_k","_law_heap_here"]) (by show CompS (defScope (top 31)) ["_law_script","_law_at","_law_many","_law_first","_law_most","_law_found","_law_k","_law_heap_here"] ["_law_script","_law_at","_law_many","_law_first","_law_most","_law_found","#_law_k","_law_heap_here"] _ _;exact ⟨rfl,by decide +kernel,by decide +kernel,by decide +kernel,by decide +kernel,rfl,by decide +kernel,by decide +kernel,by decide +kernel⟩) nd rfl (pi_range1 rfl B.range (pa_cons (pe_op op_sub (pv 2) pe_int) pa_nil)) (fun _ _ _ _ _=>pe_int))) pa_nil)) pa_nil))))
 pss_nil)
 (pss_one (ps_ret (pv 5)))))))),(rd_pool rfl h)⟩
theorem ok_law_pace {x:Ex0.Ad} (T:Exs K mg x) (G:Cn K mg) (F:FunAt K mg "_law_pace" (top 32) ["_law_number","_law_other","_law_great"]) (B:Blt mg) (c_law_lowest:FnC P w K mg base CX0 2 "_law_lowest" ["_law_top","_law_bottom"] (spLowP K)):FnC P w K mg base CX0 3 "_law_pace" ["_law_number","_law_other","_law_great"] (spPace K):=by
 refine F.ok sc_law_pace (fun vs H Q E h=>len_pace h) (fun f cdv A outer s H vs Q E hr h=>?_)
 have nd:=sc_law_pace.nd
 have hpo:=fun {M A env}=>@PassesOwn.never M A env
 have hu:=hr.units
 have hu1:=Nat.lt_of_le_of_lt (Nat.add_le_add_left (by decide:1≤64) _) hu
 have own:OwnFr (cxOf CX0 P w K mg base ["_law_number","_law_other","_law_great"] "_law_pace" (defScope (top 32)) f cdv A outer s H E).nox:=⟨rfl,rfl,rfl⟩
 exact ⟨t_pace K,(pss_cons (ps_if (pt_val (pv 2))
 (pss_one (ps_ret (pe_callF c_law_lowest hr rfl (pa_cons (pe_op op_add pe_int (pe_op op_mod (pe_op op_mul (pv 0) pe_int) (pe_op op_sub (pe_op op_pow pe_int pe_int) pe_int))) (pa_cons (pe_op op_add pe_int (pe_op op_mod (pe_op op_mul (pv 1) pe_int) (pe_op op_sub (pe_op op_pow pe_int pe_int) pe_int))) pa_nil)))))
 pss_nil)
 (pss_one (ps_ret (pe_callF c_law_lowest hr rfl (pa_cons (pe_op op_add pe_int (pe_op op_mod (pv 0) pe_int)) (pa_cons (pe_op op_add pe_int (pe_op op_mod (pv 1) pe_int)) pa_nil)))))),(rd_pace rfl h)⟩
theorem ok_law_turnings {x:Ex0.Ad} (T:Exs K mg x) (G:Cn K mg) (F:FunAt K mg "_law_turnings" (top 33) ["_law_script","_law_at","_law_pool_here"]) (B:Blt mg) (c_law_cell_at:FnC P w K mg base CX0 3 "_law_cell_at" ["_law_script","_law_k"] (spCell K)) (c_law_mixed:FnC P w K mg base CX0 3 "_law_mixed" ["_law_cell","_law_many"] (spMixed K)) (c_law_pace:FnC P w K mg base CX0 3 "_law_pace" ["_law_number","_law_other","_law_great"] (spPace K)):FnC P w K mg base CX0 4 "_law_turnings" ["_law_script","_law_at","_law_pool_here"] (spTurn K):=by
 refine F.ok sc_law_turnings (fun vs H Q E h=>len_turn h) (fun f cdv A outer s H vs Q E hr h=>?_)
 have nd:=sc_law_turnings.nd
 have hpo:=fun {M A env}=>@PassesOwn.never M A env
 have hu:=hr.units
 have hu1:=Nat.lt_of_le_of_lt (Nat.add_le_add_left (by decide:1≤64) _) hu
 have own:OwnFr (cxOf CX0 P w K mg base ["_law_script","_law_at","_law_pool_here","_law_first","_law_pairs","_law_found","_law_k","_law_xs","_law_one","_law_two","_law_pair","_law_pace_here"] "_law_turnings" (defScope (top 33)) f cdv A outer s H E).nox:=⟨rfl,rfl,rfl⟩
 exact ⟨t_turn K,(pss_cons (ps_set (i:=3) nd rfl (by first | exact Or.inl rfl | exact Or.inr rfl) (pe_callF c_law_cell_at hr rfl (pa_cons (pv 0) (pa_cons (pv 1) pa_nil))))
 (pss_cons (ps_set (i:=4) nd rfl (by first | exact Or.inl rfl | exact Or.inr rfl) (pe_lst pa_nil))
 (pss_cons (ps_set (i:=5) nd rfl (by first | exact Or.inl rfl | exact Or.inr rfl) (pe_lst pa_nil))
 (pss_cons (ps_for hpo rfl (pi_range1 rfl B.range (pa_cons (pe_op op_add pe_int (pe_op op_mod (pe_op op_fdiv (pv 3) pe_int) pe_int)) pa_nil)) (pg_name (i:=6) nd rfl (by first | exact Or.inl rfl | exact Or.inr rfl))
 (pss_cons (ps_set (i:=7) nd rfl (by first | exact Or.inl rfl | exact Or.inr rfl) (pe_callF c_law_mixed hr rfl (pa_cons (pe_callF c_law_cell_at hr rfl (pa_cons (pv 0) (pa_cons (pe_op op_add (pe_op op_add (pv 1) pe_int) (pv 6)) pa_nil))) (pa_cons pe_int pa_nil))))
 (pss_cons (ps_set (i:=8) nd rfl (by first | exact Or.inl rfl | exact Or.inr rfl) (pe_op op_mod (pe_ix ix_list (pv 7) pe_int (fun _ _=>rfl)) (pe_callB call_len_seq rfl B.len bb_len (pa_cons (pv 2) pa_nil))))
 (pss_cons (ps_set (i:=9) nd rfl (by first | exact Or.inl rfl | exact Or.inr rfl) (pe_op op_mod (pe_op op_add (pe_op op_add (pv 8) pe_int) (pe_op op_mod (pe_ix ix_list (pv 7) pe_int (fun _ _=>rfl)) (pe_op op_sub (pe_callB call_len_seq rfl B.len bb_len (pa_cons (pv 2) pa_nil)) pe_int))) (pe_callB call_len_seq rfl B.len bb_len (pa_cons (pv 2) pa_nil))))
 (pss_cons (ps_if (pt_cmpR op_eq (pe_op op_mod (pv 3) pe_int) pe_int (nomark _))
 (pss_cons (ps_set (i:=8) nd rfl (by first | exact Or.inl rfl | exact Or.inr rfl) (pe_op op_mod (pv 6) (pe_callB call_len_seq rfl B.len bb_len (pa_cons (pv 2) pa_nil))))
 (pss_one (ps_set (i:=9) nd rfl (by first | exact Or.inl rfl | exact Or.inr rfl) (pe_op op_mod (pe_op op_add (pv 6) pe_int) (pe_callB call_len_seq rfl B.len bb_len (pa_cons (pv 2) pa_nil))))))
 pss_nil)
 (pss_one (ps_for hpo rfl (pi_list (pe_slice sl_list (pe_lst (pa_cons (pe_tup (pa_cons (pv 8) (pa_cons (pv 9) pa_nil))) (pa_cons (pe_tup (pa_cons (pv 9) (pa_cons (pv 8) pa_nil))) pa_nil))) po_none (po_some (pe_op op_add pe_int (pe_callTy call_int1 rfl B.int bb_int (pa_cons (pe_cmpR op_eq (pe_op op_mod (pv 3) pe_int) pe_int (nomark _)) pa_nil)))))) (pg_name (i:=10) nd rfl (by first | exact Or.inl rfl | exact Or.inr rfl))
 (pss_one (ps_if (PW.pt (pw_and (pt_cmpR (op_notInD hu) (pv 10) (pv 4) (by with_unfolding_all rfl)) (pw_and1 (pt_cmpR op_lt (pe_callB call_len_seq rfl B.len bb_len (pa_cons (pv 4) pa_nil)) pe_int (nomark _)))))
 (pss_cons (ps_expr (pe_bm PySem.F.plainAttrs_list PySem.F.slot_list_append PySem.F.type_list_append mt_append (pv 4) (pa_cons (pv 10) pa_nil)))
 (pss_cons (ps_set (i:=11) nd rfl (by first | exact Or.inl rfl | exact Or.inr rfl) (pe_callF c_law_pace hr rfl (pa_cons (pe_ix ix_list (pv 7) (pe_op op_add pe_int (pe_op op_mod (pe_ix ix_tup (pv 10) pe_int (fun _ _=>rfl)) pe_int)) (fun _ _=>rfl)) (pa_cons (pe_ix ix_list (pv 7) (pe_op op_add pe_int (pe_op op_mod (pe_ix ix_tup (pv 10) pe_int (fun _ _=>rfl)) pe_int)) (fun _ _=>rfl)) (pa_cons (pe_cmpR op_eq (pe_op op_mod (pe_op op_fdiv (pv 3) pe_int) pe_int) pe_int (nomark _)) pa_nil)))))
 (pss_one (ps_expr (pe_bm PySem.F.plainAttrs_list PySem.F.slot_list_append PySem.F.type_list_append mt_append (pv 5) (pa_cons (pe_tup (pa_cons (pe_ix ix_list (pv 2) (pe_ix ix_tup (pv 10) pe_int (fun _ _=>rfl)) (fun _ _=>rfl)) (pa_cons (pe_ix ix_list (pv 2) (pe_ix ix_tup (pv 10) pe_int (fun _ _=>rfl)) (fun _ _=>rfl)) (pa_cons (pv 11) pa_nil)))) pa_nil))))))
 pss_nil)))))))))
 (pss_one (ps_ret (pv 5))))))),(rd_turn rfl h)⟩
theorem ok_law_vessel {x:Ex0.Ad} (T:Exs K mg x) (G:Cn K mg) (F:FunAt K mg "_law_vessel" (top 34) ["_law_script"]) (B:Blt mg) (c_law_words:FnC P w K mg base CX0 4 "_law_words" ["_law_script","_law_at","_law_many"] (spWords K)) (c_law_cell_at:FnC P w K mg base CX0 4 "_law_cell_at" ["_law_script","_law_k"] (spCell K)) (c_law_turnings:FnC P w K mg base CX0 4 "_law_turnings" ["_law_script","_law_at","_law_pool_here"] (spTurn K)) (c_law_pool:FnC P w K mg base CX0 4 "_law_pool" ["_law_script","_law_at","_law_many"] (spPool K)):FnC P w K mg base CX0 5 "_law_vessel" ["_law_script"] (spVessel K):=by
 refine F.ok sc_law_vessel (fun vs H Q E h=>len_vessel h) (fun f cdv A outer s H vs Q E hr h=>?_)
 have nd:=sc_law_vessel.nd
 have hpo:=fun {M A env}=>@PassesOwn.never M A env
 have hu:=hr.units
 have hu1:=Nat.lt_of_le_of_lt (Nat.add_le_add_left (by decide:1≤64) _) hu
 have own:OwnFr (cxOf CX0 P w K mg base ["_law_script","_law_many","_law_words_here"] "_law_vessel" (defScope (top 34)) f cdv A outer s H E).nox:=⟨rfl,rfl,rfl⟩
 exact ⟨t_vessel K,(pss_cons (ps_set (i:=1) nd rfl (by first | exact Or.inl rfl | exact Or.inr rfl) (pe_op op_add pe_int (pe_op op_mod (pe_callF c_law_cell_at hr rfl (pa_cons (pv 0) (pa_cons pe_int pa_nil))) pe_int)))
 (pss_cons (ps_set (i:=2) nd rfl (by first | exact Or.inl rfl | exact Or.inr rfl) (pe_callF c_law_words hr rfl (pa_cons (pv 0) (pa_cons pe_int (pa_cons (pv 1) pa_nil)))))
 (pss_one (ps_ret (pe_tup (pa_cons (pe_callTy call_tuple_of rfl B.tuple bb_tuple (pa_cons (pv 2) pa_nil)) (pa_cons (pe_callTy call_tuple_of rfl B.tuple bb_tuple (pa_cons (pe_callF c_law_turnings hr rfl (pa_cons (pv 0) (pa_cons pe_int (pa_cons (pe_callF c_law_pool hr rfl (pa_cons (pv 0) (pa_cons pe_int (pa_cons (pv 1) pa_nil)))) pa_nil)))) pa_nil)) pa_nil))))))),(rd_vessel rfl h)⟩
theorem ok_law_whole {x:Ex0.Ad} (T:Exs K mg x) (G:Cn K mg) (F:FunAt K mg "_law_whole" (top 35) ["_law_found"]) (B:Blt mg)  : FnC P w K mg base CX0 1 "_law_whole" ["_law_found"] spWhole:=by
 refine F.ok sc_law_whole (fun vs H Q E h=>len_whole h) (fun f cdv A outer s H vs Q E hr h=>?_)
 have nd:=sc_law_whole.nd
 have hpo:=fun {M A env}=>@PassesOwn.never M A env
 have hu:=hr.units
 have hu1:=Nat.lt_of_le_of_lt (Nat.add_le_add_left (by decide:1≤64) _) hu
 have own:OwnFr (cxOf CX0 P w K mg base ["_law_found"] "_law_whole" (defScope (top 35)) f cdv A outer s H E).nox:=⟨rfl,rfl,rfl⟩
 exact ⟨tWhole K,(pss_one (ps_ret (pe_and (pe_callB call_isi rfl B.isinstance bb_isinstance (pa_cons (pv 0) (pa_cons (pe_bltn rfl B.int bb_int rfl) pa_nil))) (pe_one (pe_not (pe_callB call_isi rfl B.isinstance bb_isinstance (pa_cons (pv 0) (pa_cons (pe_bltn rfl B.bool bb_bool rfl) pa_nil)))))))),(by obtain ⟨i,rfl,k⟩:=h;exact rd_whole k)⟩
theorem ok_same0 (F:FunAt K mg "_law_same" (top 36) ["_law_found","_law_due_here"]) (B:Blt mg):FnC P w K mg base CX0 1 "_law_same" ["_law_found","_law_due_here"] (spSame K 0):=by
 refine F.ok sc_law_same (fun vs H Q E h=>len_same h) (fun f cdv A outer s H vs Q E hr h=>?_)
 have nd:=sc_law_same.nd
 have hpo:=fun {M A env}=>@PassesOwn.never M A env
 have hu:=hr.units
 exact ⟨t_same0 K,(pss_cons (ps_if (PW.pt (pw_or (pt_val (pe_callB call_isi rfl B.isinstance bb_isinstance (pa_cons (pv 1) (pa_cons (pe_bltn rfl B.tuple bb_tuple rfl) pa_nil)))) (pw_or1 (pt_val (pe_callB call_isi rfl B.isinstance bb_isinstance (pa_cons (pv 1) (pa_cons (pe_bltn rfl B.list bb_list rfl) pa_nil)))))))
 pss_never
 pss_nil)
 (pss_cons (ps_if (pt_val (pe_callB call_isi rfl B.isinstance bb_isinstance (pa_cons (pv 1) (pa_cons (pe_bltn rfl B.bool bb_bool rfl) pa_nil))))
 (pss_one (ps_ret (pe_and (pe_callB call_isi rfl B.isinstance bb_isinstance (pa_cons (pv 0) (pa_cons (pe_bltn rfl B.bool bb_bool rfl) pa_nil))) (pe_one (pe_cmpR op_eq (pv 0) (pv 1) (nomark _))))))
 pss_nil)
 (pss_cons (ps_if (pt_val (pe_callB call_isi rfl B.isinstance bb_isinstance (pa_cons (pv 1) (pa_cons (pe_bltn rfl B.int bb_int rfl) pa_nil))))
 (pss_one (ps_ret (pe_and (pe_callB call_isi rfl B.isinstance bb_isinstance (pa_cons (pv 0) (pa_cons (pe_bltn rfl B.int bb_int rfl) pa_nil))) (pe_and (pe_not (pe_callB call_isi rfl B.isinstance bb_isinstance (pa_cons (pv 0) (pa_cons (pe_bltn rfl B.bool bb_bool rfl) pa_nil)))) (pe_one (pe_cmpR op_eq (pv 0) (pv 1) (nomark _)))))))
 pss_nil)
 (pss_cons (ps_if (pt_val (pe_callB call_isi rfl B.isinstance bb_isinstance (pa_cons (pv 1) (pa_cons (pe_bltn rfl B.str bb_str rfl) pa_nil))))
 (pss_one (ps_ret (pe_and (pe_callB call_isi rfl B.isinstance bb_isinstance (pa_cons (pv 0) (pa_cons (pe_bltn rfl B.str bb_str rfl) pa_nil))) (pe_one (pe_cmpR op_eq (pv 0) (pv 1) (nomark _))))))
 pss_nil)
 (pss_one (ps_ret (pe_and (pe_cmpR op_isN (pv 1) pe_non (nomark _)) (pe_one (pe_cmpR op_isN (pv 0) pe_non (nomark _)))))))))),(rd_same0 rfl h)⟩
theorem ok_sameS {m:Nat} (F:FunAt K mg "_law_same" (top 36) ["_law_found","_law_due_here"]) (B:Blt mg) (c_law_same:FnC P w K mg base CX0 (m+1) "_law_same" ["_law_found","_law_due_here"] (spSame K m)):FnC P w K mg base CX0 (m+2) "_law_same" ["_law_found","_law_due_here"] (spSame K (m+1)):=by
 refine F.ok sc_law_same (fun vs H Q E h=>len_same h) (fun f cdv A outer s H vs Q E hr h=>?_)
 have nd:=sc_law_same.nd
 have hpo:=fun {M A env}=>@PassesOwn.never M A env
 have hu:=hr.units
 exact ⟨t_same K m,(pss_cons (ps_if (PW.pt (pw_or (pt_val (pe_callB call_isi rfl B.isinstance bb_isinstance (pa_cons (pv 1) (pa_cons (pe_bltn rfl B.tuple bb_tuple rfl) pa_nil)))) (pw_or1 (pt_val (pe_callB call_isi rfl B.isinstance bb_isinstance (pa_cons (pv 1) (pa_cons (pe_bltn rfl B.list bb_list rfl) pa_nil)))))))
 (pss_cons (ps_if (PW.pt (pw_or (pt_cmpR op_ne (pe_callB call_isi rfl B.isinstance bb_isinstance (pa_cons (pv 0) (pa_cons (pe_bltn rfl B.tuple bb_tuple rfl) pa_nil))) (pe_callB call_isi rfl B.isinstance bb_isinstance (pa_cons (pv 1) (pa_cons (pe_bltn rfl B.tuple bb_tuple rfl) pa_nil))) (nomark _)) (pw_or1 (pt_cmpR op_ne (pe_callB call_isi rfl B.isinstance bb_isinstance (pa_cons (pv 0) (pa_cons (pe_bltn rfl B.list bb_list rfl) pa_nil))) (pe_callB call_isi rfl B.isinstance bb_isinstance (pa_cons (pv 1) (pa_cons (pe_bltn rfl B.list bb_list rfl) pa_nil))) (nomark _)))))
 (pss_one (ps_ret pe_bl))
 pss_nil)
 (pss_cons (ps_if (pt_cmpR op_ne (pe_callB call_len_seq rfl B.len bb_len (pa_cons (pv 0) pa_nil)) (pe_callB call_len_seq rfl B.len bb_len (pa_cons (pv 1) pa_nil)) (nomark _))
 (pss_one (ps_ret pe_bl))
 pss_nil)
 (pss_cons (ps_for hpo rfl (pi_range1 rfl B.range (pa_cons (pe_callB call_len_seq rfl B.len bb_len (pa_cons (pv 1) pa_nil)) pa_nil)) (pg_name (i:=2) nd rfl (by first | exact Or.inl rfl | exact Or.inr rfl))
 (pss_one (ps_if (pt_not (pt_val (pe_callF c_law_same hr rfl (pa_cons (pe_ix ix_seq (pv 0) (pv 2) (fun _ _=>rfl)) (pa_cons (pe_ix ix_seq (pv 1) (pv 2) (fun _ _=>rfl)) pa_nil)))))
 (pss_one (ps_ret pe_bl))
 pss_nil)))
 (pss_one (ps_ret pe_bl)))))
 pss_nil)
 (pss_cons (ps_if (pt_val (pe_callB call_isi rfl B.isinstance bb_isinstance (pa_cons (pv 1) (pa_cons (pe_bltn rfl B.bool bb_bool rfl) pa_nil))))
 (pss_one (ps_ret (pe_and (pe_callB call_isi rfl B.isinstance bb_isinstance (pa_cons (pv 0) (pa_cons (pe_bltn rfl B.bool bb_bool rfl) pa_nil))) (pe_one (pe_cmpR op_eq (pv 0) (pv 1) (nomark _))))))
 pss_nil)
 (pss_cons (ps_if (pt_val (pe_callB call_isi rfl B.isinstance bb_isinstance (pa_cons (pv 1) (pa_cons (pe_bltn rfl B.int bb_int rfl) pa_nil))))
 (pss_one (ps_ret (pe_and (pe_callB call_isi rfl B.isinstance bb_isinstance (pa_cons (pv 0) (pa_cons (pe_bltn rfl B.int bb_int rfl) pa_nil))) (pe_and (pe_not (pe_callB call_isi rfl B.isinstance bb_isinstance (pa_cons (pv 0) (pa_cons (pe_bltn rfl B.bool bb_bool rfl) pa_nil)))) (pe_one (pe_cmpR op_eq (pv 0) (pv 1) (nomark _)))))))
 pss_nil)
 (pss_cons (ps_if (pt_val (pe_callB call_isi rfl B.isinstance bb_isinstance (pa_cons (pv 1) (pa_cons (pe_bltn rfl B.str bb_str rfl) pa_nil))))
 (pss_one (ps_ret (pe_and (pe_callB call_isi rfl B.isinstance bb_isinstance (pa_cons (pv 0) (pa_cons (pe_bltn rfl B.str bb_str rfl) pa_nil))) (pe_one (pe_cmpR op_eq (pv 0) (pv 1) (nomark _))))))
 pss_nil)
 (pss_one (ps_ret (pe_and (pe_cmpR op_isN (pv 1) pe_non (nomark _)) (pe_one (pe_cmpR op_isN (pv 0) pe_non (nomark _)))))))))),(rd_same rfl h)⟩
theorem ok_same (F:FunAt K mg "_law_same" (top 36) ["_law_found","_law_due_here"]) (B:Blt mg):∀m:Nat,FnC P w K mg base CX0 (m+1) "_law_same" ["_law_found","_law_due_here"] (spSame K m)
 | 0=>ok_same0 F B
 | m+1=>ok_sameS F B (ok_same F B m)
theorem ok_law_kinds {x:Ex0.Ad} (T:Exs K mg x) (G:Cn K mg) (F:FunAt K mg "_law_kinds" (top 37) ["_law_e"]) (B:Blt mg)  : FnC P w K mg base CX0 1 "_law_kinds" ["_law_e"] (spKinds x):=by
 refine F.ok sc_law_kinds (fun vs H Q E h=>len_kinds h) (fun f cdv A outer s H vs Q E hr h=>?_)
 have nd:=sc_law_kinds.nd
 have hpo:=fun {M A env}=>@PassesOwn.never M A env
 have hu:=hr.units
 have hu1:=Nat.lt_of_le_of_lt (Nat.add_le_add_left (by decide:1≤64) _) hu
 have own:OwnFr (cxOf CX0 P w K mg base ["_law_e","_law_found"] "_law_kinds" (defScope (top 37)) f cdv A outer s H E).nox:=⟨rfl,rfl,rfl⟩
 exact ⟨Ex0.tKinds K x,(pss_cons (ps_set (i:=1) nd rfl (by first | exact Or.inl rfl | exact Or.inr rfl) (pe_lst pa_nil))
 (pss_cons (ps_if (pt_val (pe_callB call_isiE rfl B.isinstance bb_isinstance (pa_cons (pv 0) (pa_cons (pe_glob rfl T.m0 rfl) pa_nil))))
 (pss_one (ps_expr (pe_bm PySem.F.plainAttrs_list PySem.F.slot_list_append PySem.F.type_list_append mt_append (pv 1) (pa_cons pe_str pa_nil))))
 pss_nil)
 (pss_cons (ps_if (pt_val (pe_callB call_isiE rfl B.isinstance bb_isinstance (pa_cons (pv 0) (pa_cons (pe_glob rfl T.m1 rfl) pa_nil))))
 (pss_one (ps_expr (pe_bm PySem.F.plainAttrs_list PySem.F.slot_list_append PySem.F.type_list_append mt_append (pv 1) (pa_cons pe_str pa_nil))))
 pss_nil)
 (pss_cons (ps_if (pt_val (pe_callB call_isiE rfl B.isinstance bb_isinstance (pa_cons (pv 0) (pa_cons (pe_glob rfl T.m2 rfl) pa_nil))))
 (pss_one (ps_expr (pe_bm PySem.F.plainAttrs_list PySem.F.slot_list_append PySem.F.type_list_append mt_append (pv 1) (pa_cons pe_str pa_nil))))
 pss_nil)
 (pss_cons (ps_if (pt_val (pe_callB call_isiE rfl B.isinstance bb_isinstance (pa_cons (pv 0) (pa_cons (pe_glob rfl T.m3 rfl) pa_nil))))
 (pss_one (ps_expr (pe_bm PySem.F.plainAttrs_list PySem.F.slot_list_append PySem.F.type_list_append mt_append (pv 1) (pa_cons pe_str pa_nil))))
 pss_nil)
 (pss_cons (ps_if (pt_val (pe_callB call_isiE rfl B.isinstance bb_isinstance (pa_cons (pv 0) (pa_cons (pe_glob rfl T.m4 rfl) pa_nil))))
 (pss_one (ps_expr (pe_bm PySem.F.plainAttrs_list PySem.F.slot_list_append PySem.F.type_list_append mt_append (pv 1) (pa_cons pe_str pa_nil))))
 pss_nil)
 (pss_cons (ps_if (pt_val (pe_callB call_isiE rfl B.isinstance bb_isinstance (pa_cons (pv 0) (pa_cons (pe_glob rfl T.m5 rfl) pa_nil))))
 (pss_one (ps_expr (pe_bm PySem.F.plainAttrs_list PySem.F.slot_list_append PySem.F.type_list_append mt_append (pv 1) (pa_cons pe_str pa_nil))))
 pss_nil)
 (pss_cons (ps_if (pt_val (pe_callB call_isiE rfl B.isinstance bb_isinstance (pa_cons (pv 0) (pa_cons (pe_glob rfl T.m6 rfl) pa_nil))))
 (pss_one (ps_expr (pe_bm PySem.F.plainAttrs_list PySem.F.slot_list_append PySem.F.type_list_append mt_append (pv 1) (pa_cons pe_str pa_nil))))
 pss_nil)
 (pss_cons (ps_if (pt_val (pe_callB call_isiE rfl B.isinstance bb_isinstance (pa_cons (pv 0) (pa_cons (pe_glob rfl T.m7 rfl) pa_nil))))
 (pss_one (ps_expr (pe_bm PySem.F.plainAttrs_list PySem.F.slot_list_append PySem.F.type_list_append mt_append (pv 1) (pa_cons pe_str pa_nil))))
 pss_nil)
 (pss_cons (ps_if (pt_val (pe_callB call_isiE rfl B.isinstance bb_isinstance (pa_cons (pv 0) (pa_cons (pe_glob rfl T.m8 rfl) pa_nil))))
 (pss_one (ps_expr (pe_bm PySem.F.plainAttrs_list PySem.F.slot_list_append PySem.F.type_list_append mt_append (pv 1) (pa_cons pe_str pa_nil))))
 pss_nil)
 (pss_cons (ps_if (pt_val (pe_callB call_isiE rfl B.isinstance bb_isinstance (pa_cons (pv 0) (pa_cons (pe_glob rfl T.m9 rfl) pa_nil))))
 (pss_one (ps_expr (pe_bm PySem.F.plainAttrs_list PySem.F.slot_list_append PySem.F.type_list_append mt_append (pv 1) (pa_cons pe_str pa_nil))))
 pss_nil)
 (pss_cons (ps_if (pt_val (pe_callB call_isiE rfl B.isinstance bb_isinstance (pa_cons (pv 0) (pa_cons (pe_glob rfl T.m10 rfl) pa_nil))))
 (pss_one (ps_expr (pe_bm PySem.F.plainAttrs_list PySem.F.slot_list_append PySem.F.type_list_append mt_append (pv 1) (pa_cons pe_str pa_nil))))
 pss_nil)
 (pss_cons (ps_if (pt_val (pe_callB call_isiE rfl B.isinstance bb_isinstance (pa_cons (pv 0) (pa_cons (pe_glob rfl T.m11 rfl) pa_nil))))
 (pss_one (ps_expr (pe_bm PySem.F.plainAttrs_list PySem.F.slot_list_append PySem.F.type_list_append mt_append (pv 1) (pa_cons pe_str pa_nil))))
 pss_nil)
 (pss_cons (ps_if (pt_val (pe_callB call_isiE rfl B.isinstance bb_isinstance (pa_cons (pv 0) (pa_cons (pe_glob rfl T.m12 rfl) pa_nil))))
 (pss_one (ps_expr (pe_bm PySem.F.plainAttrs_list PySem.F.slot_list_append PySem.F.type_list_append mt_append (pv 1) (pa_cons pe_str pa_nil))))
 pss_nil)
 (pss_cons (ps_if (pt_val (pe_callB call_isiE rfl B.isinstance bb_isinstance (pa_cons (pv 0) (pa_cons (pe_glob rfl T.m13 rfl) pa_nil))))
 (pss_one (ps_expr (pe_bm PySem.F.plainAttrs_list PySem.F.slot_list_append PySem.F.type_list_append mt_append (pv 1) (pa_cons pe_str pa_nil))))
 pss_nil)
 (pss_cons (ps_if (pt_not (pt_val (pe_callB call_isiE rfl B.isinstance bb_isinstance (pa_cons (pv 0) (pa_cons (pe_bltn rfl T.mv bb_ValueError rfl) pa_nil)))))
 (pss_one (ps_expr (pe_bm PySem.F.plainAttrs_list PySem.F.slot_list_append PySem.F.type_list_append mt_append (pv 1) (pa_cons pe_str pa_nil))))
 pss_nil)
 (pss_one (ps_ret (pv 1))))))))))))))))))),(rd_kinds T rfl h)⟩
theorem ok_law_step {x:Ex0.Ad} (T:Exs K mg x) (G:Cn K mg) (F:FunAt K mg "_law_step" (top 38) ["_law_turning","_law_count"]) (B:Blt mg)  : FnC P w K mg base CX0 1 "_law_step" ["_law_turning","_law_count"] (spLStN K):=by
 refine F.ok sc_law_step (fun vs H Q E h=>len_lstN h) (fun f cdv A outer s H vs Q E hr h=>?_)
 have nd:=sc_law_step.nd
 have hpo:=fun {M A env}=>@PassesOwn.never M A env
 have hu:=hr.units
 have hu1:=Nat.lt_of_le_of_lt (Nat.add_le_add_left (by decide:1≤64) _) hu
 have own:OwnFr (cxOf CX0 P w K mg base ["_law_turning","_law_count","_law_found","_law_k"] "_law_step" (defScope (top 38)) f cdv A outer s H E).nox:=⟨rfl,rfl,rfl⟩
 exact ⟨t_lstN K,(pss_cons (ps_set (i:=2) nd rfl (by first | exact Or.inl rfl | exact Or.inr rfl) (pe_lst pa_nil))
 (pss_cons (ps_for hpo rfl (pi_range1 rfl B.range (pa_cons (pe_callB call_len_seq rfl B.len bb_len (pa_cons (pv 1) pa_nil)) pa_nil)) (pg_name (i:=3) nd rfl (by first | exact Or.inl rfl | exact Or.inr rfl))
 (pss_cons (ps_if (pt_cmpR op_lt (pe_ix ix_tup (pv 1) (pv 3) (fun _ _=>rfl)) (pe_ix ix_tup (pe_ix ix_tup (pv 0) pe_int (fun _ _=>rfl)) (pv 3) (fun _ _=>rfl)) (nomark _))
 (pss_one (ps_ret pe_non))
 pss_nil)
 (pss_one (ps_expr (pe_bm PySem.F.plainAttrs_list PySem.F.slot_list_append PySem.F.type_list_append mt_append (pv 2) (pa_cons (pe_op op_add (pe_op op_sub (pe_ix ix_tup (pv 1) (pv 3) (fun _ _=>rfl)) (pe_ix ix_tup (pe_ix ix_tup (pv 0) pe_int (fun _ _=>rfl)) (pv 3) (fun _ _=>rfl))) (pe_ix ix_tup (pe_ix ix_tup (pv 0) pe_int (fun _ _=>rfl)) (pv 3) (fun _ _=>rfl))) pa_nil))))))
 (pss_one (ps_ret (pe_callTy call_tuple_of rfl B.tuple bb_tuple (pa_cons (pv 2) pa_nil)))))),(rd_lstN rfl h)⟩
theorem ok_law_due {x:Ex0.Ad} (T:Exs K mg x) (G:Cn K mg) (F:FunAt K mg "_law_due" (top 39) ["_law_vessel_here","_law_count"]) (B:Blt mg) (c_law_step:FnC P w K mg base CX0 1 "_law_step" ["_law_turning","_law_count"] (spLStN K)):FnC P w K mg base CX0 2 "_law_due" ["_law_vessel_here","_law_count"] (spDue K):=by
 refine F.ok sc_law_due (fun vs H Q E h=>len_due h) (fun f cdv A outer s H vs Q E hr h=>?_)
 have nd:=sc_law_due.nd
 have hpo:=fun {M A env}=>@PassesOwn.never M A env
 have hu:=hr.units
 have hu1:=Nat.lt_of_le_of_lt (Nat.add_le_add_left (by decide:1≤64) _) hu
 have own:OwnFr (cxOf CX0 P w K mg base ["_law_vessel_here","_law_count","_law_due_here","_law_seen","_law_at","_law_k","_law_there"] "_law_due" (defScope (top 39)) f cdv A outer s H E).nox:=⟨rfl,rfl,rfl⟩
 exact ⟨t_due K,(pss_cons (ps_set (i:=2) nd rfl (by first | exact Or.inl rfl | exact Or.inr rfl) (pe_lst (pa_cons (pe_tup (pa_cons (pv 1) (pa_cons (pe_lst pa_nil) pa_nil))) pa_nil)))
 (pss_cons (ps_set (i:=3) nd rfl (by first | exact Or.inl rfl | exact Or.inr rfl) (pe_disp1T hu1 (pv 1) pe_bl))
 (pss_cons (ps_set (i:=4) nd rfl (by first | exact Or.inl rfl | exact Or.inr rfl) pe_int)
 (pss_cons (ps_while hpo (PW.pt (pw_and (pt_cmpR op_lt (pv 4) (pe_callB call_len_seq rfl B.len bb_len (pa_cons (pv 2) pa_nil)) (nomark _)) (pw_and1 (pt_cmpR op_lt (pe_callB call_len_seq rfl B.len bb_len (pa_cons (pv 2) pa_nil)) pe_int (nomark _)))))
 (pss_cons (ps_for hpo rfl (pi_range1 rfl B.range (pa_cons (pe_callB call_len_seq rfl B.len bb_len (pa_cons (pe_ix ix_tup (pv 0) pe_int (fun _ _=>rfl)) pa_nil)) pa_nil)) (pg_name (i:=5) nd rfl (by first | exact Or.inl rfl | exact Or.inr rfl))
 (pss_cons (ps_set (i:=6) nd rfl (by first | exact Or.inl rfl | exact Or.inr rfl) (pe_callF c_law_step hr rfl (pa_cons (pe_ix ix_tup (pe_ix ix_tup (pv 0) pe_int (fun _ _=>rfl)) (pv 5) (fun _ _=>rfl)) (pa_cons (pe_ix ix_tup (pe_ix ix_list (pv 2) (pv 4) (fun _ _=>rfl)) pe_int (fun _ _=>rfl)) pa_nil))))
 (pss_one (ps_if (PW.pt (pw_and (pt_cmpR op_notN (pv 6) pe_non (nomark _)) (pw_and1 (pt_cmp (pc_dnotin hu1 (pv 6) (pv 3)) (by with_unfolding_all rfl)))))
 (pss_cons (ps_dput hu1 (pv 3) (pv 6) pe_bl rfl)
 (pss_one (ps_expr (pe_bm PySem.F.plainAttrs_list PySem.F.slot_list_append PySem.F.type_list_append mt_append (pv 2) (pa_cons (pe_tup (pa_cons (pv 6) (pa_cons (pe_op op_cat (pe_ix ix_tup (pe_ix ix_list (pv 2) (pv 4) (fun _ _=>rfl)) pe_int (fun _ _=>rfl)) (pe_lst (pa_cons (pv 5) pa_nil))) pa_nil))) pa_nil)))))
 pss_nil))))
 (pss_one (ps_set (i:=4) nd rfl (by first | exact Or.inl rfl | exact Or.inr rfl) (pe_op op_add (pv 4) pe_int)))))
 (pss_one (ps_ret (pv 2))))))),(rd_due rfl h)⟩
theorem ok_law_walks {x:Ex0.Ad} (T:Exs K mg x) (G:Cn K mg) (F:FunAt K mg "_law_walks" (top 40) ["_law_vessel_here","_law_count","_law_found"]) (B:Blt mg) (c_law_step:FnC P w K mg base CX0 5 "_law_step" ["_law_turning","_law_count"] (spLStN K)) (c_law_same:FnC P w K mg base CX0 5 "_law_same" ["_law_found","_law_due_here"] (spSame K 4)) (c_law_whole:FnC P w K mg base CX0 5 "_law_whole" ["_law_found"] spWhole):FnC P w K mg base CX0 6 "_law_walks" ["_law_vessel_here","_law_count","_law_found"] (spWalks K):=by
 refine F.ok sc_law_walks (fun vs H Q E h=>len_walks h) (fun f cdv A outer s H vs Q E hr h=>?_)
 have nd:=sc_law_walks.nd
 have hpo:=fun {M A env}=>@PassesOwn.never M A env
 have hu:=hr.units
 have hu1:=Nat.lt_of_le_of_lt (Nat.add_le_add_left (by decide:1≤64) _) hu
 have own:OwnFr (cxOf CX0 P w K mg base ["_law_vessel_here","_law_count","_law_found","_law_here","_law_row","_law_there","_law_number"] "_law_walks" (defScope (top 40)) f cdv A outer s H E).nox:=⟨rfl,rfl,rfl⟩
 exact ⟨t_walks K,(pss_cons (ps_for hpo rfl (pi_list (pv 2)) (pg_tup rfl (pgs_cons (pg_name (i:=3) nd rfl (by first | exact Or.inl rfl | exact Or.inr rfl)) (pgs_cons (pg_name (i:=4) nd rfl (by first | exact Or.inl rfl | exact Or.inr rfl)) pgs_nil)))
 (pss_cons (ps_if (pt_not (pt_val (pe_callB call_isi rfl B.isinstance bb_isinstance (pa_cons (pv 4) (pa_cons (pe_bltn rfl B.list bb_list rfl) pa_nil)))))
 (pss_one (ps_ret pe_bl))
 pss_nil)
 (pss_cons (ps_set (i:=5) nd rfl (by first | exact Or.inl rfl | exact Or.inr rfl) (pv 1))
 (pss_cons (ps_for hpo rfl (pi_list (pv 4)) (pg_name (i:=6) nd rfl (by first | exact Or.inl rfl | exact Or.inr rfl))
 (pss_cons (ps_if (PW.pt (pw_or (pt_cmpR op_isN (pv 5) pe_non (nomark _)) (pw_or (pt_not (pt_val (pe_callF c_law_whole hr rfl (pa_cons (pv 6) pa_nil)))) (pw_or (pt_cmpR op_lt (pv 6) pe_int (nomark _)) (pw_or1 (pt_cmpR op_ge (pv 6) (pe_callB call_len_seq rfl B.len bb_len (pa_cons (pe_ix ix_tup (pv 0) pe_int (fun _ _=>rfl)) pa_nil)) (nomark _)))))))
 (pss_one (ps_ret pe_bl))
 pss_nil)
 (pss_one (ps_set (i:=5) nd rfl (by first | exact Or.inl rfl | exact Or.inr rfl) (pe_callF c_law_step hr rfl (pa_cons (pe_ix ix_tup (pe_ix ix_tup (pv 0) pe_int (fun _ _=>rfl)) (pv 6) (fun _ _=>rfl)) (pa_cons (pv 5) pa_nil)))))))
 (pss_one (ps_if (PW.pt (pw_or (pt_cmpR op_isN (pv 5) pe_non (nomark _)) (pw_or1 (pt_not (pt_val (pe_callF c_law_same hr rfl (pa_cons (pv 3) (pa_cons (pv 5) pa_nil))))))))
 (pss_one (ps_ret pe_bl))
 pss_nil))))))
 (pss_one (ps_ret pe_bl))),(rd_walks rfl h)⟩
theorem ok_law_refused_well {x:Ex0.Ad} (T:Exs K mg x) (G:Cn K mg) (F:FunAt K mg "_law_refused_well" (top 41) ["_law_vessel_here","_law_count","_law_caught"]) (B:Blt mg) (c_law_walks:FnC P w K mg base CX0 6 "_law_walks" ["_law_vessel_here","_law_count","_law_found"] (spWalks K)) (c_law_kinds:FnC P w K mg base CX0 6 "_law_kinds" ["_law_e"] (spKinds x)) (c_law_same:FnC P w K mg base CX0 6 "_law_same" ["_law_found","_law_due_here"] (spSame K 4)):FnC P w K mg base CX0 7 "_law_refused_well" ["_law_vessel_here","_law_count","_law_caught"] (spRefW K x):=by
 refine F.ok sc_law_refused_well (fun vs H Q E h=>len_refw h) (fun f cdv A outer s H vs Q E hr h=>?_)
 have nd:=sc_law_refused_well.nd
 have hpo:=fun {M A env}=>@PassesOwn.never M A env
 have hu:=hr.units
 have hu1:=Nat.lt_of_le_of_lt (Nat.add_le_add_left (by decide:1≤64) _) hu
 have own:OwnFr (cxOf CX0 P w K mg base ["_law_vessel_here","_law_count","_law_caught","_law_found","_law_pair"] "_law_refused_well" (defScope (top 41)) f cdv A outer s H E).nox:=⟨rfl,rfl,rfl⟩
 exact ⟨t_refw K x,(pss_cons (ps_if (PW.pt (pw_or (pt_cmpR op_isN (pv 2) pe_non (nomark _)) (pw_or (pt_cmpR (op_neD hu) (pe_callF c_law_kinds hr rfl (pa_cons (pv 2) pa_nil)) (pe_lst (pa_cons pe_str pa_nil)) (nomark _)) (pw_or1 (pt_not (pt_val (pe_callB call_isi rfl B.isinstance bb_isinstance (pa_cons (pe_fldX (pv 2) rfl) (pa_cons (pe_bltn rfl B.list bb_list rfl) pa_nil)))))))))
 (pss_one (ps_ret pe_bl))
 pss_nil)
 (pss_cons (ps_set (i:=3) nd rfl (by first | exact Or.inl rfl | exact Or.inr rfl) (pe_fldX (pv 2) rfl))
 (pss_cons (ps_if (PW.pt (pw_or (pt_cmpR op_ne (pe_callB call_len_seq rfl B.len bb_len (pa_cons (pv 3) pa_nil)) pe_int (nomark _)) (pw_or1 (pt_not (pt_val (pe_callF c_law_same hr rfl (pa_cons (pe_ix ix_list (pv 3) pe_int (fun _ _=>rfl)) (pa_cons (pe_tup (pa_cons (pv 1) (pa_cons (pe_lst pa_nil) pa_nil))) pa_nil))))))))
 (pss_one (ps_ret pe_bl))
 pss_nil)
 (pss_cons (ps_for hpo rfl (pi_list (pv 3)) (pg_name (i:=4) nd rfl (by first | exact Or.inl rfl | exact Or.inr rfl))
 (pss_one (ps_if (PW.pt (pw_or (pt_not (pt_val (pe_callB call_isi rfl B.isinstance bb_isinstance (pa_cons (pv 4) (pa_cons (pe_bltn rfl B.tuple bb_tuple rfl) pa_nil))))) (pw_or1 (pt_cmpR op_ne (pe_callB call_len_seq rfl B.len bb_len (pa_cons (pv 4) pa_nil)) pe_int (nomark _)))))
 (pss_one (ps_ret pe_bl))
 pss_nil)))
 (pss_one (ps_ret (pe_and (pe_callF c_law_walks hr rfl (pa_cons (pv 0) (pa_cons (pv 1) (pa_cons (pv 3) pa_nil)))) (pe_one (pe_cmpR op_eq (pe_lenset (set_tuples9 rfl hu) rfl B.len rfl B.set (pe_lc (M:=["_law_vessel_here","_law_count","_law_caught","_law_found","#_law_pair"]) (by show CompS (defScope (top 41)) ["_law_vessel_here","_law_count","_law_caught","_law_found","_law_pair"] ["_law_vessel_here","_law_count","_law_caught","_law_found","#_law_pair"] _ _;exact ⟨rfl,by decide +kernel,by decide +kernel,by decide +kernel,by decide +kernel,rfl,by decide +kernel,by decide +kernel,by decide +kernel⟩) nd rfl (pi_list (pv 3)) (fun _ _ _ _ _=>(pe_ix ix_tup (pv 0) pe_int (fun _ _=>rfl))))) pe_int (nomark _)))))))))),(rd_refw T rfl h)⟩
theorem ok_law_told {x:Ex0.Ad} (T:Exs K mg x) (G:Cn K mg) (F:FunAt K mg "_law_told" (top 42) ["_law_vessel_here","_law_count"]) (B:Blt mg) (c_comings:FnC P w K mg base (CXE P w) 3 "comings" ["vessel","count"] (spComings K x.c8)):FnC P w K mg base CX0 4 "_law_told" ["_law_vessel_here","_law_count"] (spTold K x):=by
 refine F.ok sc_law_told (fun vs H Q E h=>len_told h) (fun f cdv A outer s H vs Q E hr h=>?_)
 have nd:=sc_law_told.nd
 have hpo:=fun {M A env}=>@PassesOwn.never M A env
 have hu:=hr.units
 have hu1:=Nat.lt_of_le_of_lt (Nat.add_le_add_left (by decide:1≤64) _) hu
 have own:OwnFr (cxOf CX0 P w K mg base ["_law_vessel_here","_law_count","_law_caught","_law_told_here","_law_e"] "_law_told" (defScope (top 42)) f cdv A outer s H E).nox:=⟨rfl,rfl,rfl⟩
 exact ⟨t_told K x,(pss_cons (ps_set (i:=2) nd rfl (by first | exact Or.inl rfl | exact Or.inr rfl) pe_non)
 (pss_cons (ps_set (i:=3) nd rfl (by first | exact Or.inl rfl | exact Or.inr rfl) pe_non)
 (pss_cons (ps_tryA (i:=3) (n:=4) (y:=2) c_comings hr own rfl (pa_cons (pv 0) (pa_cons (pv 1) pa_nil)) rfl T.v nd rfl rfl rfl rfl rfl rfl)
 (pss_one (ps_ret (pe_tup (pa_cons (pv 3) (pa_cons (pv 2) pa_nil)))))))),(rd_told T rfl h)⟩
theorem ok_law_right {x:Ex0.Ad} (T:Exs K mg x) (G:Cn K mg) (F:FunAt K mg "_law_right" (top 43) ["_law_vessel_here","_law_count"]) (B:Blt mg) (c_law_due:FnC P w K mg base CX0 7 "_law_due" ["_law_vessel_here","_law_count"] (spDue K)) (c_law_told:FnC P w K mg base CX0 7 "_law_told" ["_law_vessel_here","_law_count"] (spTold K x)) (c_law_refused_well:FnC P w K mg base CX0 7 "_law_refused_well" ["_law_vessel_here","_law_count","_law_caught"] (spRefW K x)) (c_law_same:FnC P w K mg base CX0 7 "_law_same" ["_law_found","_law_due_here"] (spSame K 4)):FnC P w K mg base CX0 8 "_law_right" ["_law_vessel_here","_law_count"] (spRight K):=by
 refine F.ok sc_law_right (fun vs H Q E h=>len_right h) (fun f cdv A outer s H vs Q E hr h=>?_)
 have nd:=sc_law_right.nd
 have hpo:=fun {M A env}=>@PassesOwn.never M A env
 have hu:=hr.units
 have hu1:=Nat.lt_of_le_of_lt (Nat.add_le_add_left (by decide:1≤64) _) hu
 have own:OwnFr (cxOf CX0 P w K mg base ["_law_vessel_here","_law_count","_law_due_here","_law_told_here","_law_caught","_law_here","_law_row"] "_law_right" (defScope (top 43)) f cdv A outer s H E).nox:=⟨rfl,rfl,rfl⟩
 exact ⟨t_right K x,(pss_cons (ps_set (i:=2) nd rfl (by first | exact Or.inl rfl | exact Or.inr rfl) (pe_callF c_law_due hr rfl (pa_cons (pv 0) (pa_cons (pv 1) pa_nil))))
 (pss_cons (ps_asg (pe_callF c_law_told hr rfl (pa_cons (pv 0) (pa_cons (pv 1) pa_nil))) (pg_tup rfl (pgs_cons (pg_name (i:=3) nd rfl (by first | exact Or.inl rfl | exact Or.inr rfl)) (pgs_cons (pg_name (i:=4) nd rfl (by first | exact Or.inl rfl | exact Or.inr rfl)) pgs_nil))))
 (pss_cons (ps_if (pt_cmpR op_gt (pe_callB call_len_seq rfl B.len bb_len (pa_cons (pv 2) pa_nil)) pe_int (nomark _))
 (pss_cons (ps_if (pt_not (pt_val (pe_callF c_law_refused_well hr rfl (pa_cons (pv 0) (pa_cons (pv 1) (pa_cons (pv 4) pa_nil))))))
 (pss_one (ps_ret pe_bl))
 pss_nil)
 (pss_cons (ps_expr (pe_bm0 PySem.F.plainAttrs_list PySem.F.slot_list_clear PySem.F.type_list_clear mt_clear (pe_fldX (pv 4) rfl)))
 (pss_one (ps_ret pe_bl))))
 pss_nil)
 (pss_cons (ps_if (PW.pt (pw_or (pt_cmpR op_notN (pv 4) pe_non (nomark _)) (pw_or1 (pt_not (pt_val (pe_callF c_law_same hr rfl (pa_cons (pv 3) (pa_cons (pv 2) pa_nil))))))))
 (pss_one (ps_ret pe_bl))
 pss_nil)
 (pss_cons (ps_for hpo rfl (pi_list (pv 3)) (pg_tup rfl (pgs_cons (pg_name (i:=5) nd rfl (by first | exact Or.inl rfl | exact Or.inr rfl)) (pgs_cons (pg_name (i:=6) nd rfl (by first | exact Or.inl rfl | exact Or.inr rfl)) pgs_nil)))
 (pss_one (ps_expr (pe_bm PySem.F.plainAttrs_list PySem.F.slot_list_append PySem.F.type_list_append mt_append (pv 6) (pa_cons pe_int pa_nil)))))
 (pss_cons (ps_expr (pe_bm0 PySem.F.plainAttrs_list PySem.F.slot_list_clear PySem.F.type_list_clear mt_clear (pv 3)))
 (pss_one (ps_ret pe_bl)))))))),(rd_right T rfl h)⟩
theorem ok_law {x:Ex0.Ad} (T:Exs K mg x) (G:Cn K mg) {f:Addr} {fd:FuncData} (F:Fun K "law" "law" (top 44) f fd) (B:Blt mg) (c_law_vessel:FnC P w K mg base CX0 8 "_law_vessel" ["_law_script"] (spVessel K)) (c_law_mixed:FnC P w K mg base CX0 8 "_law_mixed" ["_law_cell","_law_many"] (spMixed K)) (c_law_cell_at:FnC P w K mg base CX0 8 "_law_cell_at" ["_law_script","_law_k"] (spCell K)) (c_law_right:FnC P w K mg base CX0 8 "_law_right" ["_law_vessel_here","_law_count"] (spRight K)):FnOk P w K mg base CX0 9 f fd ["_law_script"] (spLaw K):=by
 refine F.ok sc_law (fun vs H Q E h=>?_) (fun cdv A outer s H vs Q E hr h=>?_)
 ·obtain ⟨a,ns,rfl,_⟩:=h
  rfl
 have nd:=sc_law.nd
 have hpo:=fun {M A env}=>@PassesOwn.never M A env
 have hu:=hr.units
 have hu1:=Nat.lt_of_le_of_lt (Nat.add_le_add_left (by decide:1≤64) _) hu
 exact ⟨t_law K,(pss_cons (ps_set (i:=1) nd rfl (by first | exact Or.inl rfl | exact Or.inr rfl) (pe_callF c_law_vessel hr rfl (pa_cons (pv 0) pa_nil)))
 (pss_cons (ps_set (i:=2) nd rfl (by first | exact Or.inl rfl | exact Or.inr rfl) (pe_callF c_law_mixed hr rfl (pa_cons (pe_callF c_law_cell_at hr rfl (pa_cons (pv 0) (pa_cons pe_int pa_nil))) (pa_cons pe_int pa_nil))))
 (pss_cons (ps_set (i:=3) nd rfl (by first | exact Or.inl rfl | exact Or.inr rfl) (pe_ix ix_list (pe_lst (pa_cons pe_int (pa_cons pe_int (pa_cons pe_int (pa_cons pe_int pa_nil))))) (pe_op op_mod (pe_ix ix_list (pv 2) pe_int (fun _ _=>rfl)) pe_int) (fun _ _=>rfl)))
 (pss_cons (ps_lc (M:=["_law_script","_law_vessel_here","_law_xs","_law_most","_law_count","_law_other","_law_take","_law_one"]) (i:=4) nd rfl rfl (by show CompS (defScope (top 44)) ["_law_script","_law_vessel_here","_law_xs","_law_most","_law_count","_law_other","_law_take","_law_one"] ["_law_script","_law_vessel_here","_law_xs","_law_most","_law_count","_law_other","_law_take","_law_one"] _ _;exact ⟨rfl,by decide +kernel,by decide +kernel,by decide +kernel,by decide +kernel,rfl,by decide +kernel,by decide +kernel,by decide +kernel⟩) rfl (pi_range1 rfl B.range (pa_cons (pe_callB call_len_seq rfl B.len bb_len (pa_cons (pe_ix ix_tup (pv 1) pe_int (fun _ _=>rfl)) pa_nil)) pa_nil)) (fun _ _ _ _ _=>(pe_op op_mod (pe_ix ix_list (pv 3) (pv 0) (fun _ _=>rfl)) (pe_op op_add (pv 4) pe_int))))
 (pss_cons (ps_set (i:=5) nd rfl (by first | exact Or.inl rfl | exact Or.inr rfl) (pe_callTy call_tuple_of rfl B.tuple bb_tuple (pa_cons (pe_lc (M:=["_law_script","_law_vessel_here","_law_xs","_law_most","_law_count","_law_other","_law_take","_law_one"]) (by show CompS (defScope (top 44)) ["_law_script","_law_vessel_here","_law_xs","_law_most","_law_count","_law_other","_law_take","_law_one"] ["_law_script","_law_vessel_here","_law_xs","_law_most","_law_count","_law_other","_law_take","_law_one"] _ _;exact ⟨rfl,by decide +kernel,by decide +kernel,by decide +kernel,by decide +kernel,rfl,by decide +kernel,by decide +kernel,by decide +kernel⟩) nd rfl (pi_range1 rfl B.range (pa_cons (pe_callB call_len_seq rfl B.len bb_len (pa_cons (pe_ix ix_tup (pv 1) pe_int (fun _ _=>rfl)) pa_nil)) pa_nil)) (fun _ _ _ _ _=>(pe_op op_mod (pe_op op_fdiv (pe_ix ix_list (pv 3) (pv 0) (fun _ _=>rfl)) pe_int) (pe_op op_add (pv 4) pe_int)))) pa_nil)))
 (pss_cons (ps_if (pt_cmpR op_eq (pe_op op_mod (pe_callF c_law_cell_at hr rfl (pa_cons (pv 0) (pa_cons pe_int pa_nil))) pe_int) pe_int (nomark _))
 (pss_one (ps_asg (pe_op op_mod (pe_callF c_law_cell_at hr rfl (pa_cons (pv 0) (pa_cons pe_int pa_nil))) (pe_op op_pow pe_int pe_int)) (pg_sub (pv 4) (pe_op op_mod (pe_ix ix_list (pv 2) pe_int (fun _ _=>rfl)) (pe_callB call_len_seq rfl B.len bb_len (pa_cons (pv 4) pa_nil))) set_list)))
 pss_nil)
 (pss_cons (ps_if (pt_cmpR op_eq (pe_op op_mod (pe_callF c_law_cell_at hr rfl (pa_cons (pv 0) (pa_cons pe_int pa_nil))) pe_int) pe_int (nomark _))
 (pss_cons (ps_set (i:=6) nd rfl (by first | exact Or.inl rfl | exact Or.inr rfl) (pe_op op_add pe_int (pe_op op_mod (pe_ix ix_list (pv 2) pe_int (fun _ _=>rfl)) pe_int)))
 (pss_cons (ps_set (i:=1) nd rfl (by first | exact Or.inl rfl | exact Or.inr rfl) (pe_tup (pa_cons (pe_tup (pa_cons pe_str (pa_cons pe_str pa_nil))) (pa_cons (pe_tup (pa_cons (pe_tup (pa_cons (pe_tup (pa_cons (pv 6) (pa_cons pe_int pa_nil))) (pa_cons (pe_tup (pa_cons pe_int (pa_cons (pe_op op_mod (pe_ix ix_list (pv 2) pe_int (fun _ _=>rfl)) pe_int) pa_nil))) (pa_cons (pe_tup (pa_cons pe_int (pa_cons pe_int pa_nil))) pa_nil)))) pa_nil)) pa_nil))))
 (pss_cons (ps_set (i:=4) nd rfl (by first | exact Or.inl rfl | exact Or.inr rfl) (pe_lst (pa_cons (pe_op op_add (pe_op op_mul (pv 6) (pe_op op_add pe_int (pe_op op_mod (pe_ix ix_list (pv 2) pe_int (fun _ _=>rfl)) pe_int))) (pe_op op_mod (pe_ix ix_list (pv 2) pe_int (fun _ _=>rfl)) (pv 6))) (pa_cons (pe_op op_mod (pe_ix ix_list (pv 2) pe_int (fun _ _=>rfl)) pe_int) pa_nil))))
 (pss_one (ps_set (i:=5) nd rfl (by first | exact Or.inl rfl | exact Or.inr rfl) (pe_tup (pa_cons (pe_op op_mul (pv 6) (pe_op op_add pe_int (pe_op op_mod (pe_ix ix_list (pv 2) pe_int (fun _ _=>rfl)) pe_int))) (pa_cons pe_int pa_nil))))))))
 pss_nil)
 (pss_cons (ps_for hpo rfl (pi_list (pe_lst (pa_cons (pe_callTy call_tuple_of rfl B.tuple bb_tuple (pa_cons (pv 4) pa_nil)) (pa_cons (pv 5) (pa_cons (pe_callTy call_tuple_of rfl B.tuple bb_tuple (pa_cons (pv 4) pa_nil)) pa_nil))))) (pg_name (i:=7) nd rfl (by first | exact Or.inl rfl | exact Or.inr rfl))
 (pss_one (ps_if (pt_not (pt_val (pe_callF c_law_right hr rfl (pa_cons (pv 1) (pa_cons (pv 7) pa_nil)))))
 (pss_one (ps_ret pe_bl))
 pss_nil)))
 (pss_one (ps_ret pe_bl)))))))))),(rd_law h)⟩
end
section
variable{P:Program}{w:World}{K:PySem.W.Frag}{mg:Str→Option Value}{base:Heap}
theorem ok_all {x:Ex0.Ad} (T:Exs K mg x) (G:Cn K mg) {f:Addr} {fd:FuncData} (F:Fun K "law" "law" (top 44) f fd) (B:Blt mg) (F0:FunAt K mg "can_be_made" (top 18) ["turning","count"]) (F1:FunAt K mg "count_behind" (top 19) ["turning","count"]) (F2:FunAt K mg "steps_on" (top 20) ["vessel","count","row"]) (F3:FunAt K mg "comings" (top 21) ["vessel","count"]) (F4:FunAt K mg "_law_cell_at" (top 23) ["_law_script","_law_k"]) (F5:FunAt K mg "_law_mixed" (top 24) ["_law_cell","_law_many"]) (F6:FunAt K mg "_law_divisor" (top 25) ["_law_one","_law_other"]) (F7:FunAt K mg "_law_lowest" (top 26) ["_law_top","_law_bottom"]) (F8:FunAt K mg "_law_base" (top 27) ["_law_cell","_law_size"]) (F9:FunAt K mg "_law_word" (top 28) ["_law_base_here","_law_place","_law_size","_law_k"]) (F10:FunAt K mg "_law_words" (top 29) ["_law_script","_law_at","_law_many"]) (F11:FunAt K mg "_law_heap" (top 30) ["_law_number","_law_many","_law_most"]) (F12:FunAt K mg "_law_pool" (top 31) ["_law_script","_law_at","_law_many"]) (F13:FunAt K mg "_law_pace" (top 32) ["_law_number","_law_other","_law_great"]) (F14:FunAt K mg "_law_turnings" (top 33) ["_law_script","_law_at","_law_pool_here"]) (F15:FunAt K mg "_law_vessel" (top 34) ["_law_script"]) (F16:FunAt K mg "_law_whole" (top 35) ["_law_found"]) (F17:FunAt K mg "_law_same" (top 36) ["_law_found","_law_due_here"]) (F18:FunAt K mg "_law_kinds" (top 37) ["_law_e"]) (F19:FunAt K mg "_law_step" (top 38) ["_law_turning","_law_count"]) (F20:FunAt K mg "_law_due" (top 39) ["_law_vessel_here","_law_count"]) (F21:FunAt K mg "_law_walks" (top 40) ["_law_vessel_here","_law_count","_law_found"]) (F22:FunAt K mg "_law_refused_well" (top 41) ["_law_vessel_here","_law_count","_law_caught"]) (F23:FunAt K mg "_law_told" (top 42) ["_law_vessel_here","_law_count"]) (F24:FunAt K mg "_law_right" (top 43) ["_law_vessel_here","_law_count"]) {fi8:Addr} {di8:FuncData} (FI8:Fun K "__init__" "TooMany.__init__" (ini 10) fi8 di8) (bI8:Binds K di8 ["self","counts"] []) (iC8:ExcI K mg "TooMany" x.c8 fi8) (be8:PySem.W.mroIn K x.c8 (.type "BaseException")=some true):FnOk P w K mg base CX0 9 f fd ["_law_script"] (spLaw K):=by
 have i_TooMany:=Fun.iniC (P:=P) (w:=w) (base:=base) (k:=1) (sp:=spIniL K x.c8 "counts") iC8 be8 (ok_ini8 (P:=P) (w:=w) (base:=base) T G FI8 B) bI8 rfl
 have c_can_be_made:=ok_can_be_made (P:=P) (w:=w) (base:=base) T G F0 B
 have c_count_behind:=ok_count_behind (P:=P) (w:=w) (base:=base) T G F1 B
 have c_law_cell_at:=ok_law_cell_at (P:=P) (w:=w) (base:=base) T G F4 B
 have c_law_mixed:=ok_law_mixed (P:=P) (w:=w) (base:=base) T G F5 B
 have c_law_divisor:=ok_law_divisor (P:=P) (w:=w) (base:=base) T G F6 B
 have c_law_base:=ok_law_base (P:=P) (w:=w) (base:=base) T G F8 B
 have c_law_word:=ok_law_word (P:=P) (w:=w) (base:=base) T G F9 B
 have c_law_heap:=ok_law_heap (P:=P) (w:=w) (base:=base) T G F11 B
 have c_law_whole:=ok_law_whole (P:=P) (w:=w) (base:=base) T G F16 B
 have c_law_kinds:=ok_law_kinds (P:=P) (w:=w) (base:=base) T G F18 B
 have c_law_step:=ok_law_step (P:=P) (w:=w) (base:=base) T G F19 B
 have c_steps_on:=ok_steps_on (P:=P) (w:=w) (base:=base) T G F2 B (c_can_be_made.mono (by decide:1≤1)) (c_count_behind.mono (by decide:1≤1))
 have c_law_lowest:=ok_law_lowest (P:=P) (w:=w) (base:=base) T G F7 B (c_law_divisor.mono (by decide:1≤1))
 have c_law_words:=ok_law_words (P:=P) (w:=w) (base:=base) T G F10 B (c_law_cell_at.mono (by decide:1≤1)) (c_law_base.mono (by decide:1≤1)) (c_law_word.mono (by decide:1≤1))
 have c_law_pool:=ok_law_pool (P:=P) (w:=w) (base:=base) T G F12 B (c_law_cell_at.mono (by decide:1≤1)) (c_law_heap.mono (by decide:1≤1)) (c_law_mixed.mono (by decide:1≤1))
 have c_law_due:=ok_law_due (P:=P) (w:=w) (base:=base) T G F20 B (c_law_step.mono (by decide:1≤1))
 have c_comings:=ok_comings (P:=P) (w:=w) (base:=base) T G F3 B (c_steps_on.mono (by decide:2≤2)) i_TooMany
 have c_law_pace:=ok_law_pace (P:=P) (w:=w) (base:=base) T G F13 B (c_law_lowest.mono (by decide:2≤2))
 have c_law_turnings:=ok_law_turnings (P:=P) (w:=w) (base:=base) T G F14 B (c_law_cell_at.mono (by decide:1≤3)) (c_law_mixed.mono (by decide:1≤3)) (c_law_pace.mono (by decide:3≤3))
 have c_law_told:=ok_law_told (P:=P) (w:=w) (base:=base) T G F23 B (c_comings.mono (by decide:3≤3))
 have c_law_vessel:=ok_law_vessel (P:=P) (w:=w) (base:=base) T G F15 B (c_law_words.mono (by decide:2≤4)) (c_law_cell_at.mono (by decide:1≤4)) (c_law_turnings.mono (by decide:4≤4)) (c_law_pool.mono (by decide:2≤4))
 have c_law_same:=ok_same (P:=P) (w:=w) (base:=base) F17 B 4
 have c_law_walks:=ok_law_walks (P:=P) (w:=w) (base:=base) T G F21 B (c_law_step.mono (by decide:1≤5)) (c_law_same.mono (by decide:5≤5)) (c_law_whole.mono (by decide:1≤5))
 have c_law_refused_well:=ok_law_refused_well (P:=P) (w:=w) (base:=base) T G F22 B (c_law_walks.mono (by decide:6≤6)) (c_law_kinds.mono (by decide:1≤6)) (c_law_same.mono (by decide:5≤6))
 have c_law_right:=ok_law_right (P:=P) (w:=w) (base:=base) T G F24 B (c_law_due.mono (by decide:2≤7)) (c_law_told.mono (by decide:4≤7)) (c_law_refused_well.mono (by decide:7≤7)) (c_law_same.mono (by decide:5≤7))
 exact ok_law (P:=P) (w:=w) (base:=base) T G F B (c_law_vessel.mono (by decide:5≤8)) (c_law_mixed.mono (by decide:1≤8)) (c_law_cell_at.mono (by decide:1≤8)) (c_law_right.mono (by decide:8≤8))
end
theorem bd1{G:Value→Value→Value→Option Addr→Value→Value→FuncData}{ps:List Str}(e:ps.length=1)(h:∀(a b c:Value) (d:Option Addr) (x y u0:Value),bindArgs (G a b c d x y) ⟨[u0],[]⟩=pure (ps.zip [u0]))(a b c:Value)(d:Option Addr)(x y:Value)(us:List Value)(hl:us.length=ps.length):bindArgs (G a b c d x y) ⟨us,[]⟩=pure (ps.zip us):=by
 have e0:us.length=1:=hl.trans e;obtain ⟨u0,us,rfl⟩:=List.exists_cons_of_length_eq_add_one e0;cases List.eq_nil_of_length_eq_zero (Nat.succ.inj e0);exact h a b c d x y u0
theorem bd2{G:Value→Value→Value→Option Addr→Value→Value→FuncData}{ps:List Str}(e:ps.length=2)(h:∀(a b c:Value) (d:Option Addr) (x y u0 u1:Value),bindArgs (G a b c d x y) ⟨[u0,u1],[]⟩=pure (ps.zip [u0,u1]))(a b c:Value)(d:Option Addr)(x y:Value)(us:List Value)(hl:us.length=ps.length):bindArgs (G a b c d x y) ⟨us,[]⟩=pure (ps.zip us):=by
 have e0:us.length=2:=hl.trans e;obtain ⟨u0,us,rfl⟩:=List.exists_cons_of_length_eq_add_one e0;have e1:us.length=1:=Nat.succ.inj e0;obtain ⟨u1,us,rfl⟩:=List.exists_cons_of_length_eq_add_one e1;cases List.eq_nil_of_length_eq_zero (Nat.succ.inj e1);exact h a b c d x y u0 u1
theorem bd3{G:Value→Value→Value→Option Addr→Value→Value→FuncData}{ps:List Str}(e:ps.length=3)(h:∀(a b c:Value) (d:Option Addr) (x y u0 u1 u2:Value),bindArgs (G a b c d x y) ⟨[u0,u1,u2],[]⟩=pure (ps.zip [u0,u1,u2]))(a b c:Value)(d:Option Addr)(x y:Value)(us:List Value)(hl:us.length=ps.length):bindArgs (G a b c d x y) ⟨us,[]⟩=pure (ps.zip us):=by
 have e0:us.length=3:=hl.trans e;obtain ⟨u0,us,rfl⟩:=List.exists_cons_of_length_eq_add_one e0;have e1:us.length=2:=Nat.succ.inj e0;obtain ⟨u1,us,rfl⟩:=List.exists_cons_of_length_eq_add_one e1;have e2:us.length=1:=Nat.succ.inj e1;obtain ⟨u2,us,rfl⟩:=List.exists_cons_of_length_eq_add_one e2;cases List.eq_nil_of_length_eq_zero (Nat.succ.inj e2);exact h a b c d x y u0 u1 u2
theorem bd4{G:Value→Value→Value→Option Addr→Value→Value→FuncData}{ps:List Str}(e:ps.length=4)(h:∀(a b c:Value) (d:Option Addr) (x y u0 u1 u2 u3:Value),bindArgs (G a b c d x y) ⟨[u0,u1,u2,u3],[]⟩=pure (ps.zip [u0,u1,u2,u3]))(a b c:Value)(d:Option Addr)(x y:Value)(us:List Value)(hl:us.length=ps.length):bindArgs (G a b c d x y) ⟨us,[]⟩=pure (ps.zip us):=by
 have e0:us.length=4:=hl.trans e;obtain ⟨u0,us,rfl⟩:=List.exists_cons_of_length_eq_add_one e0;have e1:us.length=3:=Nat.succ.inj e0;obtain ⟨u1,us,rfl⟩:=List.exists_cons_of_length_eq_add_one e1;have e2:us.length=2:=Nat.succ.inj e1;obtain ⟨u2,us,rfl⟩:=List.exists_cons_of_length_eq_add_one e2;have e3:us.length=1:=Nat.succ.inj e2;obtain ⟨u3,us,rfl⟩:=List.exists_cons_of_length_eq_add_one e3;cases List.eq_nil_of_length_eq_zero (Nat.succ.inj e3);exact h a b c d x y u0 u1 u2 u3
theorem fin:PySem.Challenge.rw_vesselhall_k33_all_counts_come_to.Holds:=by
 refine K33H.headed ?_
 intro w K h mg fa f0 f1 f2 f3 f4 f5 f6 f7 f8 f9 f10 f11 f12 f13 f14 f15 f16 f17 f18 f19 f20 f21 f22 f23 f24 f25 X G hfa od0 an0 od1 an1 od2 an2 od3 an3 od4 an4 od5 an5 od6 an6 od7 an7 od8 an8 od9 an9 od10 an10 od11 an11 od12 an12 od13 an13 od14 an14 od15 an15 od16 an16 od17 an17 od18 an18 od19 an19 od20 an20 od21 an21 od22 an22 od23 an23 od24 an24 od25 an25 sl0 sl1 sl2 sl3 sl4 sl5 sl6 sl7 sl8 sl9 sl10 sl11 sl12 sl13 sl14 sl15 sl16 sl17 sl18 sl19 sl20 sl21 sl22 sl23 sl24 sl25 oc0 kV0 dc0 pm0 cd0 ct0 oc1 kV1 dc1 pm1 cd1 ct1 oc2 kV2 dc2 pm2 cd2 ct2 oc3 kV3 dc3 pm3 cd3 ct3 oc4 kV4 dc4 pm4 cd4 ct4 oc5 kV5 dc5 pm5 cd5 ct5 oc6 kV6 dc6 pm6 cd6 ct6 oc7 kV7 dc7 pm7 cd7 ct7 oc8 kV8 dc8 pm8 cd8 ct8 oc9 kV9 dc9 pm9 cd9 ct9 oc10 kV10 dc10 pm10 cd10 ct10 oc11 kV11 dc11 pm11 cd11 ct11 oc12 kV12 dc12 pm12 cd12 ct12 oc13 kV13 dc13 pm13 cd13 ct13 oc14 kV14 dc14 pm14 cd14 ct14 oc15 kV15 dc15 pm15 cd15 ct15 oc16 kV16 dc16 pm16 cd16 ct16 oc17 kV17 dc17 pm17 cd17 ct17 oc18 kV18 dc18 pm18 cd18 ct18 oc19 kV19 dc19 pm19 cd19 ct19 oc20 kV20 dc20 pm20 cd20 ct20 oc21 kV21 dc21 pm21 cd21 ct21 oc22 kV22 dc22 pm22 cd22 ct22 oc23 kV23 dc23 pm23 cd23 ct23 oc24 kV24 dc24 pm24 cd24 ct24 oc25 kV25 dc25 pm25 cd25 ct25 a0 l0 c0 k0 a1 l1 c1 k1 a2 l2 c2 k2 a3 l3 c3 k3 a4 l4 c4 k4 a5 l5 c5 k5 a6 l6 c6 k6 a7 l7 c7 k7 a8 l8 c8 k8 a9 l9 c9 k9 a10 l10 c10 k10 a11 l11 c11 k11 a12 l12 c12 k12 a13 l13 c13 k13 a14 l14 c14 k14 a15 l15 c15 k15 a16 l16 c16 k16 a17 l17 c17 k17 a18 l18 c18 k18 a19 l19 c19 k19 a20 l20 c20 k20 a21 l21 c21 k21 a22 l22 c22 k22 a23 l23 c23 k23 a24 l24 c24 k24 a25 l25 c25 k25 z_len z_abs z_range z_isinstance z_int z_bool z_tuple z_list z_str z_zip z_set z_all z_any z_min z_max z_sum z_sorted z_enumerate z_reversed z_dict z_ord z_divmod V q0 q1 q2 q3 q4 q5 q6 q7 q8 q9 q10 q11 q12 q13 qd0 qd1 qd2 qd3 qd4 qd5 qd6 qd7 qd8 qd9 qd10 qd11 qd12 qd13 qdV fi8 Ni8 nmi8 qni8 bsi8 tli8 sui8 hdi8 abi8 sni8 coi8 ddi8 odi8 ani8 kai8 kbi8 kci8 kdi8 kei8 oci8 kVi8 dci8 pmi8 cdi8 cti8 sli8 tk0 aV xV zVE gt tk sgV rdV fcV dV mV aC0 tC0 dC0 aC1 tC1 dC1 aC2 tC2 dC2 aC3 tC3 dC3 aC4 tC4 dC4 aC5 tC5 dC5 aC6 tC6 dC6 aC7 tC7 dC7 aC8 tC8 dC8 aC9 tC9 dC9 aC10 tC10 dC10 aC11 tC11 dC11 aC12 tC12 dC12 aC13 tC13 dC13 L8 ni8 fn8 kq8 lf8 cf8 kf8 sa8 nf8 hd8 mr8 v8 ga8 hk8 cl8 ob8 be8 ve8 m8_0 m8_1 m8_2 m8_3 m8_4 m8_5 m8_6 m8_7 m8_8 m8_9 m8_10 m8_11 m8_12 m8_13 hcn0
 have e:=hfa.symm.trans (PySem.W.mg_of X G a25)
 cases e
 have B:Blt mg:=⟨PySem.W.mg_none_of X G z_len,PySem.W.mg_none_of X G z_abs,PySem.W.mg_none_of X G z_range,PySem.W.mg_none_of X G z_isinstance,PySem.W.mg_none_of X G z_int,PySem.W.mg_none_of X G z_bool,PySem.W.mg_none_of X G z_tuple,PySem.W.mg_none_of X G z_list,PySem.W.mg_none_of X G z_str,PySem.W.mg_none_of X G z_zip,PySem.W.mg_none_of X G z_set,PySem.W.mg_none_of X G z_all,PySem.W.mg_none_of X G z_any,PySem.W.mg_none_of X G z_min,PySem.W.mg_none_of X G z_max,PySem.W.mg_none_of X G z_sum,PySem.W.mg_none_of X G z_sorted,PySem.W.mg_none_of X G z_enumerate,PySem.W.mg_none_of X G z_reversed,PySem.W.mg_none_of X G z_dict,PySem.W.mg_none_of X G z_ord,PySem.W.mg_none_of X G z_divmod⟩
 have F0:FunAt K mg "can_be_made" (top 18) ["turning","count"]:=funAt_mk X G a0 l0 c0 k0 (bd2 rfl fun _ _ _ _ _ _ _ _=>rfl)
 have F1:FunAt K mg "count_behind" (top 19) ["turning","count"]:=funAt_mk X G a1 l1 c1 k1 (bd2 rfl fun _ _ _ _ _ _ _ _=>rfl)
 have F2:FunAt K mg "steps_on" (top 20) ["vessel","count","row"]:=funAt_mk X G a2 l2 c2 k2 (bd3 rfl fun _ _ _ _ _ _ _ _ _=>rfl)
 have F3:FunAt K mg "comings" (top 21) ["vessel","count"]:=funAt_mk X G a3 l3 c3 k3 (bd2 rfl fun _ _ _ _ _ _ _ _=>rfl)
 have F4:FunAt K mg "_law_cell_at" (top 23) ["_law_script","_law_k"]:=funAt_mk X G a4 l4 c4 k4 (bd2 rfl fun _ _ _ _ _ _ _ _=>rfl)
 have F5:FunAt K mg "_law_mixed" (top 24) ["_law_cell","_law_many"]:=funAt_mk X G a5 l5 c5 k5 (bd2 rfl fun _ _ _ _ _ _ _ _=>rfl)
 have F6:FunAt K mg "_law_divisor" (top 25) ["_law_one","_law_other"]:=funAt_mk X G a6 l6 c6 k6 (bd2 rfl fun _ _ _ _ _ _ _ _=>rfl)
 have F7:FunAt K mg "_law_lowest" (top 26) ["_law_top","_law_bottom"]:=funAt_mk X G a7 l7 c7 k7 (bd2 rfl fun _ _ _ _ _ _ _ _=>rfl)
 have F8:FunAt K mg "_law_base" (top 27) ["_law_cell","_law_size"]:=funAt_mk X G a8 l8 c8 k8 (bd2 rfl fun _ _ _ _ _ _ _ _=>rfl)
 have F9:FunAt K mg "_law_word" (top 28) ["_law_base_here","_law_place","_law_size","_law_k"]:=funAt_mk X G a9 l9 c9 k9 (bd4 rfl fun _ _ _ _ _ _ _ _ _ _=>rfl)
 have F10:FunAt K mg "_law_words" (top 29) ["_law_script","_law_at","_law_many"]:=funAt_mk X G a10 l10 c10 k10 (bd3 rfl fun _ _ _ _ _ _ _ _ _=>rfl)
 have F11:FunAt K mg "_law_heap" (top 30) ["_law_number","_law_many","_law_most"]:=funAt_mk X G a11 l11 c11 k11 (bd3 rfl fun _ _ _ _ _ _ _ _ _=>rfl)
 have F12:FunAt K mg "_law_pool" (top 31) ["_law_script","_law_at","_law_many"]:=funAt_mk X G a12 l12 c12 k12 (bd3 rfl fun _ _ _ _ _ _ _ _ _=>rfl)
 have F13:FunAt K mg "_law_pace" (top 32) ["_law_number","_law_other","_law_great"]:=funAt_mk X G a13 l13 c13 k13 (bd3 rfl fun _ _ _ _ _ _ _ _ _=>rfl)
 have F14:FunAt K mg "_law_turnings" (top 33) ["_law_script","_law_at","_law_pool_here"]:=funAt_mk X G a14 l14 c14 k14 (bd3 rfl fun _ _ _ _ _ _ _ _ _=>rfl)
 have F15:FunAt K mg "_law_vessel" (top 34) ["_law_script"]:=funAt_mk X G a15 l15 c15 k15 (bd1 rfl fun _ _ _ _ _ _ _=>rfl)
 have F16:FunAt K mg "_law_whole" (top 35) ["_law_found"]:=funAt_mk X G a16 l16 c16 k16 (bd1 rfl fun _ _ _ _ _ _ _=>rfl)
 have F17:FunAt K mg "_law_same" (top 36) ["_law_found","_law_due_here"]:=funAt_mk X G a17 l17 c17 k17 (bd2 rfl fun _ _ _ _ _ _ _ _=>rfl)
 have F18:FunAt K mg "_law_kinds" (top 37) ["_law_e"]:=funAt_mk X G a18 l18 c18 k18 (bd1 rfl fun _ _ _ _ _ _ _=>rfl)
 have F19:FunAt K mg "_law_step" (top 38) ["_law_turning","_law_count"]:=funAt_mk X G a19 l19 c19 k19 (bd2 rfl fun _ _ _ _ _ _ _ _=>rfl)
 have F20:FunAt K mg "_law_due" (top 39) ["_law_vessel_here","_law_count"]:=funAt_mk X G a20 l20 c20 k20 (bd2 rfl fun _ _ _ _ _ _ _ _=>rfl)
 have F21:FunAt K mg "_law_walks" (top 40) ["_law_vessel_here","_law_count","_law_found"]:=funAt_mk X G a21 l21 c21 k21 (bd3 rfl fun _ _ _ _ _ _ _ _ _=>rfl)
 have F22:FunAt K mg "_law_refused_well" (top 41) ["_law_vessel_here","_law_count","_law_caught"]:=funAt_mk X G a22 l22 c22 k22 (bd3 rfl fun _ _ _ _ _ _ _ _ _=>rfl)
 have F23:FunAt K mg "_law_told" (top 42) ["_law_vessel_here","_law_count"]:=funAt_mk X G a23 l23 c23 k23 (bd2 rfl fun _ _ _ _ _ _ _ _=>rfl)
 have F24:FunAt K mg "_law_right" (top 43) ["_law_vessel_here","_law_count"]:=funAt_mk X G a24 l24 c24 k24 (bd2 rfl fun _ _ _ _ _ _ _ _=>rfl)
 refine ⟨PySem.W.fnOf "law" "law" (defArgs (top 44)) (defBody (top 44)) (defScope (top 44)) .none kV25 dc25 pm25 an25 cd25 ct25,fun s v=>.of_eq rfl,fun base _ _=>?_⟩
 have iC8:ExcI K mg "TooMany" q8 fi8:=⟨PySem.W.mg_of X G aC8,⟨_,_,_,_,_,_,_,_,_,_,_,_,_,_,_,_,L8,fun h X=>tail_two xV dV mV L8 dC8 mr8 h X⟩,ni8,fn8,kq8⟩
 have T:Exs K mg ⟨V,q0,q1,q2,q3,q4,q5,q6,q7,q8,q9,q10,q11,q12,q13⟩:={
   v:=⟨PySem.W.mg_of X G aV,_,_,xV,by decide⟩
   vb:=⟨PySem.W.mg_of X G aV,sgV,rdV,fcV⟩
   mv:=PySem.W.mg_none_of X G zVE
   m0:=PySem.W.mg_of X G aC0
   m1:=PySem.W.mg_of X G aC1
   m2:=PySem.W.mg_of X G aC2
   m3:=PySem.W.mg_of X G aC3
   m4:=PySem.W.mg_of X G aC4
   m5:=PySem.W.mg_of X G aC5
   m6:=PySem.W.mg_of X G aC6
   m7:=PySem.W.mg_of X G aC7
   m8:=PySem.W.mg_of X G aC8
   m9:=PySem.W.mg_of X G aC9
   m10:=PySem.W.mg_of X G aC10
   m11:=PySem.W.mg_of X G aC11
   m12:=PySem.W.mg_of X G aC12
   m13:=PySem.W.mg_of X G aC13
   i8:=⟨_,iC8⟩
   h8:=iC8.shape
   f8:=⟨sa8,nf8,hd8,⟨_,_,dC8,mr8,rfl⟩,ob8⟩
   s8:=⟨iC8.ob,v8⟩
   a8:=⟨ga8,hk8,cl8,gt,tk,ob8,be8⟩
   k8_0:=kitE_of m8_0 m8_8 tC0 dC0
   k8_1:=kitE_of m8_1 m8_8 tC1 dC1
   k8_2:=kitE_of m8_2 m8_8 tC2 dC2
   k8_3:=kitE_of m8_3 m8_8 tC3 dC3
   k8_4:=kitE_of m8_4 m8_8 tC4 dC4
   k8_5:=kitE_of m8_5 m8_8 tC5 dC5
   k8_6:=kitE_of m8_6 m8_8 tC6 dC6
   k8_7:=kitE_of m8_7 m8_8 tC7 dC7
   k8_8:=kitE_of m8_8 m8_8 tC8 dC8
   k8_9:=kitE_of m8_9 m8_8 tC9 dC9
   k8_10:=kitE_of m8_10 m8_8 tC10 dC10
   k8_11:=kitE_of m8_11 m8_8 tC11 dC11
   k8_12:=kitE_of m8_12 m8_8 tC12 dC12
   k8_13:=kitE_of m8_13 m8_8 tC13 dC13
   kv8:=kitE_ty ve8 (by decide +kernel) }
 have G:Cn K mg:=⟨⟨_,PySem.W.mg_of X G hcn0⟩⟩
 exact ok_all T G (fun_mk (st:=top 44) l25 c25 k25) B F0 F1 F2 F3 F4 F5 F6 F7 F8 F9 F10 F11 F12 F13 F14 F15 F16 F17 F18 F19 F20 F21 F22 F23 F24 (fun_mk (st:=ini 10) lf8 cf8 kf8) ((fun_mk (st:=ini 10) lf8 cf8 kf8).binds (bd2 rfl fun _ _ _ _ _ _ _ _=>rfl)) iC8 be8
end K33
theorem PySem.Challenge.cw_vesselhall_k33_all_counts_come_to_holds : PySem.Challenge.rw_vesselhall_k33_all_counts_come_to.Holds := by
 exact K33.fin
#print axioms PySem.Challenge.cw_vesselhall_k33_all_counts_come_to_holds

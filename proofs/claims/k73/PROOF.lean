import PyProof.Rows.All
import Wide.All
import OpenK.AllK
import Wide.FinOn
import PyProof.EqAt
import PyProof.EqKinds
import PyProof.TupleCall
import PySem.SetTable
import Wide.Seal
import Lean
import PySem.Challenge.RW_vesselhall_k73_guards
set_option Elab.async false
set_option linter.all false
set_option maxRecDepth 100000
set_option maxHeartbeats 4000000
local macro_rules | `(tactic| walk_at "o") => `(tactic| first | exact Or.inl rfl | exact Or.inr rfl)
local macro_rules | `(tactic| walk_at "c") => `(tactic| exact ⟨rfl,by decide +kernel,by decide +kernel,by decide +kernel,by decide +kernel,rfl,by decide +kernel,by decide +kernel,by decide +kernel⟩)
local macro_rules | `(tactic| walk_at "k") => `(tactic| exact ⟨rfl,by decide +kernel,by decide +kernel,by decide +kernel,rfl,by decide +kernel,by decide +kernel,by decide +kernel⟩)
local macro_rules | `(tactic| walk_at "s") => `(tactic| exact ⟨rfl,rfl,rfl,by decide +kernel,rfl,by decide +kernel,by decide +kernel⟩)
abbrev Fg := PySem.W.Frag
namespace HdT
open PySem PySem.W
def grow:BT→Nat→List Obj→BT
 | T,_,[]=>T
 | T,n,o :: os=>grow (T.ins n o) (n+1) os
def jC:BT→Nat→List Obj→Bool
 | _,_,[]=>true
 | T,n,o :: os=>match ((T.ins n o).get n).isSome with
  | true=>jC (T.ins n o) (n+1) os
  | false=>false
theorem Zad:∀(os:List Obj) (T:BT) (n:Nat) (life:Life),jC T n os=true→absHeap (grow T n os) (n+os.length) life = ⟨(absHeap T n life).objs++os.toArray,life⟩
 | [],T,n,life,_=>by
  show absHeap T n life=_;rw [show ([]:List Obj).toArray = #[] from rfl,Array.append_empty];rfl
 | o :: os,T,n,life,h=>by
  unfold jC at h;split at h
  ·rename_i e;have ih:=Zad os (T.ins n o) (n+1) life h;rw [absHeap_ins e] at ih;show absHeap (grow (T.ins n o) (n+1) os) (n+(os.length+1)) life=_;rw [show n+(os.length+1)=n+1+os.length by omega,ih];show Heap.mk ((absHeap T n life).objs.push o++os.toArray) life=Heap.mk ((absHeap T n life).objs++(o :: os).toArray) life;congr 1;simp
  ·cases h
def runT(tb:String→Option Builtin)(p:Program)(w:World)(n₀ : Nat)(ann:Option Value):Nat→SharedT→Thread→Option SharedT
 | 0,_,_=>none
 | n+1,s,t=>match through t with
  | true=>some s
  | false=>match stepOk n₀ ann t with
   | false=>none
   | true=>match stepT (denote tb) p w s t with
    | some (s',t')=>runT tb p w n₀ ann n s' t'
    | none=>none
theorem ZbA{tb:String→Option Builtin}{p:Program}{w:World}{n₀ : Nat}{ann:Option Value}:∀{n:Nat} {s r:SharedT} {t:Thread},runT tb p w n₀ ann n s t=some r→topRun tb p w n₀ ann n s.abs t=some r.abs
 | 0,_,_,_,h=>by cases h
 | n+1,s,r,t,h=>by
  unfold runT at h;unfold topRun;cases he:through t with
  | true=>rw [he] at h;cases h;rfl
  | false =>
   rw [he] at h;cases hk:stepOk n₀ ann t with
   | false=>rw [hk] at h;cases h
   | true =>
    rw [hk] at h;cases hs:stepT (denote tb) p w s t with
    | none=>rw [hs] at h;cases h
    | some x=>obtain ⟨s₂,t₂⟩:=x;rw [hs] at h;rw [stepT_spec hs];exact ZbA h
noncomputable def Zbt (P:Params) (os:OsState):SharedT:=⟨grow .nil 0 (boot_heap P).objs.toList,(boot_heap P).objs.toList.length,(boot_heap P).life,Array.mk [],boot_drawn,boot_toks,os⟩
theorem ZaC{P:Params}{os:OsState}(h:jC .nil 0 (boot_heap P).objs.toList=true):(Zbt P os).abs = ⟨boot_heap P,Array.mk [],boot_drawn,boot_toks,os⟩:=by
 have e:=Zad (boot_heap P).objs.toList .nil 0 (boot_heap P).life h;rw [Nat.zero_add] at e;unfold SharedT.abs Zbt;simp only;rw [e];congr 1
noncomputable def ends (tb:String→Option Builtin) (mods:List Str) (p:Program) (w:World) (N:Nat) (os:OsState):Option Shared :=
 match (boot_heap w.params).isNs mainGlobals with
 | true=>(runT tb p w (boot_heap w.params).objs.size ((boot_heap w.params).nsMap mainGlobals "__annotations__") N (Zbt w.params os) (topStub p)).bind fun r =>
   match staticsOk mods (boot_heap w.params) r.abs.heap && namesBound p r.abs.heap && gensDone r.abs && laidKept (boot_heap w.params) r.abs.heap with
   | true=>some r.abs
   | false=>none
 | false=>none
theorem Zgh{p:Program}{w:World}{N:Nat}{os:OsState}{r:Shared}(g:jC .nil 0 (boot_heap w.params).objs.toList=true)(h:ends treeTable (importedModules p.main.body) p w N os=some r):topFrom treeTable p w N ⟨boot_heap w.params,Array.mk [],boot_drawn,boot_toks,os⟩=some r:=by
 unfold ends at h;unfold topFrom;cases hi:(boot_heap w.params).isNs mainGlobals with
 | false=>rw [hi] at h;cases h
 | true =>
  rw [hi] at h;simp only at h ⊢;obtain ⟨x,hx,hr⟩:=Option.bind_eq_some_iff.mp h
  have:=ZbA hx
  rw [ZaC g] at this;show (topRun treeTable p w (boot_heap w.params).objs.size ((boot_heap w.params).nsMap mainGlobals "__annotations__") N ⟨boot_heap w.params,Array.mk [],boot_drawn,boot_toks,os⟩ (topStub p)).bind _=_;rw [this];exact hr
theorem left{p q:Program}{loose:List Str}{Xt:Shared→Bool}{α : Type}{Yf:Shared→α}{Ya:World→α}{N:Nat}
  (e:opening p=plainProg p.main.scope.names) (hN:Nat.ble 600 N=true) (f:∀s,fenceModules? p s=some s) (g:∀w:World,jC .nil 0 (boot_heap w.params).objs.toList=true)
  (h:∀w os,(ends treeTable (importedModules p.main.body) p w N os).map (fun s=>(openSeen q loose (importedModules p.main.body) Xt true s,Yf s))=some (openGood q loose,Ya w)):LeftO p q loose Xt Yf Ya N:=fun w=>by
 obtain ⟨s,hs,hv⟩:=Option.map_eq_some_iff.mp (boot_open e hN f w);unfold openEnds;rw [hs];obtain ⟨heap,gens,drawn,toks,os⟩:=s;obtain ⟨h1,h2⟩:=Prod.mk.inj hv;obtain ⟨h2,h3⟩:=Prod.mk.inj h2;obtain ⟨h3,h4⟩:=Prod.mk.inj h3;subst h1 h2 h3 h4;obtain ⟨r,hr,hv⟩:=Option.map_eq_some_iff.mp (h w os);show (topFrom treeTable p w N _).map _=_;rw [Zgh (g w) hr];exact congrArg some hv
theorem cut4 {α β γ δ ε ζ η θ ι : Type} {o : Option Shared} {F : Shared → α × β × γ × δ × ε × ζ × η × θ × ι} {a : α} {b : β} {c : γ} {d : δ} {e : ε} {f : ζ} {g : η} {h : θ} {i : ι} (h1 : o.map (fun s => ((F s).1, (F s).2.1)) = some (a, b)) (h2 : o.map (fun s => (F s).2.2.1) = some c) (h3 : o.map (fun s => ((F s).2.2.2.1, (F s).2.2.2.2.1)) = some (d, e))
    (h4 : o.map (fun s => ((F s).2.2.2.2.2.1, (F s).2.2.2.2.2.2.1, (F s).2.2.2.2.2.2.2.1, (F s).2.2.2.2.2.2.2.2)) = some (f, g, h, i)) : o.map F = some (a, b, c, d, e, f, g, h, i) := by
  cases o with
  | none => cases h1
  | some s =>
    have k1 := Prod.mk.inj (Option.some.inj h1)
    have k3 := Prod.mk.inj (Option.some.inj h3)
    have k4 := Prod.mk.inj (Option.some.inj h4)
    have k5 := Prod.mk.inj k4.2
    have k6 := Prod.mk.inj k5.2
    exact congrArg some (Prod.ext k1.1 (Prod.ext k1.2 (Prod.ext (Option.some.inj h2) (Prod.ext k3.1 (Prod.ext k3.2 (Prod.ext k4.1 (Prod.ext k5.1 (Prod.ext k6.1 k6.2))))))))
end HdT
namespace K73H
open PySem
def qv:PySem.Program:=PySem.W.view PySem.Challenge.pw_vesselhall_k73_guards [1,2,3,4,5,6,7,8,9,10,11,12,13,14,15,17,18,19,21,22,23,24,25,26,27,29,30,31,32,33,34,35,36,38,39,40,42,43,44,45,46,47,49,50,51,52,53,54,55,56,57,58,59,60,61,62,63,64,65,66,67,68,69,70,71,72,73,74]
theorem said(h:PySem.Challenge.rw_vesselhall_k73_guards.row.Holds):PySem.Challenge.rw_vesselhall_k73_guards.Holds:=by
 w_on;o_law;exact h
theorem booted{q:PySem.Program}{loose:List PySem.Str}{Xt:PySem.Shared→Bool}{α : Type}{Yf:PySem.Shared→α}{Ya:PySem.World→α}(h:∀w os,(HdT.ends PySem.treeTable (PySem.importedModules PySem.Challenge.pw_vesselhall_k73_guards.main.body) PySem.Challenge.pw_vesselhall_k73_guards w 9840 os).map (fun s=>(PySem.W.openSeen q loose (PySem.importedModules PySem.Challenge.pw_vesselhall_k73_guards.main.body) Xt true s,Yf s))=some (PySem.W.openGood q loose,Ya w)):PySem.W.LeftO PySem.Challenge.pw_vesselhall_k73_guards q loose Xt Yf Ya 9840 :=
 HdT.left (by kernel_rfl) (by decide) (fun s=>by kernel_rfl) (fun w=>by kernel_rfl) h
local macro_rules | `(tactic| o_head $H)=>`(tactic| refine PySem.W.holds_open (q:=K73H.qv) (loose:=[]) (Xt:=fun s=>PySem.W.xlAt K73H.qv [] s && PySem.W.recOk [] s) (XP:=PySem.W.XL K73H.qv []) (Yf:=PySem.W.Hook.obs $H) (Ya:=PySem.W.Hook.val $H) (YP:=PySem.W.Hook.says $H) (N:=9840) ?_ (PySem.W.Hook.of $H) (PySem.W.Hook.keeps $H) (fun s e=>PySem.W.xl_of s (Bool.and_eq_true_iff.mp e).1) PySem.W.XL.keeps (by rfl) (by rfl) (by rfl) (fun s e=>PySem.W.recFacts_of (Bool.and_eq_true_iff.mp e).2) (by rfl) (by first | assumption | decide +kernel) (by decide +kernel) ⟨rfl,rfl,rfl,rfl,rfl,by decide +kernel⟩ ?_ ?_)
set_option maxRecDepth 100000 in
set_option maxHeartbeats 0 in
open PySem.W PyProof.Rows in
theorem pre(hL:∀(α : Type) (Yf:PySem.Shared→α) (Ya:PySem.World→α),PySem.W.LeftO PySem.Challenge.pw_vesselhall_k73_guards qv [] (fun s=>PySem.W.xlAt qv [] s && PySem.W.recOk [] s) Yf Ya 9840)(hP:PySem.Challenge.rw_vesselhall_k73_guards.row.toRowW.promised)(hC:∀(YP:PySem.World→PySem.Heap→Prop) (d:DefRec),PySem.W.WalkO qv [] (PySem.W.XL qv []) YP PySem.Challenge.rw_vesselhall_k73_guards.row.toRowW d [] (fun f vs=>PySem.call f vs)):PySem.Challenge.rw_vesselhall_k73_guards.row.Holds:=by
 w_on;k_head
 ·exact hL _ _ _
 ·exact hP
 ·exact hC _ _
def asl:List Nat:=[2,3,15,22,23,24,25,28,35,36,37,40,47,48,49,52,59,60,61,64,71,72,73,76,83,84,85,88,95,96,97,100,107,109,110,112,113,114,115,116,119,126,128,129,131,132,133,134,135,138,145,147,148,150,151,152,153,154,157,164,165,166,169,176,177,178,181,188,189,190,193,200,201,202,205,212,213,214,217,219,220,222,223,224,226,227,229,230,231,233,234,236,237,238,240,241,243,244,245,248,249,250,253,254,255,258,259,260,263,264,265,267,268,270,271,272,275,276,277,280,281,282,285,286,287,289,290,292,293,294,297,298,299,302,303,304,306,307,309,310,311,313,314,316,317,318,321,322,323,325,326,328,329,330,333,334,335,338,339,340,343,344,345,348,349,350,353,354,355,358,359,360,363,364,365,368,369,370,372,373,375,376,377,379,380,382,383,384,386,387,389,390,391,393,394,396,397,398,400,401,403,404,405,407,408,410,411,412,415,416,417,419,420,422,423,424,426,427,429,430,431,433,434,436,437,438,440,441,443,444,445,448,449,450,453,454,455,458,459,460,462,463,465,466,467,470,471,479,482,483,484,487,488,489,491,492,494,495,501,503,504,506,507,508,510,511,513,514,515,518,519,520,522,523,525,526,527,530,531]
theorem asl_ok(P:PySem.Params):asl=(pre.heap_1 P).map (·.1):=by kernel_rfl
abbrev seF(s:PySem.Shared):=PySem.W.openSeen (PySem.W.view PySem.Challenge.pw_vesselhall_k73_guards [1,2,3,4,5,6,7,8,9,10,11,12,13,14,15,17,18,19,21,22,23,24,25,26,27,29,30,31,32,33,34,35,36,38,39,40,42,43,44,45,46,47,49,50,51,52,53,54,55,56,57,58,59,60,61,62,63,64,65,66,67,68,69,70,71,72,73,74]) [] (PySem.importedModules PySem.Challenge.pw_vesselhall_k73_guards.main.body) (fun s=>PySem.W.xlAt (PySem.W.view PySem.Challenge.pw_vesselhall_k73_guards [1,2,3,4,5,6,7,8,9,10,11,12,13,14,15,17,18,19,21,22,23,24,25,26,27,29,30,31,32,33,34,35,36,38,39,40,42,43,44,45,46,47,49,50,51,52,53,54,55,56,57,58,59,60,61,62,63,64,65,66,67,68,69,70,71,72,73,74]) [] s && PySem.W.recOk [] s) true s
open PySem.W PyProof.Rows in
set_option maxRecDepth 100000 in
set_option maxHeartbeats 0 in
theorem see1(w:PySem.World)(os:PySem.OsState):(HdT.ends PySem.treeTable (PySem.importedModules PySem.Challenge.pw_vesselhall_k73_guards.main.body) PySem.Challenge.pw_vesselhall_k73_guards w 9840 os).map (fun s=>((seF s).1,(seF s).2.1))=some (expectedOf (PySem.W.view PySem.Challenge.pw_vesselhall_k73_guards [1,2,3,4,5,6,7,8,9,10,11,12,13,14,15,17,18,19,21,22,23,24,25,26,27,29,30,31,32,33,34,35,36,38,39,40,42,43,44,45,46,47,49,50,51,52,53,54,55,56,57,58,59,60,61,62,63,64,65,66,67,68,69,70,71,72,73,74]),bltViewBooted):=by
 unfold seF;rw [PySem.W.Fast.te4187177175401517315,PySem.W.Fast.te5923862056798008813,PySem.W.Fast.te14364793385576792824,PySem.W.Fast.te7620211424622241106];kernel_rfl
open PySem.W PyProof.Rows in
set_option maxRecDepth 100000 in
set_option maxHeartbeats 0 in
theorem see2(w:PySem.World)(os:PySem.OsState):(HdT.ends PySem.treeTable (PySem.importedModules PySem.Challenge.pw_vesselhall_k73_guards.main.body) PySem.Challenge.pw_vesselhall_k73_guards w 9840 os).map (fun s=>(seF s).2.2.1)=some true:=by
 unfold seF;rw [PySem.W.Fast.te4187177175401517315,PySem.W.Fast.te5923862056798008813,PySem.W.Fast.te14364793385576792824,PySem.W.Fast.te7620211424622241106];kernel_rfl
open PySem.W PyProof.Rows in
set_option maxRecDepth 100000 in
set_option maxHeartbeats 0 in
theorem see3(w:PySem.World)(os:PySem.OsState):(HdT.ends PySem.treeTable (PySem.importedModules PySem.Challenge.pw_vesselhall_k73_guards.main.body) PySem.Challenge.pw_vesselhall_k73_guards w 9840 os).map (fun s=>((seF s).2.2.2.1,(seF s).2.2.2.2.1))=some (true,pinGoodD (drecsOf (PySem.W.view PySem.Challenge.pw_vesselhall_k73_guards [1,2,3,4,5,6,7,8,9,10,11,12,13,14,15,17,18,19,21,22,23,24,25,26,27,29,30,31,32,33,34,35,36,38,39,40,42,43,44,45,46,47,49,50,51,52,53,54,55,56,57,58,59,60,61,62,63,64,65,66,67,68,69,70,71,72,73,74]))):=by
 unfold seF;rw [PySem.W.Fast.te4187177175401517315,PySem.W.Fast.te5923862056798008813,PySem.W.Fast.te14364793385576792824,PySem.W.Fast.te7620211424622241106];kernel_rfl
open PySem.W PyProof.Rows in
set_option maxRecDepth 100000 in
set_option maxHeartbeats 0 in
theorem see4(w:PySem.World)(os:PySem.OsState):(HdT.ends PySem.treeTable (PySem.importedModules PySem.Challenge.pw_vesselhall_k73_guards.main.body) PySem.Challenge.pw_vesselhall_k73_guards w 9840 os).map (fun s=>((seF s).2.2.2.2.2.1,(seF s).2.2.2.2.2.2.1,(seF s).2.2.2.2.2.2.2.1,(seF s).2.2.2.2.2.2.2.2))=some (plainGoodE (PySem.W.view PySem.Challenge.pw_vesselhall_k73_guards [1,2,3,4,5,6,7,8,9,10,11,12,13,14,15,17,18,19,21,22,23,24,25,26,27,29,30,31,32,33,34,35,36,38,39,40,42,43,44,45,46,47,49,50,51,52,53,54,55,56,57,58,59,60,61,62,63,64,65,66,67,68,69,70,71,72,73,74]) (looseW (PySem.W.view PySem.Challenge.pw_vesselhall_k73_guards [1,2,3,4,5,6,7,8,9,10,11,12,13,14,15,17,18,19,21,22,23,24,25,26,27,29,30,31,32,33,34,35,36,38,39,40,42,43,44,45,46,47,49,50,51,52,53,54,55,56,57,58,59,60,61,62,63,64,65,66,67,68,69,70,71,72,73,74]) []),plainGoodD (PySem.W.view PySem.Challenge.pw_vesselhall_k73_guards [1,2,3,4,5,6,7,8,9,10,11,12,13,14,15,17,18,19,21,22,23,24,25,26,27,29,30,31,32,33,34,35,36,38,39,40,42,43,44,45,46,47,49,50,51,52,53,54,55,56,57,58,59,60,61,62,63,64,65,66,67,68,69,70,71,72,73,74]) [],wideGood (PySem.W.view PySem.Challenge.pw_vesselhall_k73_guards [1,2,3,4,5,6,7,8,9,10,11,12,13,14,15,17,18,19,21,22,23,24,25,26,27,29,30,31,32,33,34,35,36,38,39,40,42,43,44,45,46,47,49,50,51,52,53,54,55,56,57,58,59,60,61,62,63,64,65,66,67,68,69,70,71,72,73,74]),clsGoodW (PySem.W.view PySem.Challenge.pw_vesselhall_k73_guards [1,2,3,4,5,6,7,8,9,10,11,12,13,14,15,17,18,19,21,22,23,24,25,26,27,29,30,31,32,33,34,35,36,38,39,40,42,43,44,45,46,47,49,50,51,52,53,54,55,56,57,58,59,60,61,62,63,64,65,66,67,68,69,70,71,72,73,74]) []):=by
 unfold seF;rw [PySem.W.Fast.te4187177175401517315,PySem.W.Fast.te5923862056798008813,PySem.W.Fast.te14364793385576792824,PySem.W.Fast.te7620211424622241106];kernel_rfl
theorem seen(w:PySem.World)(os:PySem.OsState):(HdT.ends PySem.treeTable (PySem.importedModules PySem.Challenge.pw_vesselhall_k73_guards.main.body) PySem.Challenge.pw_vesselhall_k73_guards w 9840 os).map (fun s=>PySem.W.openSeen (PySem.W.view PySem.Challenge.pw_vesselhall_k73_guards [1,2,3,4,5,6,7,8,9,10,11,12,13,14,15,17,18,19,21,22,23,24,25,26,27,29,30,31,32,33,34,35,36,38,39,40,42,43,44,45,46,47,49,50,51,52,53,54,55,56,57,58,59,60,61,62,63,64,65,66,67,68,69,70,71,72,73,74]) [] (PySem.importedModules PySem.Challenge.pw_vesselhall_k73_guards.main.body) (fun s=>PySem.W.xlAt (PySem.W.view PySem.Challenge.pw_vesselhall_k73_guards [1,2,3,4,5,6,7,8,9,10,11,12,13,14,15,17,18,19,21,22,23,24,25,26,27,29,30,31,32,33,34,35,36,38,39,40,42,43,44,45,46,47,49,50,51,52,53,54,55,56,57,58,59,60,61,62,63,64,65,66,67,68,69,70,71,72,73,74]) [] s && PySem.W.recOk [] s) true s)=some (PySem.W.openGood (PySem.W.view PySem.Challenge.pw_vesselhall_k73_guards [1,2,3,4,5,6,7,8,9,10,11,12,13,14,15,17,18,19,21,22,23,24,25,26,27,29,30,31,32,33,34,35,36,38,39,40,42,43,44,45,46,47,49,50,51,52,53,54,55,56,57,58,59,60,61,62,63,64,65,66,67,68,69,70,71,72,73,74]) []):=HdT.cut4 (F:=fun s=>seF s) (see1 w os) (see2 w os) (see3 w os) (see4 w os)
set_option maxRecDepth 100000 in
set_option maxHeartbeats 0 in
theorem hook(w:PySem.World)(os:PySem.OsState):(HdT.ends PySem.treeTable (PySem.importedModules PySem.Challenge.pw_vesselhall_k73_guards.main.body) PySem.Challenge.pw_vesselhall_k73_guards w 9840 os).map (fun s=>asl.map s.heap.get?)=some ((pre.heap_1 w.params).map fun p=>some p.2):=by
 unfold asl;rw [PySem.W.Fast.te5923862056798008813,PySem.W.Fast.te14364793385576792824,PySem.W.Fast.te7620211424622241106];kernel_rfl
theorem hooks:PySem.W.LeftO PySem.Challenge.pw_vesselhall_k73_guards qv [] (fun s=>PySem.W.xlAt qv [] s && PySem.W.recOk [] s) (fun s=>asl.map s.heap.get?) (fun w=>(pre.heap_1 w.params).map fun p=>some p.2) 9840 :=
 booted (fun w=>fun os=>by
  obtain ⟨s,e,a⟩:=Option.map_eq_some_iff.mp (seen w os)
  have b:=hook w os
  rw [e] at b ⊢
  exact congrArg some (Prod.ext a (Option.some.inj b)))
end K73H
set_option Elab.async false
set_option linter.all false
set_option maxRecDepth 100000
set_option maxHeartbeats 4000000
set_option Elab.async false
set_option linter.all false
set_option maxRecDepth 100000
namespace L2
open PySem PySem.Spec PyProof.Rows
abbrev Key:=Sum Int Str
def Zho:Key→Value→Bool
 | .inl k,v=>Value.isInt k v
 | .inr x,v=>Value.isStrOf x v
def keyH(w:World):Key→Int
 | .inl k=>hashInt k
 | .inr x=>hashStr w x
theorem Yb:∀{k:Key} {v:Value},Zho k v=true→(∃i t,k=Sum.inl i∧v=Value.int i t)∨(∃x t,k=Sum.inr x∧v=Value.str x t)
 | .inl i,v,h=>by
  obtain ⟨t,e⟩:=Value.isInt_shape (k:=i) (v:=v) h;exact .inl ⟨i,t,rfl,e⟩
 | .inr x,v,h=>by
  obtain ⟨t,e⟩:=Value.isStrOf_shape (x:=x) (v:=v) h;exact .inr ⟨x,t,rfl,e⟩
theorem Zhn(a b:Int):decide ((Sum.inl a:Key)=Sum.inl b)=(a == b):=by
 by_cases e:a=b
 ·subst e;simp
 ·have h : ¬ (Sum.inl a:Key)=Sum.inl b:=fun q=>e (Sum.inl.inj q)
  rw [decide_eq_false h];exact (beq_eq_false_iff_ne.mpr e).symm
theorem Zhk(a b:Str):decide ((Sum.inr a:Key)=Sum.inr b)=decide (a=b):=by
 by_cases e:a=b
 ·subst e;simp
 ·have h : ¬ (Sum.inr a:Key)=Sum.inr b:=fun q=>e (Sum.inr.inj q)
  rw [decide_eq_false h,decide_eq_false e]
theorem Zhm(a:Int)(b:Str):decide ((Sum.inl a:Key)=Sum.inr b)=false:=decide_eq_false (fun q=>nomatch q)
theorem Zhl(a:Str)(b:Int):decide ((Sum.inr a:Key)=Sum.inl b)=false:=decide_eq_false (fun q=>nomatch q)
def Zb5(prog:Program)(w:World):PySem.KeyKind prog w Key where
 is:=Zho
 hash:=keyH w
 inj:=fun v a b ha hb=>by
  rcases Yb ha with ⟨i,t,rfl,rfl⟩ | ⟨x,t,rfl,rfl⟩
  ·rcases Yb hb with ⟨j,u,rfl,e⟩ | ⟨y,u,rfl,e⟩
   ·injection e with e1 _;rw [e1]
   ·exact nomatch e
  ·rcases Yb hb with ⟨j,u,rfl,e⟩ | ⟨y,u,rfl,e⟩
   ·exact nomatch e
   ·injection e with e1 _;rw [e1]
 byValue:=fun k v h=>by
  rcases Yb h with ⟨i,t,rfl,rfl⟩ | ⟨x,t,rfl,rfl⟩ <;> rfl
 pyHash:=fun hv h=>by
  rcases Yb hv with ⟨i,t,rfl,rfl⟩ | ⟨x,t,rfl,rfl⟩
  ·exact wpAny_pyHash_int h
  ·exact wpAny_pyHash_str h
 eqBool:=fun hu hv h=>by
  rcases Yb hu with ⟨i,t,rfl,rfl⟩ | ⟨x,t,rfl,rfl⟩
  ·rcases Yb hv with ⟨j,u,rfl,rfl⟩ | ⟨y,u,rfl,rfl⟩
   ·rw [Zhn] at h;exact wpAny_eqBool_int h
   ·rw [Zhm] at h;exact SeqAt.EqAt.int_str i t y u _ _ _ _ h
  ·rcases Yb hv with ⟨j,u,rfl,rfl⟩ | ⟨y,u,rfl,rfl⟩
   ·rw [Zhl] at h;exact SeqAt.EqAt.str_int x t j u _ _ _ _ h
   ·rw [Zhk] at h;exact wpAny_eqBool_str h
 «strs»:=fun k x t v h=>by
  rcases Yb h with ⟨i,u,rfl,e⟩ | ⟨y,u,rfl,e⟩
  ·exact nomatch e
  ·injection e with e1 _
   subst e1;cases v <;> rfl
inductive V where
 | non | bl (b:Bool) | int (i:Int) | str (x:Str) | byt (b:Array UInt8) | flt (b:UInt64) | ref (a:Addr) | ty (n:String)
 deriving DecidableEq
def RelV:V→Value→Prop
 | .non,u=>u=Value.none
 | .bl b,u=>u=Value.bool b
 | .int i,u=>∃t,u=Value.int i t
 | .str x,u=>∃t,u=Value.str x t
 | .byt b,u=>∃t,u=Value.bytes b t
 | .flt b,u=>∃t,u=Value.float b t
 | .ref a,u=>u=Value.ref a
 | .ty n,u=>u=Value.type n
abbrev Vals:List V→List Value→Prop:=Paired RelV
theorem Vals.length{xs:List V}{us:List Value}(r:Vals xs us):xs.length=us.length:=Paired.length r
theorem Vals.get:∀{xs:List V} {us:List Value} {i:Nat} {x:V},Vals xs us→xs[i]? = some x→∃u,us[i]? = some u∧RelV x u
 | _,_,_,_,.nil,e=>by simp at e
 | _,_,0,_,.cons r _,e=>by simp at e;subst e;exact ⟨_,rfl,r⟩
 | _,_,i+1,x,.cons _ t,e=>by
  obtain ⟨u,h1,h2⟩:=Vals.get (i:=i) (x:=x) t (by simpa using e);exact ⟨u,by simpa using h1,h2⟩
theorem Vals.set{x:V}{u:Value}(r:RelV x u):∀{xs:List V} {us:List Value} (i:Nat),Vals xs us→Vals (xs.set i x) (us.set i u)
 | _,_,_,.nil=>.nil
 | _,_,0,.cons _ t=>.cons r t
 | _,_,i+1,.cons q t=>.cons q (Vals.set r i t)
theorem Vals.append:∀{xs ys:List V} {us ws:List Value},Vals xs us→Vals ys ws→Vals (xs++ys) (us++ws)
 | _,_,_,_,.nil,s=>s
 | _,_,_,_,.cons r t,s=>.cons r (Vals.append t s)
theorem Vals.take:∀{xs:List V} {us:List Value} (n:Nat),Vals xs us→Vals (xs.take n) (us.take n)
 | _,_,0,_=>.nil
 | _,_,_+1,.nil=>.nil
 | _,_,n+1,.cons r t=>.cons r (Vals.take n t)
theorem Vals.drop:∀{xs:List V} {us:List Value} (n:Nat),Vals xs us→Vals (xs.drop n) (us.drop n)
 | _,_,0,r=>r
 | _,_,_+1,.nil=>.nil
 | _,_,n+1,.cons _ t=>Vals.drop n t
def RelO:Option V→Option Value→Prop
 | some v,some u=>RelV v u
 | none,none=>True
 | _,_=>False
def KV{κ : Type}:List (κ×V)→List (κ×Value)→Prop:=Paired fun (p : κ×V) (q : κ×Value)=>p.1=q.1∧RelV p.2 q.2
def kV:Key→V
 | .inl i=>.int i
 | .inr x=>.str x
inductive HO where
 | lst (xs:List V)
 | tup (xs:List V)
 | dK (kvs:List (Key×V)) | dT (kvs:List (List Key×V))
 | set (S:Int→Bool) (n:Nat)
 | ins (C dx:Addr) (fs:List (Str×V))
 | own (x:Addr)
 | xd (fs:List (Str×V))
 | met (f x:Addr)
 | rng (lo hi:Int)
 | frz (o:Obj) (u:HO)
 | tbl (ps:Array Value)
 | ext (φ : Heap→Prop)
abbrev Hp:=Addr→Option HO
def upd(H:Hp)(a:Addr)(o:HO):Hp:=fun b=>if b=a then some o else H b
theorem Zh{H:Hp}{a:Addr}{o:HO}:upd H a o a=some o:=by unfold upd;rw [if_pos rfl]
theorem ZD{H:Hp}{a b:Addr}{o:HO}(h:b≠a):upd H a o b=H b:=by unfold upd;rw [if_neg h]
theorem Zz{H:Hp}{a b:Addr}{o:HO}(h:H a=some o)(h':H b=none):a≠b:=by
 intro e;subst e;rw [h] at h';cases h'
section
variable(P:Program)(w:World)
def YQ(H:Hp)(h:Heap)(a:Addr):HO→Prop
 | .lst xs=>xs.length≤sizeLine∧∃(its:List Value) (n:Nat),Vals xs its∧h.get? a=some { cls:=.type "list",data:=.seq its.toArray n }
 | .tup xs=>xs.length≤sizeLine∧∃its:List Value,Vals xs its∧IsTup h a its.toArray
 | .dK kvs=>kvs.length≤sizeLine∧(a == sysModules)=false∧∃vs,KV kvs vs∧h.DictOf (Zb5 P w) a vs
 | .dT kvs=>kvs.length≤sizeLine∧(a == sysModules)=false∧∃xs:List (List Key×Addr×Value),
   Paired (fun (p:List Key×V) (q:List Key×Addr×Value)=>p.1=q.1∧H q.2.1=some (.tup (p.1.map kV))∧RelV p.2 q.2.2) kvs xs ∧
   ∃o es ep,h.get? a=some o∧o.ExactDict∧o.data = .dict es ep∧es.toList=xs.map (entryOfKey (tupleKind (Zb5 P w)))∧(xs.map (·.1)).Nodup
 | .set S n=>h.SetOf (intKind P w) a S n
 | .ins C dx fs=>H dx=some (.own a)∧fs.length≤1000∧dx≠a∧h.get? a=some (PySem.W.instObj C dx) ∧
   ∃mA,h.Ns1 dx mA∧(∀f,RelO (fs.lookup f) (mA f))∧PySem.Within mA (fs.map (·.1))
 | .own _=>∃o,h.get? a=some o
 | .xd fs=>∃mA,h.Ns1 a mA∧∀f,RelO (fs.lookup f) (mA f)
 | .rng lo hi=>∃t u v,h.get? a=some { cls:=.type "range",data:=.fields #[.int lo t,.int hi u,.int 1 v] }
 | .frz o u=>h.get? a=some o∧YQ H h a u
 | .tbl ps=>h.get? a=some { cls:=.none,data:=.fields ps }
 | .met f x=>h.get? a=some (PySem.W.methodObj (.ref f) (.ref x))
 | .ext φ=>φ h∧(∃o,h.get? a=some o)∧∀h1 h2:Heap,φ h1→(∀o,h1.get? a=some o→h2.get? a=some o)→φ h2
def HOk(H:Hp)(h:Heap):Prop:=∀a o,H a=some o→YQ P w H h a o
end
section
variable{P:Program}{w:World}{H H':Hp}{h h':Heap}{a:Addr}{o:HO}
theorem YQ.lt(x:YQ P w H h a o):a < h.objs.size:=by
 cases o with
 | lst xs=>obtain ⟨_,_,_,_,e⟩:=x;exact Heap.lt_size e
 | tup xs=>obtain ⟨_,_,_,p⟩:=x;exact p.lt
 | dK kvs=>obtain ⟨_,_,_,_,o,_,_,e,_⟩:=x;exact Heap.lt_size e
 | dT kvs=>obtain ⟨_,_,_,_,o,_,_,e,_⟩:=x;exact Heap.lt_size e
 | set S n=>obtain ⟨o,_,_,_,e,_⟩:=x;exact Heap.lt_size e
 | ins C dx fs=>obtain ⟨_,_,_,e,_⟩:=x;exact Heap.lt_size e
 | own y=>obtain ⟨_,e⟩:=x;exact Heap.lt_size e
 | xd fs=>obtain ⟨_,⟨_,_,_,e,_⟩,_⟩:=x;exact Heap.lt_size e
 | rng lo hi=>obtain ⟨_,_,_,e⟩:=x;exact Heap.lt_size e
 | frz ob u=>obtain ⟨e,_⟩:=x;exact Heap.lt_size e
 | tbl ps=>exact Heap.lt_size (show h.get? a=some _ from x)
 | met f y=>exact Heap.lt_size (show h.get? a=some _ from x)
 | ext φ=>obtain ⟨_,⟨_,e⟩,_⟩:=x;exact Heap.lt_size e
theorem Paired.mapP{α β : Type}{F G : α→β→Prop}:∀{l₁ : List α} {l₂ : List β},Paired F l₁ l₂→(∀a b,F a b→G a b)→Paired G l₁ l₂
 | _,_,.nil,_=>.nil
 | _,_,.cons r t,f=>.cons (f _ _ r) (Paired.mapP t f)
theorem YQ.stay(x:YQ P w H h a o)(k:∀b u,(b=a∨H b=some (.own a))→h.get? b=some u→h'.get? b=some u)
  (ho:∀b,H b=some (.own a)→H' b=some (.own a)) (ht:∀b xs,H b=some (.tup xs)→H' b=some (.tup xs)):YQ P w H' h' a o:=by
 induction o with
 | lst xs=>obtain ⟨z,its,n,r,e⟩:=x;exact ⟨z,its,n,r,k _ _ (.inl rfl) e⟩
 | tup xs=>obtain ⟨z,its,r,ob,e,c⟩:=x;exact ⟨z,its,r,ob,k _ _ (.inl rfl) e,c⟩
 | dK kvs=>obtain ⟨z,y,vs,r,ob,es,ep,e,c⟩:=x;exact ⟨z,y,vs,r,ob,es,ep,k _ _ (.inl rfl) e,c⟩
 | dT kvs =>
  obtain ⟨z,y,xs,r,ob,es,ep,e,c⟩:=x;exact ⟨z,y,xs,Paired.mapP r fun p q z=>⟨z.1,ht _ _ z.2.1,z.2.2⟩,ob,es,ep,k _ _ (.inl rfl) e,c⟩
 | set S n=>obtain ⟨ob,es,ep,t,e,c⟩:=x;exact ⟨ob,es,ep,t,k _ _ (.inl rfl) e,c⟩
 | ins C dx fs =>
  obtain ⟨d,z,ne,e,mA,⟨od,es,ep,e2,c⟩,r⟩:=x;exact ⟨ho _ d,z,ne,k _ _ (.inl rfl) e,mA,⟨od,es,ep,k _ _ (.inr d) e2,c⟩,r⟩
 | own y=>obtain ⟨ob,e⟩:=x;exact ⟨ob,k _ _ (.inl rfl) e⟩
 | xd fs=>obtain ⟨mA,⟨od,es,ep,e,c⟩,r⟩:=x;exact ⟨mA,⟨od,es,ep,k _ _ (.inl rfl) e,c⟩,r⟩
 | rng lo hi=>obtain ⟨t,u,v,e⟩:=x;exact ⟨t,u,v,k _ _ (.inl rfl) e⟩
 | frz ob u ih=>obtain ⟨e,q⟩:=x;exact ⟨k _ _ (.inl rfl) e,ih q⟩
 | tbl ps =>
  have e:h.get? a=some { cls:=.none,data:=.fields ps }:=x;show h'.get? a=some { cls:=.none,data:=.fields ps };exact k a _ (.inl rfl) e
 | met f y =>
  have e:h.get? a=some (PySem.W.methodObj (.ref f) (.ref y)):=x;show h'.get? a=some (PySem.W.methodObj (.ref f) (.ref y));exact k a _ (.inl rfl) e
 | ext φ=>obtain ⟨p,⟨o,e⟩,st⟩:=x;exact ⟨st _ _ p fun o q=>k _ _ (.inl rfl) q,⟨o,k _ _ (.inl rfl) e⟩,st⟩
theorem HOk.lt(x:HOk P w H h)(e:H a=some o):a < h.objs.size:=(x a o e).lt
theorem HOk.fresh(x:HOk P w H h)(e:h.objs.size≤a):H a=none:=by
 cases q:H a with
 | none=>rfl
 | some u=>exact absurd (Nat.lt_of_lt_of_le (x.lt q) e) (Nat.lt_irrefl _)
theorem HOk.kept(x:HOk P w H h)(k:∀b u,h.get? b=some u→h'.get? b=some u):HOk P w H h':=fun a o e =>
 (x a o e).stay (fun b u _ q=>k b u q) (fun _ q=>q) fun _ _ q=>q
theorem HOk.laid(x:HOk P w H h)(k:∀b u,h.get? b=some u→h'.get? b=some u)(hp:h.objs.size≤a)(new:YQ P w (upd H a o) h' a o):HOk P w (upd H a o) h':=fun b u e=>by
 have hn:=x.fresh hp;by_cases hb:b=a
 ·subst hb;rw [Zh] at e;cases e;exact new
 ·rw [ZD hb] at e;exact (x b u e).stay (fun c v _ q=>k c v q) (fun c q=>by rw [ZD (Zz q hn)];exact q) fun c xs q=>by rw [ZD (Zz q hn)];exact q
end
def Rd(H:Hp)(a:Addr)(u:HO):Prop:=H a=some u∨∃o,H a=some (.frz o u)
theorem Rd.ok{P:Program}{w:World}{H:Hp}{h:Heap}{a:Addr}{u:HO}(r:Rd H a u)(x:HOk P w H h):YQ P w H h a u:=by
 rcases r with r | ⟨o,r⟩
 ·exact x a u r
 ·obtain ⟨_,q⟩:=x a _ r;exact q
def Mut:Option HO→Prop
 | some (.lst _)=>True
 | some (.dK _)=>True
 | some (.dT _)=>True
 | some (.set _ _)=>True
 | some (.ins _ _ _)=>True
 | some (.ext _)=>True
 | _=>False
section
variable{P:Program}{w:World}{H:Hp}{h h':Heap}{x e:Addr}{o':HO}
theorem HOk.write(ok:HOk P w H h)(mu:Mut (H x))(he:e=x∨H e=some (.own x))(k:∀b u,b≠e→h.get? b=some u→h'.get? b=some u)(heo:∃u,h'.get? e=some u)
  (new:YQ P w (upd H x o') h' x o'):HOk P w (upd H x o') h':=fun b u q=>by
 have nown:∀c y,H c=some (.own y)→c≠x:=fun c y r z=>by subst z;rw [r] at mu;exact mu
 have ntup:∀c xs,H c=some (.tup xs)→c≠x:=fun c xs r z=>by subst z;rw [r] at mu;exact mu
 by_cases hb:b=x
 ·subst hb;rw [Zh] at q;cases q;exact new
 ·rw [ZD hb] at q;by_cases hbe:b=e
  ·have q':H b=some (.own x):=by
    rcases he with z | z
    ·exact absurd (hbe.trans z) hb
    ·rw [hbe];exact z
   rw [q] at q';cases q';obtain ⟨v,hv⟩:=heo;exact ⟨v,by rw [hbe];exact hv⟩
  ·refine (ok b u q).stay (fun c v hc r=>k c v ?_ r) (fun c r=>by rw [ZD (nown c b r)];exact r) fun c xs r=>by rw [ZD (ntup c xs r)];exact r
   rcases hc with rfl | hc
   ·exact hbe
   ·rintro rfl;rcases he with z | z
    ·exact nown c b hc z
    ·rw [hc] at z;cases z;exact hb rfl
end
structure Un (fs ex:List Addr) (H H':Hp) (h h':Heap):Prop where
 keep:∀b o,h.get? b=some o→H b=none→b∉fs→b∉ex→h'.get? b=some o
 slot:∀b o,h.get? b=some o→H b=none→b∈fs→b∉ex→∃sl,h'.get? b=some { o with slots:=sl }
 free:∀b o,h.get? b=some o→H b=none→b∉ex→H' b=none
 there:∀b o,h.get? b=some o→b∉ex→∃o',h'.get? b=some o'
 tups:∀b xs,H b=some (.tup xs)→H' b=some (.tup xs)
 frzs:∀b o u,H b=some (.frz o u)→H' b=some (.frz o u)
 tbls:∀b ps,H b=some (.tbl ps)→∃more,H' b=some (.tbl (ps++more))
section
variable{fs fs' ex ex':List Addr}{H H1 H2:Hp}{h h1 h2 h':Heap}{a x e:Addr}{o:HO}
theorem Un.any(u:Un fs ex H H1 h h1){b:Addr}{ob:Obj}(q:h.get? b=some ob)(n:H b=none)(hx:b∉ex):∃sl,h1.get? b=some { ob with slots:=sl }:=by
 by_cases hb:b∈fs
 ·exact u.slot b ob q n hb hx
 ·exact ⟨ob.slots,u.keep b ob q n hb hx⟩
theorem Un.kept(k:∀b u,h.get? b=some u→h'.get? b=some u):Un fs ex H H h h' :=
 ⟨fun b ob q _ _ _=>k b ob q,fun b ob q _ _ _=>⟨ob.slots,k b ob q⟩,fun _ _ _ n _=>n,fun b ob q _=>⟨ob,k b ob q⟩,fun _ _ q=>q,fun _ _ _ q=>q,fun _ ps q=>⟨#[],by rw [q];simp⟩⟩
theorem Un.refl:Un fs ex H H h h:=Un.kept fun _ _ q=>q
theorem Un.laid(k:∀b u,h.get? b=some u→h'.get? b=some u)(hp:h.objs.size≤a)(hn:H a=none):Un fs ex H (upd H a o) h h' where
 keep:=fun b u q _ _ _=>k b u q
 slot:=fun b u q _ _ _=>⟨u.slots,k b u q⟩
 free:=fun b u q n _=>by rw [ZD (Nat.ne_of_lt (Nat.lt_of_lt_of_le (Heap.lt_size q) hp))];exact n
 there:=fun b u q _=>⟨u,k b u q⟩
 tups:=fun b xs q=>by rw [ZD (Zz q hn)];exact q
 frzs:=fun b u xs q=>by rw [ZD (Zz q hn)];exact q
 tbls:=fun b ps q=>⟨#[],by rw [ZD (Zz q hn),q];simp⟩
theorem Un.write(mu:Mut (H x))(he:e=x∨H e=some (.own x))(k:∀b u,b≠e→h.get? b=some u→h'.get? b=some u)(heo:∃u,h'.get? e=some u):Un fs ex H (upd H x o) h h':=by
 have hx:∀b,H b=none→b≠x:=fun b n z=>by subst z;rw [n] at mu;exact mu
 have hb:∀b,H b=none→b≠e:=fun b n z=>by
  subst z;rcases he with r | r
  ·exact hx b n r
  ·rw [n] at r;cases r
 have hm:∀b u,H b=some u→¬ Mut (some u)→b≠x:=fun b u q nm z=>by subst z;rw [q] at mu;exact nm mu
 refine ⟨fun b u q n _ _=>k b u (hb b n) q,fun b u q n _ _=>⟨u.slots,k b u (hb b n) q⟩,fun b u q n _=>by rw [ZD (hx b n)];exact n,fun b u q _=>?_,
  fun b xs q=>by rw [ZD (hm b _ q fun z=>z)];exact q,fun b u xs q=>by rw [ZD (hm b _ q fun z=>z)];exact q,fun b ps q=>⟨#[],by rw [ZD (hm b _ q fun z=>z),q];simp⟩⟩
 by_cases hbe:b=e
 ·subst hbe;exact heo
 ·exact ⟨u,k b u hbe q⟩
end
def trk(h:Heap)(H:Hp):List Addr:=(List.range h.objs.size).filter fun a=>(H a).isSome
def hidT(h:Heap)(H:Hp):Heap:=PySem.W.hideAll h (trk h H)
theorem ZcA(h:Heap)(H:Hp):(hidT h H).objs.size=h.objs.size:=PySem.W.hideAll_size _ _
theorem Zeb{h:Heap}{H:Hp}{b:Addr}{o:Obj}(e:h.get? b=some o)(n:H b=none):(hidT h H).get? b=some o :=
 PySem.W.hideAll_get _ e fun hm=>by
  have q:(H b).isSome=true:=(List.mem_filter.mp hm).2;rw [n] at q;simp at q
theorem ZfA{h:Heap}{H:Hp}{b:Addr}{o:Obj}(e:(hidT h H).get? b=some o):h.get? b=some o∧H b=none:=by
 have e':h.get? b=some o:=PySem.W.of_hideAll (trk h H) e;refine ⟨e',?_⟩;cases q:H b with
 | none=>rfl
 | some x =>
  have hm:b∈trk h H:=List.mem_filter.mpr ⟨List.mem_range.mpr (Heap.lt_size e'),by simp [q]⟩;have z:(hidT h H).get? b=none:=PySem.W.hideAll_none (trk h H) hm;rw [z] at e;cases e
structure Mod (K:Fg) (mg:Str→Option Value) (base:Heap):Prop where
 kin:K.In base
 glob:base.Ns mainGlobals mg
 blt:∃mb,base.Ns builtinsNs mb∧∀x:Str,x≠"__name__"→mb x=bootBuiltins x
 nolimit:base.NoLimit
structure Cx where
 prog:Program
 w:World
 K:Fg
 mg:Str→Option Value
 base:Heap
 A:Around
 N:List Str
 s₀ : Shared
 H₀ : Hp
 env:Env
 outer:List Env
 stack:List Env
 ex:List Addr
 fn:Str→Bool
 calm:Bool
 pn:List (Addr×Obj)
 xe:Value→Shared→Prop
def frs(l:List Env):List Addr:=l.filterMap (·.frame)
abbrev Cx.fs(X:Cx):List Addr:=frs X.outer
def Vis(sc:Scope)(x:Str):Prop:=sc.names.lookup x=some .local∨sc.names.lookup x=some .cell∨sc.names.lookup x=some .free
def Loc(sc:Scope)(x:Str):Prop:=sc.names.lookup x=some .local∨sc.names.lookup x=some .cell
def Look(env:Env)(h:Heap)(m:Str→Option Value)(x:Str)(u:Value):Prop :=
 (env.kindOf x=some .local∧m x=some u)∨((env.kindOf x=some .cell∨env.kindOf x=some .free)∧∃c,env.cells.lookup x=some c∧h.IsCell c (some u))
structure Cx.Ok (X:Cx):Prop where
 mod:Mod X.K X.mg X.base
 kind:X.env.scope.kind = .function
 glob:X.env.globals=mainGlobals
 blt:X.env.builtins=builtinsNs
 above:X.s₀.heap.objs.size≤X.env.locals
 inj:∀x y c,X.env.cells.lookup x=some c→X.env.cells.lookup y=some c→x=y
 has:∀x,(X.env.kindOf x=some .cell∨X.env.kindOf x=some .free)→∃c,X.env.cells.lookup x=some c
 cab:∀x c,X.fn x=true→X.env.cells.lookup x=some c→X.s₀.heap.objs.size≤c
 hd:X.calm=true→X.A.handled=none
 frames:X.A.frames=some X.stack
 stk:X.stack=X.outer∨(X.stack=X.env :: X.outer∧X.env.frame=some X.env.locals)
 exf:∀b∈X.ex,b≠X.env.locals∧∀x c,X.env.cells.lookup x=some c→c≠b
 bs:∀b o,X.base.get? b=some o→X.s₀.heap.get? b=some o∧X.H₀ b=none
 bsz:X.base.objs.size≤X.s₀.heap.objs.size
 noex:∀b o,X.base.get? b=some o→b∉X.ex
 exfs:∀b∈X.ex,b∉X.fs
 funs:X.s₀.heap.FunFrames X.base X.outer
 frf:∀b∈X.fs,X.H₀ b=none
structure Inv (X:Cx) (pins:List (Addr×Obj)) (σ : List (Option V)) (H:Hp) (s:Shared):Prop where
 ok:X.Ok
 os:s.os=X.s₀.os
 bare:AllBare s.gens
 base:Un X.fs X.ex X.H₀ H X.s₀.heap s.heap
 loc:∃m,s.heap.Ns X.env.locals m∧∀(i:Nat) (x:Str) (v:V),X.N[i]? = some x→σ[i]? = some (some v)→Vis X.env.scope x→∃u,RelV v u∧Look X.env s.heap m x u
 cell:∀x c,X.env.cells.lookup x=some c→∃v,s.heap.IsCell c v
 free:H X.env.locals=none
 freeC:∀x c,X.env.cells.lookup x=some c→H c=none
 pin:∀p∈X.pn++pins,s.heap.get? p.1=some p.2∧H p.1=none∧p.1≠X.env.locals∧p.1∉X.fs∧∀v,p.2.data≠.cell v
 hok:HOk X.prog X.w H s.heap
 len : σ.length=X.N.length
section
variable{X:Cx}{pins:List (Addr×Obj)}{σ : List (Option V)}{H H':Hp}{s:Shared}{h':Heap}
theorem Cx.Ok.nofr(ok:X.Ok){b:Addr}{o:Obj}(e:X.base.get? b=some o):b∉X.fs:=fun hb=>by
 have:=(ok.funs.mem hb).1
 rw [e] at this;cases this
theorem Inv.bs(I:Inv X pins σ H s):∀b o,X.base.get? b=some o→s.heap.get? b=some o∧H b=none:=fun b o e =>
 ⟨I.base.keep b o (I.ok.bs b o e).1 (I.ok.bs b o e).2 (I.ok.nofr e) (I.ok.noex b o e),I.base.free b o (I.ok.bs b o e).1 (I.ok.bs b o e).2 (I.ok.noex b o e)⟩
theorem Inv.bk(I:Inv X pins σ H s):∀b o,X.base.get? b=some o→s.heap.get? b=some o:=fun b o e=>(I.bs b o e).1
theorem Inv.mod(I:Inv X pins σ H s):Mod X.K X.mg X.base:=I.ok.mod
theorem Inv.kIn(I:Inv X pins σ H s):X.K.In s.heap:=I.ok.mod.kin.keeps I.bk
theorem Inv.lt(I:Inv X pins σ H s):X.env.locals < s.heap.objs.size:=let ⟨_,hn,_⟩:=I.loc;hn.lt
theorem Inv.sz(I:Inv X pins σ H s):X.s₀.heap.objs.size≤s.heap.objs.size:=Nat.le_trans I.ok.above (Nat.le_of_lt I.lt)
theorem Inv.nofs(I:Inv X pins σ H s){a:Addr}(h:s.heap.objs.size≤a):a∉X.fs:=fun hb=>by
 obtain ⟨_,o,ho,_⟩:=I.ok.funs.mem hb;exact absurd (Nat.lt_of_lt_of_le (Heap.lt_size ho) (Nat.le_trans I.sz h)) (Nat.lt_irrefl _)
theorem Inv.cne(I:Inv X pins σ H s):∀x c,X.env.cells.lookup x=some c→c≠X.env.locals:=fun x c e z=>by
 obtain ⟨v,o,ho,hd⟩:=I.cell x c e;obtain ⟨m,⟨o',es,ep,ho',hd',_⟩,_⟩:=I.loc;rw [z,ho'] at ho;cases ho;rw [hd'] at hd;cases hd
theorem Inv.funs(I:Inv X pins σ H s):s.heap.FunFrames X.base X.outer:=by
 have all:∀(l:List Env),(∀b∈frs l,b∈X.fs)→X.s₀.heap.FunFrames X.base l→s.heap.FunFrames X.base l:=by
  intro l
  induction l with
  | nil=>intro _ _;trivial
  | cons env r ih =>
   intro hs hl;obtain ⟨hk,⟨L,o,hf,hn,ho,hd⟩,hr⟩:=hl;have hL:L∈X.fs:=hs L (by unfold frs;rw [List.filterMap_cons,hf];exact List.mem_cons_self);obtain ⟨sl,e⟩:=I.base.slot L o ho (I.ok.frf L hL) hL fun z=>I.ok.exfs L z hL
   exact ⟨hk,⟨L,_,hf,hn,e,hd⟩,ih (fun b hb=>hs b (by unfold frs;rw [List.filterMap_cons,hf];exact List.mem_cons_of_mem _ hb)) hr⟩
 exact all X.outer (fun _ hb=>hb) I.ok.funs
theorem Inv.stack(I:Inv X pins σ H s):s.heap.FunFrames X.base X.stack:=by
 rcases I.ok.stk with e | ⟨e,hf⟩
 ·rw [e];exact I.funs
 ·rw [e];obtain ⟨m,hn,_⟩:=I.loc;refine .cons (by rw [I.ok.kind];decide) hf hn ?_ I.funs;exact Heap.get?_none_of_le (Nat.le_trans I.ok.bsz I.ok.above)
theorem Inv.uK(I:Inv X pins σ H s):∀b∈frs X.stack,b∈X.env.locals :: X.fs:=fun b hb=>by
 rcases I.ok.stk with e | ⟨e,hf⟩
 ·rw [e] at hb;exact List.mem_cons_of_mem _ hb
 ·rw [e] at hb;unfold frs at hb;rw [List.filterMap_cons,hf] at hb;exact hb
theorem Inv.Wv(I:Inv X pins σ H s):∀b∈frs X.stack,H b=none:=fun b hb=>by
 rcases List.mem_cons.mp (I.uK b hb) with e | hb
 ·rw [e];exact I.free
 ·obtain ⟨_,o,ho,_⟩:=I.ok.funs.mem hb;exact I.base.free b o ho (I.ok.frf b hb) fun z=>I.ok.exfs b z hb
theorem Inv.step{g':Array GenState}{t':Nat}{d':Drawn}{ch:List Addr}(I:Inv X pins σ H s)
  (hch:∀b∈ch,(b∈X.ex∨X.s₀.heap.objs.size≤b)∧b≠X.env.locals∧(∀x c,X.env.cells.lookup x=some c→c≠b)∧∀p∈X.pn++pins,p.1≠b)
  (keep:∀b o,b≠X.env.locals→b∉X.fs→b∉ch→s.heap.get? b=some o→H b=none→h'.get? b=some o)
  (slot:∀b o,b≠X.env.locals→b∈X.fs→b∉ch→s.heap.get? b=some o→H b=none→∃sl,h'.get? b=some { o with slots:=sl }) (free:∀b o,b∉ch→s.heap.get? b=some o→H b=none→H' b=none)
  (there:∀b o,b∉ch→s.heap.get? b=some o→∃o',h'.get? b=some o')
  (tups:∀b xs,H b=some (.tup xs)→H' b=some (.tup xs)) (frzs:∀b o u,H b=some (.frz o u)→H' b=some (.frz o u)) (tbls:∀b ps,H b=some (.tbl ps)→∃more,H' b=some (.tbl (ps++more)))
  (ns:∀m,s.heap.Ns X.env.locals m→h'.Ns X.env.locals m) (hok:HOk X.prog X.w H' h') (hg:AllBare g') :
  Inv X pins σ H' { s with heap:=h',gens:=g',drawn:=d',toks:=t' }:=by
 have neL:∀b o,X.s₀.heap.get? b=some o→b≠X.env.locals:=fun b o e=>Nat.ne_of_lt (Nat.lt_of_lt_of_le (Heap.lt_size e) I.ok.above)
 have neC:∀b o,X.s₀.heap.get? b=some o→b∉X.ex→b∉ch:=fun b o e hx hb=>by
  rcases (hch b hb).1 with z | z
  ·exact hx z
  ·exact absurd (Nat.lt_of_lt_of_le (Heap.lt_size e) z) (Nat.lt_irrefl _)
 have cellK:∀x c,X.env.cells.lookup x=some c→∀v,s.heap.IsCell c v→h'.IsCell c v:=fun x c e v ⟨o,ho,hd⟩=>by
  have nch:c∉ch:=fun z=>(hch c z).2.2.1 x c e rfl
  by_cases hc:c∈X.fs
  ·obtain ⟨sl,q⟩:=slot c o (I.cne x c e) hc nch ho (I.freeC x c e);exact ⟨_,q,hd⟩
  ·exact ⟨o,keep c o (I.cne x c e) hc nch ho (I.freeC x c e),hd⟩
 refine ⟨I.ok,I.os,hg,⟨fun b o e n hb hx=>?_,fun b o e n hb hx=>?_,fun b o e n hx=>?_,fun b o e hx=>?_,fun b xs e=>tups b xs (I.base.tups b xs e),fun b o xs e=>frzs b o xs (I.base.frzs b o xs e),fun b ps e=>?_⟩,?_,fun x c e=>?_,?_,fun x c e=>?_,fun p hp=>?_,hok,I.len⟩
 ·exact keep b o (neL b o e) hb (neC b o e hx) (I.base.keep b o e n hb hx) (I.base.free b o e n hx)
 ·obtain ⟨sl,e1⟩:=I.base.slot b o e n hb hx;obtain ⟨sl',e2⟩:=slot b _ (neL b o e) hb (neC b o e hx) e1 (I.base.free b o e n hx);exact ⟨sl',e2⟩
 ·obtain ⟨o',e1⟩:=I.base.there b o e hx;exact free b o' (neC b o e hx) e1 (I.base.free b o e n hx)
 ·obtain ⟨o',e1⟩:=I.base.there b o e hx;exact there b o' (neC b o e hx) e1
 ·obtain ⟨m1,e1⟩:=I.base.tbls b ps e;obtain ⟨m2,e2⟩:=tbls b _ e1;exact ⟨m1++m2,by rw [e2,Array.append_assoc]⟩
 ·obtain ⟨m,hn,hl⟩:=I.loc;refine ⟨m,ns m hn,fun i x v e1 e2 e3=>?_⟩;obtain ⟨u,r,l⟩:=hl i x v e1 e2 e3;refine ⟨u,r,?_⟩;rcases l with l | ⟨k,c,e,z⟩
  ·exact .inl l
  ·exact .inr ⟨k,c,e,cellK x c e _ z⟩
 ·obtain ⟨v,z⟩:=I.cell x c e;exact ⟨v,cellK x c e v z⟩
 ·obtain ⟨m,⟨o,_,_,ho,_⟩,_⟩:=I.loc;exact free _ o (fun z=>(hch _ z).2.1 rfl) ho I.free
 ·obtain ⟨v,o,ho,hd⟩:=I.cell x c e;exact free c o (fun z=>(hch c z).2.2.1 x c e rfl) ho (I.freeC x c e)
 ·obtain ⟨e,n,ne,nf,d⟩:=I.pin p hp;have nch:p.1∉ch:=fun z=>(hch p.1 z).2.2.2 p hp rfl
  exact ⟨keep p.1 p.2 ne nf nch e n,free p.1 p.2 nch e n,ne,nf,d⟩
theorem Inv.un{t':Nat}(I:Inv X pins σ H s)(u:Un X.fs [] H H' s.heap h')(hok:HOk X.prog X.w H' h'):Inv X pins σ H' { s with heap:=h',toks:=t' }:=by
 obtain ⟨m,⟨o,es,ep,ho,r⟩,_⟩:=id I.loc;obtain ⟨sl,hL⟩:=u.any ho I.free (by simp)
 exact I.step (g':=s.gens) (d':=s.drawn) (ch:=[]) (fun _ z=>nomatch z) (fun b o _ hb _ e n=>u.keep b o e n hb (by simp)) (fun b o _ hb _ e n=>u.slot b o e n hb (by simp)) (fun b o _ e n=>u.free b o e n (by simp)) (fun b o _ e=>u.there b o e (by simp)) u.tups u.frzs u.tbls (fun m' hm=>by
  obtain ⟨o',es',ep',ho',r'⟩:=hm
  rw [ho] at ho';cases ho'
  exact ⟨_,es',ep',hL,r'⟩) hok I.bare
theorem Inv.call{g':Array GenState}{t':Nat}{d':Drawn}{ch:List Addr}(I:Inv X pins σ H s)(u:Un (frs X.stack) ch H H' s.heap h')(hok:HOk X.prog X.w H' h')(hg:AllBare g')
  (hch:∀b∈ch,(b∈X.ex∨X.s₀.heap.objs.size≤b)∧b≠X.env.locals∧(∀x c,X.env.cells.lookup x=some c→c≠b)∧∀p∈X.pn++pins,p.1≠b) :
  Inv X pins σ H' { s with heap:=h',gens:=g',drawn:=d',toks:=t' }:=by
 obtain ⟨m,⟨o,es,ep,ho,r⟩,_⟩:=id I.loc;obtain ⟨sl,hL⟩:=u.any ho I.free fun z=>(hch _ z).2.1 rfl
 exact I.step (ch:=ch) hch (fun b o hL hb hc e n=>u.keep b o e n (fun z=>(List.mem_cons.mp (I.uK b z)).elim hL hb) hc) (fun b o _ _ hc e n=>u.any e n hc) (fun b o hc e n=>u.free b o e n hc) (fun b o hc e=>u.there b o e hc) u.tups u.frzs u.tbls (fun m' hm=>by
  obtain ⟨o',es',ep',ho',r'⟩:=hm
  rw [ho] at ho';cases ho'
  exact ⟨_,es',ep',hL,r'⟩) hok hg
theorem Inv.turned{t':Nat}{it:Addr}(I:Inv X pins σ H s)(k:∀b o,b≠it→s.heap.get? b=some o→h'.get? b=some o)(hn:H it=none)(hL:it≠X.env.locals)
  (h1:it∈X.ex∨X.s₀.heap.objs.size≤it) (h2:∀x c,X.env.cells.lookup x=some c→c≠it) (h3:∀p∈X.pn++pins,p.1≠it):Inv X pins σ H { s with heap:=h',toks:=t' }:=by
 have nit:∀b u,H b=some u→b≠it:=fun b u e z=>by rw [z,hn] at e;cases e
 refine I.step (g':=s.gens) (d':=s.drawn) (ch:=[it]) (fun b hb=>?_) (fun b o _ _ hc e _=>k b o (fun z=>hc (by simp [z])) e) (fun b o _ _ hc e _=>⟨o.slots,k b o (fun z=>hc (by simp [z])) e⟩) (fun _ _ _ _ n=>n)
  (fun b o hc e=>⟨o,k b o (fun z=>hc (by simp [z])) e⟩) (fun _ _ e=>e) (fun _ _ _ e=>e) (fun b ps e=>⟨#[],by rw [e];simp⟩) (fun m hm=>?_) (fun b u e=>?_) I.bare
 ·have e:b=it:=by simpa using hb
  subst e;exact ⟨h1,hL,h2,h3⟩
 ·obtain ⟨o,es,ep,ho,r⟩:=hm;exact ⟨o,es,ep,k _ o (Ne.symm hL) ho,r⟩
 ·refine (I.hok b u e).stay (fun c v hc q=>k c v ?_ q) (fun _ q=>q) fun _ _ q=>q
  rcases hc with z | z
  ·rw [z];exact nit b u e
  ·exact nit c _ z
theorem Inv.tok(I:Inv X pins σ H s)(t:Nat):Inv X pins σ H { s with toks:=t }:=I.un (h':=s.heap) (t':=t) Un.refl I.hok
theorem Inv.kept{t':Nat}(I:Inv X pins σ H s)(k:∀b u,s.heap.get? b=some u→h'.get? b=some u):Inv X pins σ H { s with heap:=h',toks:=t' }:=I.un (Un.kept k) (I.hok.kept k)
theorem Inv.laid{a:Addr}{o:HO}{t':Nat}(I:Inv X pins σ H s)(k:∀b u,s.heap.get? b=some u→h'.get? b=some u)(hp:s.heap.objs.size≤a)(new:YQ X.prog X.w (upd H a o) h' a o) :
  Inv X pins σ (upd H a o) { s with heap:=h',toks:=t' }:=I.un (Un.laid k hp (I.hok.fresh hp)) (I.hok.laid k hp new)
theorem Inv.write{x e:Addr}{o:HO}{t':Nat}(I:Inv X pins σ H s)(mu:Mut (H x))(he:e=x∨H e=some (.own x))(k:∀b u,b≠e→s.heap.get? b=some u→h'.get? b=some u)(heo:∃u,h'.get? e=some u)
  (new:YQ X.prog X.w (upd H x o) h' x o):Inv X pins σ (upd H x o) { s with heap:=h',toks:=t' }:=I.un (Un.write mu he k heo) (I.hok.write mu he k heo new)
theorem Inv.ZbQ{pins':List (Addr×Obj)}(I:Inv X pins σ H s)(h:∀p∈pins',s.heap.get? p.1=some p.2∧H p.1=none∧p.1≠X.env.locals∧p.1∉X.fs∧∀v,p.2.data≠.cell v):Inv X pins' σ H s :=
 ⟨I.ok,I.os,I.bare,I.base,I.loc,I.cell,I.free,I.freeC,fun p hp=>(List.mem_append.mp hp).elim (fun z=>I.pin p (List.mem_append_left _ z)) (h p),I.hok,I.len⟩
theorem yu{N:List Str}(hN:N.Nodup){i j:Nat}{x:Str}(a:N[i]? = some x)(b:N[j]? = some x):i=j:=by
 obtain ⟨h1,e1⟩:=List.getElem?_eq_some_iff.mp a;obtain ⟨h2,e2⟩:=List.getElem?_eq_some_iff.mp b;exact (List.getElem_inj hN).mp (e1.trans e2.symm)
theorem Wu{M:Model}{A:Around}{E:Value→Shared→Prop}{i:Nat}{x:Str}{v:V}{u:Value}{Q:Unit→Shared→Prop}(I:Inv X pins σ H s)(hN:X.N.Nodup)(hi:X.N[i]? = some x)(hx:Loc X.env.scope x)(r:RelV v u)
  (h:∀s',Inv X pins (σ.set i (some v)) H s'→(∃a,Heap.SameBut a s.heap s'.heap∧(a=X.env.locals∨X.env.cells.lookup x=some a))→Q () s') (hf:X.fn x=true∨X.env.scope.names.lookup x=some .local:=by first | exact .inl rfl | exact .inr rfl | assumption):wpAny M A (storeName X.env x u) Q E s:=by
 obtain ⟨m,hn,hl⟩:=id I.loc;have hcls:(X.env.scope.kind == .class || (X.env.scope.kind == .module && X.env.locals != X.env.globals))=false:=by rw [I.ok.kind];rfl
 have hiσ : i < σ.length:=by rw [I.len];exact (List.getElem?_eq_some_iff.mp hi).1
 have cne:=I.cne
 have tracked:∀{a:Addr} {h':Heap},(∃o,s.heap.get? a=some o∧H a=none)→Heap.SameBut a s.heap h'→HOk X.prog X.w H h':=fun {a h'} ha hs b ob e=>by
  obtain ⟨_,_,hfree⟩:=ha;refine (I.hok b ob e).stay (fun c w' hc q=>(hs.2 c ?_).trans q) (fun _ q=>q) fun _ _ q=>q
  rintro rfl;rcases hc with rfl | hc
  ·rw [hfree] at e;cases e
  ·rw [hfree] at hc;cases hc
 rcases hx with hk | hk
 ·refine wpAny_storeName_local hk hn (fun h' hn' hs=>?_) hcls;obtain ⟨oL,_,_,hoL,_⟩:=id hn;refine h _ ⟨I.ok,I.os,I.bare,⟨fun b o e n hb hx=>?_,fun b o e n hb hx=>?_,I.base.free,fun b o e hx=>?_,I.base.tups,I.base.frzs,I.base.tbls⟩,⟨_,hn',fun j y v' e1 e2 e3=>?_⟩,fun y c e=>?_,I.free,I.freeC,fun p hp=>?_,tracked ⟨oL,hoL,I.free⟩ hs,by simpa using I.len⟩ ⟨_,hs,.inl rfl⟩
  ·exact (hs.2 b (Nat.ne_of_lt (Nat.lt_of_lt_of_le (Heap.lt_size e) I.ok.above))).trans (I.base.keep b o e n hb hx)
  ·obtain ⟨sl,e1⟩:=I.base.slot b o e n hb hx;exact ⟨sl,(hs.2 b (Nat.ne_of_lt (Nat.lt_of_lt_of_le (Heap.lt_size e) I.ok.above))).trans e1⟩
  ·obtain ⟨o',e1⟩:=I.base.there b o e hx;exact ⟨o',(hs.2 b (Nat.ne_of_lt (Nat.lt_of_lt_of_le (Heap.lt_size e) I.ok.above))).trans e1⟩
  ·by_cases hj:j=i
   ·subst hj;rw [hi] at e1;cases e1;rw [List.getElem?_set_self hiσ] at e2;cases e2;exact ⟨u,r,.inl ⟨hk,by simp⟩⟩
   ·rw [List.getElem?_set_ne (Ne.symm hj)] at e2;obtain ⟨u',r',q⟩:=hl j y v' e1 e2 e3;refine ⟨u',r',?_⟩;rcases q with ⟨k,e⟩ | ⟨k,c,e,z⟩
    ·refine .inl ⟨k,?_⟩
     have:y≠x:=fun e=>hj (yu hN e1 (e ▸ hi))
     simp [this,e]
    ·exact .inr ⟨k,c,e,z.sameBut hs (cne y c e)⟩
  ·obtain ⟨w',z⟩:=I.cell y c e;exact ⟨w',z.sameBut hs (cne y c e)⟩
  ·obtain ⟨e,n,ne,nf,d⟩:=I.pin p hp;exact ⟨(hs.2 p.1 ne).trans e,n,ne,nf,d⟩
 ·have hfn:X.fn x=true:=by
   rcases hf with z | z
   ·exact z
   ·rw [z] at hk;cases hk
  obtain ⟨c,hc⟩:=I.ok.has x (.inl hk);obtain ⟨w',z⟩:=I.cell x c hc;refine wpAny_storeName_cell I.ok.kind hk hc z (fun h' hc' hs=>?_);obtain ⟨oc,hoc,hocd⟩:=id z;refine h { s with heap:=h' } ⟨I.ok,I.os,I.bare,⟨fun b o e n hb hx=>?_,fun b o e n hb hx=>?_,I.base.free,fun b o e hx=>?_,I.base.tups,I.base.frzs,I.base.tbls⟩,⟨m,hn.sameBut hs (Ne.symm (cne x c hc)),fun j y v' e1 e2 e3=>?_⟩,fun y c' e=>?_,I.free,I.freeC,fun p hp=>?_,tracked ⟨oc,hoc,I.freeC x c hc⟩ hs,by simpa using I.len⟩ ⟨c,hs,.inr hc⟩
  ·exact (hs.2 b (Nat.ne_of_lt (Nat.lt_of_lt_of_le (Heap.lt_size e) (I.ok.cab x c hfn hc)))).trans (I.base.keep b o e n hb hx)
  ·obtain ⟨sl,e1⟩:=I.base.slot b o e n hb hx;exact ⟨sl,(hs.2 b (Nat.ne_of_lt (Nat.lt_of_lt_of_le (Heap.lt_size e) (I.ok.cab x c hfn hc)))).trans e1⟩
  ·obtain ⟨o',e1⟩:=I.base.there b o e hx;exact ⟨o',(hs.2 b (Nat.ne_of_lt (Nat.lt_of_lt_of_le (Heap.lt_size e) (I.ok.cab x c hfn hc)))).trans e1⟩
  ·by_cases hj:j=i
   ·subst hj;rw [hi] at e1;cases e1;rw [List.getElem?_set_self hiσ] at e2;cases e2;exact ⟨u,r,.inr ⟨.inl hk,c,hc,hc'⟩⟩
   ·rw [List.getElem?_set_ne (Ne.symm hj)] at e2;obtain ⟨u',r',q⟩:=hl j y v' e1 e2 e3;refine ⟨u',r',?_⟩;rcases q with q | ⟨k,c',e,z'⟩
    ·exact .inl q
    ·refine .inr ⟨k,c',e,z'.sameBut hs ?_⟩;rintro rfl;exact hj (yu hN e1 (I.ok.inj _ _ _ e hc ▸ hi))
  ·by_cases hcc:c'=c
   ·subst hcc;exact ⟨_,hc'⟩
   ·obtain ⟨w2,z2⟩:=I.cell y c' e;exact ⟨w2,z2.sameBut hs hcc⟩
  ·obtain ⟨e,n,ne,nf,d⟩:=I.pin p hp;refine ⟨(hs.2 p.1 ?_).trans e,n,ne,nf,d⟩;intro q;rw [q,hoc] at e;have q':oc=p.2:=Option.some.inj e;exact d w' (by rw [← q'];exact hocd)
theorem JX{M:Model}{A:Around}{E:Value→Shared→Prop}{i:Nat}{x:Str}{v:V}{u:Value}{Q:Unit→Shared→Prop}(I:Inv X pins σ H s)(hN:X.N.Nodup)(hi:X.N[i]? = some x)(hx:Loc X.env.scope x)(r:RelV v u)
  (h:∀s',Inv X pins (σ.set i (some v)) H s'→Q () s') (hf:X.fn x=true∨X.env.scope.names.lookup x=some .local:=by first | exact .inl rfl | exact .inr rfl | assumption):wpAny M A (storeName X.env x u) Q E s :=
 Wu I hN hi hx r (fun s' I' _=>h s' I') hf
theorem Inv.call'{s':Shared}{ch:List Addr}(I:Inv X pins σ H s)(ho:s'.os=s.os)(u:Un (frs X.stack) ch H H' s.heap s'.heap)(hok:HOk X.prog X.w H' s'.heap)(hg:AllBare s'.gens)
  (hch:∀b∈ch,(b∈X.ex∨X.s₀.heap.objs.size≤b)∧b≠X.env.locals∧(∀x c,X.env.cells.lookup x=some c→c≠b)∧∀p∈X.pn++pins,p.1≠b):Inv X pins σ H' s':=by
 obtain ⟨h',g',d',t',o'⟩:=s';have e:o'=s.os:=ho;subst e;exact I.call (g':=g') (t':=t') (d':=d') u hok hg hch
end
abbrev XK:=Value→Option Addr→Hp→Prop
abbrev St:=List (Option V)
abbrev VK:=V→Hp→Prop
abbrev TE:=St→Hp→VK→Prop
abbrev TT:=St→Hp→(Bool→Hp→Prop)→Prop
abbrev TA:=St→Hp→(List V→Hp→Prop)→Prop
structure Ends where
 nx:St→Hp→Prop
 rt:VK
 bk:St→Hp→Prop:=fun _ _=>False
 ct:St→Hp→Prop:=fun _ _=>False
abbrev TS:=Ends→St→Hp→Prop
def EP(X:Cx)(pins:List (Addr×Obj))(σ : St)(Q:VK)(u:Value)(s':Shared):Prop:=∃v H',Inv X pins σ H' s'∧RelV v u∧Q v H'
def TP(X:Cx)(pins:List (Addr×Obj))(σ : St)(Q:Bool→Hp→Prop)(b:Bool)(s':Shared):Prop:=∃H',Inv X pins σ H' s'∧Q b H'
def AP(X:Cx)(pins:List (Addr×Obj))(σ : St)(Q:List V→Hp→Prop)(us:List Value)(s':Shared):Prop:=∃vs H',Inv X pins σ H' s'∧Vals vs us∧Q vs H'
def SP(X:Cx)(pins:List (Addr×Obj))(D:Ends)(f:Flow)(s':Shared):Prop :=
 match f with
 | .next=>∃σ' H',Inv X pins σ' H' s'∧D.nx σ' H'
 | .brk=>∃σ' H',Inv X pins σ' H' s'∧D.bk σ' H'
 | .cont=>∃σ' H',Inv X pins σ' H' s'∧D.ct σ' H'
 | .ret u=>∃v σ' H',Inv X pins σ' H' s'∧RelV v u∧D.rt v H'
def PE(X:Cx)(e:Expr)(t:TE):Prop :=
 ∀(pins:List (Addr×Obj)) (s:Shared) (σ : St) (H:Hp) (Q:VK),Inv X pins σ H s→t σ H Q→wpAny (model X.prog X.w) X.A (eval e X.env) (EP X pins σ Q) X.xe s
def PT(X:Cx)(e:Expr)(t:TT):Prop :=
 ∀(pins:List (Addr×Obj)) (s:Shared) (σ : St) (H:Hp) (Q:Bool→Hp→Prop),Inv X pins σ H s→t σ H Q→wpAny (model X.prog X.w) X.A (isTrue e X.env (eval e X.env)) (TP X pins σ Q) X.xe s
def PW(X:Cx)(e:Expr)(t:TT):Prop :=
 ∀(whole:Sem Value) (pins:List (Addr×Obj)) (s:Shared) (σ : St) (H:Hp) (Q:Bool→Hp→Prop),Inv X pins σ H s→t σ H Q→wpAny (model X.prog X.w) X.A (isTrue e X.env whole) (TP X pins σ Q) X.xe s
theorem PW.pt{X:Cx}{e:Expr}{t:TT}(h:PW X e t):PT X e t:=h _
def PA(X:Cx)(es:List Expr)(t:TA):Prop :=
 ∀(pos:Pos) (pins:List (Addr×Obj)) (s:Shared) (σ : St) (H:Hp) (Q:List V→Hp→Prop),Inv X pins σ H s→t σ H Q→wpAny (model X.prog X.w) X.A (spliced (backTo pos (starEach es X.env))) (AP X pins σ Q) X.xe s
def PS(X:Cx)(st:Stmt)(t:TS):Prop :=
 ∀(pins:List (Addr×Obj)) (s:Shared) (σ : St) (H:Hp) (D:Ends),Inv X pins σ H s→t D σ H→wpAny (model X.prog X.w) X.A (exec st X.env) (SP X pins D) X.xe s
def PSs(X:Cx)(st:List Stmt)(t:TS):Prop :=
 ∀(pins:List (Addr×Obj)) (s:Shared) (σ : St) (H:Hp) (D:Ends),Inv X pins σ H s→t D σ H→wpAny (model X.prog X.w) X.A (execs st X.env) (SP X pins D) X.xe s
theorem thn{α : Type}{t:Sem α}{Q Q' : α→Shared→Prop}{M:Model}{A:Around}{E:Value→Shared→Prop}{s:Shared}(h:wpAny M A t Q E s)(hQ:∀a s,Q a s→Q' a s):wpAny M A t Q' E s:=wpAny_mono h hQ fun _ _ x=>x
section
variable{X:Cx}
def tVar(i:Nat):TE:=fun σ H Q=>∃v,σ[i]? = some (some v)∧Q v H
def tC(v:V):TE:=fun _ H Q=>Q v H
theorem ZeJ {i:Nat} {x:Str} {pos:Pos} (hN:X.N[i]? = some x) (hv:Vis X.env.scope x) (hd:(x == ("__debug__" : Str))=false:=by decide) (hcd:(x == ("__classdict__" : Str))=false:=by decide):PE X (.Name x pos) (tVar i):=by
 intro pins s σ H Q I h;obtain ⟨v,e,h⟩:=h;obtain ⟨m,hn,hl⟩:=I.loc;obtain ⟨u,r,l⟩:=hl i x v hN e hv;have fin:EP X pins σ Q u s:=⟨v,H,I,r,h⟩
 rcases l with ⟨hk,hm⟩ | ⟨hk,c,hc,hcell⟩
 ·exact wpAny_Name (wpAny_loadName_local I.ok.kind hk hn hm fin) hd
 ·rcases hk with hk | hk
  ·exact wpAny_Name (wpAny_loadName_cell I.ok.kind hk hc hcell fin) hd
  ·exact wpAny_Name (wpAny_loadName_free I.ok.kind hk hc hcell fin hcd) hd
theorem Zf{i j pos}:PE X (.Constant (.int i) j pos) (tC (.int i)):=fun _ _ _ H _ I h=>wpAny_Constant_int ⟨.int i,H,I.tok _,⟨_,rfl⟩,h⟩
theorem U6{b j pos}:PE X (.Constant (.bool b) j pos) (tC (.bl b)):=fun _ _ _ H _ I h=>Constant_bool ⟨.bl b,H,I,rfl,h⟩
theorem GR{j pos}:PE X (.Constant .none j pos) (tC .non):=fun _ _ _ H _ I h=>Constant_none ⟨.non,H,I,rfl,h⟩
theorem Yt{x j pos}:PE X (.Constant (.str x) j pos) (tC (.str x)):=fun _ _ _ H _ I h=>Calls.Constant_str ⟨.str x,H,I.tok _,⟨_,rfl⟩,h⟩
def Gl(X:Cx)(x:Str):Prop:=X.env.kindOf x=some .globalImplicit
theorem qw{E:Value→Shared→Prop}{pins:List (Addr×Obj)}{s:Shared}{σ : St}{H:Hp}{x:Str}{u:Value}{pos:Pos}{Q:Value→Shared→Prop}(I:Inv X pins σ H s)(hg:Gl X x)(hm:X.mg x=some u)(h:Q u s)
  (hd:(x == ("__debug__" : Str))=false:=by decide):wpAny (model X.prog X.w) X.A (eval (.Name x pos) X.env) Q E s :=
 Calls.Name_function_global I.ok.kind hg (Calls.loadGlobal_global (by rw [I.ok.glob];exact I.mod.glob.keeps I.bk) hm h) hd
theorem Jl{E:Value→Shared→Prop}{pins:List (Addr×Obj)}{s:Shared}{σ : St}{H:Hp}{x:Str}{u:Value}{pos:Pos}{Q:Value→Shared→Prop}(I:Inv X pins σ H s)(hg:Gl X x)(hm:X.mg x=none)(hv:bootBuiltins x=some u)(h:Q u s)
  (hn:x≠"__name__":=by decide) (hd:(x == ("__debug__" : Str))=false:=by decide):wpAny (model X.prog X.w) X.A (eval (.Name x pos) X.env) Q E s:=by
 obtain ⟨mb,h1,h2⟩:=I.mod.blt;exact Calls.Name_function_global I.ok.kind hg (Calls.loadGlobal_builtin (by rw [I.ok.glob];exact I.mod.glob.keeps I.bk) hm (by rw [I.ok.blt];exact h1.keeps I.bk) ((h2 x hn).trans hv) h) hd
theorem Yx {x:Str} {v:V} {u:Value} {pos:Pos} (hg:Gl X x) (hm:X.mg x=some u) (r:RelV v u) (hd:(x == ("__debug__" : Str))=false:=by decide):PE X (.Name x pos) (tC v) :=
 fun _ _ _ H _ I h=>qw I hg hm ⟨v,H,I,r,h⟩ hd
theorem JQ {x:Str} {v:V} {u:Value} {pos:Pos} (hg:Gl X x) (hm:X.mg x=none) (hv:bootBuiltins x=some u) (r:RelV v u) (hn:x≠"__name__":=by decide) (hd:(x == ("__debug__" : Str))=false:=by decide):PE X (.Name x pos) (tC v) :=
 fun _ _ _ H _ I h=>Jl I hg hm hv ⟨v,H,I,r,h⟩ hn hd
variable{a b:Expr}{ta tb:TE}{pos:Pos}
def tB(t:TE):TT:=fun σ H Q=>t σ H fun x H1=>∃c,x = .bl c∧Q c H1
theorem ZV{e:Expr}{t:TE}(h:PE X e t)(he:∀whole,isTrue e X.env whole=(do let v ← whole;standAt e.pos;holding [v] (truthy v)):=by intro _;rfl):PT X e (tB t):=by
 intro pins s σ H Q I hw;refine isTrue_plain (thn (h pins s σ H _ I hw) fun v s1 ⟨x,H1,I1,r1,q1⟩=>?_) (he _);obtain ⟨d,rfl,q⟩:=q1;cases r1;exact wpAny_truthy_bool ⟨H1,I1,q⟩
variable{tA tB':TT}{rest:List Expr}
def tAnd(t u:TT):TT:=fun σ H Q=>t σ H fun c H1=>if c=true then u σ H1 Q else Q false H1
def tOr(t u:TT):TT:=fun σ H Q=>t σ H fun c H1=>if c=true then Q true H1 else u σ H1 Q
def tNot(t:TT):TT:=fun σ H Q=>t σ H fun c H1=>Q (!c) H1
theorem pw_and1(ha:PT X a tA):PW X (.BoolOp .And [a] pos) tA:=by
 intro wh pins s σ H Q I h;refine isTrue_and (thn (ha pins s σ H Q I h) fun c s1 e=>?_);cases c with
 | true=>exact isTrue_and_nil e
 | false=>exact e
theorem pw_or1(ha:PT X a tA):PW X (.BoolOp .Or [a] pos) tA:=by
 intro wh pins s σ H Q I h;refine isTrue_or (thn (ha pins s σ H Q I h) fun c s1 e=>?_);cases c with
 | false=>exact isTrue_or_nil e
 | true=>exact e
theorem pw_and(ha:PT X a tA)(hb:PW X (.BoolOp .And (b :: rest) pos) tB'):PW X (.BoolOp .And (a :: b :: rest) pos) (tAnd tA tB'):=by
 intro wh pins s σ H Q I h;refine isTrue_and (thn (ha pins s σ H _ I h) fun c s1 ⟨H1,I1,q1⟩=>?_);cases c with
 | true=>exact hb wh pins s1 σ H1 Q I1 q1
 | false=>exact ⟨H1,I1,q1⟩
theorem pw_or(ha:PT X a tA)(hb:PW X (.BoolOp .Or (b :: rest) pos) tB'):PW X (.BoolOp .Or (a :: b :: rest) pos) (tOr tA tB'):=by
 intro wh pins s σ H Q I h;refine isTrue_or (thn (ha pins s σ H _ I h) fun c s1 ⟨H1,I1,q1⟩=>?_);cases c with
 | true=>exact ⟨H1,I1,q1⟩
 | false=>exact hb wh pins s1 σ H1 Q I1 q1
theorem YZ(ha:PT X a tA):PT X (.UnaryOp .Not a pos) (tNot tA):=by
 intro pins s σ H Q I h;exact isTrue_not (ha pins s σ H (fun c H1=>Q (!c) H1) I h)
def vd(ta tb:TE):TE:=fun σ H Q=>ta σ H fun x H1=>∃c,x = .bl c∧if c=true then tb σ H1 Q else Q (.bl false) H1
def tOrV(ta tb:TE):TE:=fun σ H Q=>ta σ H fun x H1=>∃c,x = .bl c∧if c=true then Q (.bl true) H1 else tb σ H1 Q
def Zdm(ta:TE):TE:=fun σ H Q=>ta σ H fun x H1=>∃c,x = .bl c∧Q (.bl (!c)) H1
theorem qg{op}{t:TE}(h:PE X a t):PE X (.BoolOp op [a] pos) t:=fun pins s σ H Q I hw=>BoolOp_one (h pins s σ H Q I hw)
theorem qj(ha:PE X a ta)(hb:PE X (.BoolOp .And (b :: rest) pos) tb):PE X (.BoolOp .And (a :: b :: rest) pos) (vd ta tb):=by
 intro pins s σ H Q I h;refine BoolOp_and (thn (ha pins s σ H _ I h) fun v s1 ⟨x,H1,I1,r1,q1⟩=>?_);obtain ⟨c,rfl,q1⟩:=q1;cases r1;refine wpAny_truthy_bool ?_;cases c with
 | true=>exact hb pins s1 σ H1 Q I1 q1
 | false=>exact ⟨.bl false,H1,I1,rfl,q1⟩
theorem Zh4(ha:PE X a ta)(hb:PE X (.BoolOp .Or (b :: rest) pos) tb):PE X (.BoolOp .Or (a :: b :: rest) pos) (tOrV ta tb):=by
 intro pins s σ H Q I h;refine BoolOp_or (thn (ha pins s σ H _ I h) fun v s1 ⟨x,H1,I1,r1,q1⟩=>?_);obtain ⟨c,rfl,q1⟩:=q1;cases r1;refine wpAny_truthy_bool ?_;cases c with
 | false=>exact hb pins s1 σ H1 Q I1 q1
 | true=>exact ⟨.bl true,H1,I1,rfl,q1⟩
theorem ZbT(ha:PE X a ta):PE X (.UnaryOp .Not a pos) (Zdm ta):=by
 intro pins s σ H Q I h;refine UnaryOp_ (thn (ha pins s σ H _ I h) fun v s1 ⟨x,H1,I1,r1,q1⟩=>?_);obtain ⟨c,rfl,q1⟩:=q1;cases r1;exact not_of (wpAny_truthy_bool ⟨.bl (!c),H1,I1,rfl,q1⟩)
def tIf(t:TT)(ta tb:TE):TE:=fun σ H Q=>t σ H fun c H1=>if c=true then ta σ H1 Q else tb σ H1 Q
theorem uX{c:Expr}(hc:PT X c tA)(ha:PE X a ta)(hb:PE X b tb):PE X (.IfExp c a b pos) (tIf tA ta tb):=by
 intro pins s σ H Q I h;refine wpAny_IfExp (thn (hc pins s σ H _ I h) fun d s1 ⟨H1,I1,q1⟩=>?_);cases d with
 | true=>exact ha pins s1 σ H1 Q I1 q1
 | false=>exact hb pins s1 σ H1 Q I1 q1
end
def SqL(K:Fg)(H:Hp)(a:Addr)(xs:List V):Prop :=
 Rd H a (.lst xs) ∨
  ∃(o:Obj) (its:Array Value) (n:Nat),K.lookup a=some o∧o.cls = .type "list"∧o.dict=none∧o.data = .seq its n∧its.size≤sizeLine∧Vals xs its.toList
def SqT(K:Fg)(H:Hp)(a:Addr)(xs:List V):Prop :=
 Rd H a (.tup xs) ∨
  ∃(o:Obj) (its:Array Value) (n:Nat),K.lookup a=some o∧o.cls = .type "tuple"∧o.data = .seq its n∧its.size≤sizeLine∧Vals xs its.toList
def absV:Value→Option V
 | .none=>some .non
 | .bool b=>some (.bl b)
 | .int i _=>some (.int i)
 | .str x _=>some (.str x)
 | .bytes b _=>some (.byt b)
 | .float b _=>some (.flt b)
 | .ref a=>some (.ref a)
 | .type n=>some (.ty n)
 | _=>none
theorem RelV.abs{x:V}{u:Value}(r:RelV x u):absV u=some x:=by
 cases x with
 | non=>cases r;rfl
 | bl _=>cases r;rfl
 | int _=>obtain ⟨t,rfl⟩:=r;rfl
 | str _=>obtain ⟨t,rfl⟩:=r;rfl
 | byt _=>obtain ⟨t,rfl⟩:=r;rfl
 | flt _=>obtain ⟨t,rfl⟩:=r;rfl
 | ref _=>cases r;rfl
 | ty _=>cases r;rfl
theorem RelV.inj{x y:V}{u:Value}(r:RelV x u)(q:RelV y u):x=y:=Option.some.inj (r.abs.symm.trans q.abs)
theorem Vals.inj:∀{xs ys:List V} {us:List Value},Vals xs us→Vals ys us→xs=ys
 | _,_,_,.nil,.nil=>rfl
 | _,_,_,.cons r t,.cons r' t'=>by rw [r.inj r',Vals.inj t t']
section
variable{X:Cx}{pins:List (Addr×Obj)}{σ : St}{H:Hp}{s:Shared}{a:Addr}{xs ys:List V}
theorem SqL.of{K:Fg}(h:H a=some (.lst xs)):SqL K H a xs:=.inl (.inl h)
theorem SqT.of{K:Fg}(h:H a=some (.tup xs)):SqT K H a xs:=.inl (.inl h)
theorem Inv.list(I:Inv X pins σ H s)(h:SqL X.K H a xs):∃its:List Value,Vals xs its∧PlainL s.heap a its.toArray∧xs.length≤sizeLine:=by
 rcases h with h | ⟨o,its,n,hk,hc,hd,hs,hz,r⟩
 ·obtain ⟨z,its,n,r,e⟩:=h.ok I.hok;exact ⟨its,r,⟨_,n,e,rfl,rfl,rfl⟩,z⟩
 ·refine ⟨its.toList,r,⟨o,n,I.kIn a o hk,hc,hd,by simpa using hs⟩,?_⟩;have e:=r.length;simp only [Array.length_toList] at e;omega
theorem Inv.tuple(I:Inv X pins σ H s)(h:SqT X.K H a xs):∃its:List Value,Vals xs its∧IsTup s.heap a its.toArray∧xs.length≤sizeLine:=by
 rcases h with h | ⟨o,its,n,hk,hc,hs,hz,r⟩
 ·obtain ⟨z,its,r,p⟩:=h.ok I.hok;exact ⟨its,r,p,z⟩
 ·refine ⟨its.toList,r,⟨o,I.kIn a o hk,hc,n,by simpa using hs⟩,?_⟩;have e:=r.length;simp only [Array.length_toList] at e;omega
theorem Inv.yC(I:Inv X pins σ H s)(h:SqL X.K H a xs)(h':SqL X.K H a ys):xs=ys:=by
 obtain ⟨its,r,⟨o,n,e,_,_,d⟩,_⟩:=I.list h;obtain ⟨its',r',⟨o',n',e',_,_,d'⟩,_⟩:=I.list h';rw [e] at e';cases e';rw [d] at d';injection d' with d1 _
 have:its=its':=by simpa using congrArg Array.toList d1
 subst this;exact r.inj r'
theorem Inv.yX(I:Inv X pins σ H s)(h:SqT X.K H a xs)(h':SqT X.K H a ys):xs=ys:=by
 obtain ⟨its,r,⟨o,e,_,n,d⟩,_⟩:=I.tuple h;obtain ⟨its',r',⟨o',e',_,n',d'⟩,_⟩:=I.tuple h';rw [e] at e';cases e';rw [d] at d';injection d' with d1 _
 have:its=its':=by simpa using congrArg Array.toList d1
 subst this;exact r.inj r'
end
abbrev Cx.wish(X:Cx)(E:Value→Shared→Prop):Cx:={ X with xe:=E }
abbrev Cx.nox(X:Cx):Cx:=X.wish fun _ _=>False
theorem Cx.Ok.wish{X:Cx}(ok:X.Ok)(E:Value→Shared→Prop):(X.wish E).Ok :=
 ⟨ok.mod,ok.kind,ok.glob,ok.blt,ok.above,ok.inj,ok.has,ok.cab,ok.hd,ok.frames,ok.stk,ok.exf,ok.bs,ok.bsz,ok.noex,ok.exfs,ok.funs,ok.frf⟩
theorem Cx.Ok.Um{X:Cx}{E:Value→Shared→Prop}(ok:(X.wish E).Ok):X.Ok :=
 ⟨ok.mod,ok.kind,ok.glob,ok.blt,ok.above,ok.inj,ok.has,ok.cab,ok.hd,ok.frames,ok.stk,ok.exf,ok.bs,ok.bsz,ok.noex,ok.exfs,ok.funs,ok.frf⟩
section
variable{X:Cx}{pins:List (Addr×Obj)}{σ : St}{H:Hp}{s:Shared}{E:Value→Shared→Prop}
theorem Inv.wish(I:Inv X pins σ H s)(E:Value→Shared→Prop):Inv (X.wish E) pins σ H s:=⟨I.ok.wish E,I.os,I.bare,I.base,I.loc,I.cell,I.free,I.freeC,I.pin,I.hok,I.len⟩
theorem Inv.Um(I:Inv (X.wish E) pins σ H s):Inv X pins σ H s:=⟨I.ok.Um,I.os,I.bare,I.base,I.loc,I.cell,I.free,I.freeC,I.pin,I.hok,I.len⟩
theorem SP.Um{D:Ends}{f:Flow}{s':Shared}(h:SP (X.wish E) pins D f s'):SP X pins D f s':=by
 cases f with
 | next=>obtain ⟨σ',H',I,q⟩:=h;exact ⟨σ',H',I.Um,q⟩
 | brk=>obtain ⟨σ',H',I,q⟩:=h;exact ⟨σ',H',I.Um,q⟩
 | cont=>obtain ⟨σ',H',I,q⟩:=h;exact ⟨σ',H',I.Um,q⟩
 | ret u=>obtain ⟨v,σ',H',I,r,q⟩:=h;exact ⟨v,σ',H',I.Um,r,q⟩
theorem PSs.nox{st:List Stmt}{t:TS}(h:PSs X.nox st t):PSs X st t:=fun pins s σ H D I hw =>
 wpAny_mono (h pins s σ H D (I.wish _) hw) (fun _ _ q=>q.Um) fun _ _ z=>False.elim z
end
section
variable{X:Cx}{st:Stmt}{rest:List Stmt}{t u:TS}{e:Expr}{te:TE}{pos:Pos}
def Z9:TS:=fun D σ H=>D.nx σ H
def tSeq(t u:TS):TS:=fun D σ H=>t { D with nx:=u D } σ H
theorem Zx:PSs X [] Z9:=fun _ _ σ H _ I h=>wpAny_execs_nil ⟨σ,H,I,h⟩
theorem Zd(h1:PS X st t)(h2:PSs X rest u):PSs X (st :: rest) (tSeq t u):=by
 intro pins s σ H D I h;refine wpAny_execs_cons (thn (h1 pins s σ H { D with nx:=u D } I h) fun f s1 q=>?_);cases f with
 | next =>
  obtain ⟨σ',H',I',q⟩:=q;exact h2 pins s1 σ' H' D I' q
 | ret v=>exact q
 | brk=>exact q
 | cont=>exact q
theorem Zg(h1:PS X st t):PSs X [st] t:=by
 intro pins s σ H D I h;refine wpAny_execs_cons (thn (h1 pins s σ H D I h) fun f s1 q=>?_);cases f with
 | next=>exact wpAny_execs_nil q
 | ret v=>exact q
 | brk=>exact q
 | cont=>exact q
theorem Inv.quiet{pins:List (Addr×Obj)}{σ : St}{H:Hp}{s:Shared}(I:Inv X pins σ H s):interactive X.env=false:=by simp [interactive,I.ok.kind]
def YT(te:TE):TS:=fun D σ H=>te σ H fun _ H1=>D.nx σ H1
theorem ZM(he:PE X e te)(hs:swapsWith e none pos.line X.env=pure false:=by rfl):PS X (.Expr e pos) (YT te):=by
 intro pins s σ H D I h;exact wpAny_Expr_any (thn (he pins s σ H _ I h) fun v s1 ⟨x,H1,I1,r1,q1⟩=>⟨σ,H1,I1,q1⟩) I.quiet hs
def tRet(te:TE):TS:=fun D σ H=>te σ H D.rt
theorem Zv(he:PE X e te):PS X (.Return (some e) pos) (tRet te):=by
 intro pins s σ H D I h;exact wpAny_Return_some (thn (he pins s σ H _ I h) fun v s1 ⟨x,H1,I1,r1,q1⟩=>⟨x,σ,H1,I1,r1,q1⟩)
def tIfS(c:TT)(t u:TS):TS:=fun D σ H=>c σ H fun b H1=>if b=true then t D σ H1 else u D σ H1
theorem ZS{c:Expr}{a b:List Stmt}{tc:TT}(hc:PT X c tc)(ha:PSs X a t)(hb:PSs X b u):PS X (.If c a b pos) (tIfS tc t u):=by
 intro pins s σ H D I h;refine wpAny_If (thn (hc pins s σ H _ I h) fun d s1 ⟨H1,I1,q1⟩=>?_);cases d with
 | true=>exact ha pins s1 σ H1 D I1 q1
 | false=>exact hb pins s1 σ H1 D I1 q1
def ZeA:TS:=fun _ _ _=>False
theorem ZbN{sts:List Stmt}:PSs X sts ZeA:=fun _ _ _ _ _ _ h=>h.elim
end
abbrev TG:=V→St→Hp→(St→Hp→Prop)→Prop
abbrev TGs:=List V→St→Hp→(St→Hp→Prop)→Prop
def PG(X:Cx)(target:Expr)(t:TG):Prop :=
 ∀(pins:List (Addr×Obj)) (s:Shared) (σ : St) (H:Hp) (v:V) (u:Value) (Q:St→Hp→Prop),Inv X pins σ H s→RelV v u→t v σ H Q →
  wpAny (model X.prog X.w) X.A (assign target X.env u) (fun _ s'=>∃σ' H',Inv X pins σ' H' s'∧Q σ' H') X.xe s
def PGs(X:Cx)(ts:List Expr)(t:TGs):Prop :=
 ∀(pins:List (Addr×Obj)) (s:Shared) (σ : St) (H:Hp) (vs:List V) (us:List Value) (Q:St→Hp→Prop),Inv X pins σ H s→Vals vs us→t vs σ H Q →
  wpAny (model X.prog X.w) X.A (assignInOrder ((assignEach ts X.env).map (·.2)) us) (fun _ s'=>∃σ' H',Inv X pins σ' H' s'∧Q σ' H') X.xe s
abbrev TSet:=V→V→V→Hp→(Hp→Prop)→Prop
def PSet(X:Cx)(t:TSet):Prop :=
 ∀(pins:List (Addr×Obj)) (s:Shared) (σ : St) (H:Hp) (o i v:V) (ov iv u:Value) (Q:Hp→Prop),Inv X pins σ H s→RelV o ov→RelV i iv→RelV v u→t o i v H Q →
  wpAny (model X.prog X.w) X.A (setItem ov iv u) (fun _ s'=>∃H',Inv X pins σ H' s'∧Q H') X.xe s
section
variable{X:Cx}{pos:Pos}
def Zn(i:Nat):TG:=fun v σ H Q=>Q (σ.set i (some v)) H
theorem Zw{i:Nat}{x:Str}(hN:X.N.Nodup)(hi:X.N[i]? = some x)(hx:Loc X.env.scope x)(hf:X.fn x=true∨X.env.scope.names.lookup x=some .local:=by first | exact .inl rfl | exact .inr rfl | assumption):PG X (.Name x pos) (Zn i):=by
 intro pins s σ H v u Q I r h;exact wpAny_assign_Name (JX I hN hi hx r (fun s' I'=>⟨_,H,I',h⟩) hf)
def gNil:TGs:=fun vs σ H Q=>vs=[]∧Q σ H
def Yg(t:TG)(u:TGs):TGs:=fun vs σ H Q=>∃v r,vs=v :: r∧t v σ H fun σ' H'=>u r σ' H' Q
theorem Yl:PGs X [] gNil:=by
 intro pins s σ H vs us Q I r h;obtain ⟨e,h⟩:=h;subst e;cases r;exact assignInOrder_nil ⟨σ,H,I,h⟩
theorem ZC{e:Expr}{es:List Expr}{t:TG}{u:TGs}(h1:PG X e t)(h2:PGs X es u)
  (hs:(assignEach (e :: es) X.env).map (·.2)=assign e X.env :: (assignEach es X.env).map (·.2):=by rfl):PGs X (e :: es) (Yg t u):=by
 intro pins s σ H vs us Q I r h;obtain ⟨v,vr,e1,h⟩:=h;subst e1;cases r with
 | cons r rr =>
  rw [hs];refine assignInOrder_cons (thn (h1 pins s σ H _ _ _ I r h) fun _ s1 ⟨σ1,H1,I1,q1⟩=>?_);exact h2 pins s1 σ1 H1 _ _ Q I1 rr q1
def gTup(K:Fg)(n:Nat)(t:TGs):TG:=fun v σ H Q=>∃a xs,v = .ref a∧SqT K H a xs∧xs.length=n∧t xs σ H Q
theorem Y0{es:List Expr}{k:Nat}{t:TGs}{n:Nat}(hc:X.calm=true)(h:PGs X es t)
  (hn:(assignEach es X.env).length=n:=by rfl) (hst:(assignEach es X.env).findIdx? (·.1)=none:=by rfl):PG X (.Tuple es k pos) (gTup X.K n t):=by
 intro pins s σ H v u Q I r hw;obtain ⟨a,xs,e1,hq,hl,hw⟩:=hw;subst e1;cases r;obtain ⟨its,rv,ht,hz⟩:=I.tuple hq;refine assign_Tuple_tuple (I.ok.hd hc) ht (by simp [hn,← hl,rv.length]) hst fun h' hx=>?_
 have I1:Inv X pins σ H { s with heap:=h' }:=I.kept (t':=s.toks) fun b o e=>hx b o (Nat.ne_of_lt (Heap.lt_size e)) e
 exact h pins _ σ H xs _ Q I1 (by simpa using rv) hw
def gSub(to ti:TE)(t:TSet):TG:=fun v σ H Q=>to σ H fun o H1=>ti σ H1 fun i H2=>t o i v H2 fun H3=>Q σ H3
theorem ZbR{o i:Expr}{to ti:TE}{t:TSet}(ho:PE X o to)(hi:PE X i ti)(hs:PSet X t)
  (ha:∀v,assign (.Subscript o i pos) X.env v=(do
   let ov ← holding [v] (eval o X.env)
   let iv ← holding [v,ov] (eval i X.env)
   standAt pos
   holding [v,ov,iv] (setItem ov iv v)
   release [v,ov,iv] []):=by intro _;rfl):PG X (.Subscript o i pos) (gSub to ti t):=by
 intro pins s σ H v u Q I r h;rw [ha];refine wpAny_bind (wpAny_holding (thn (ho pins s σ H _ I h) fun ov s1 ⟨x,H1,I1,r1,q1⟩=>?_));refine wpAny_bind (wpAny_holding (thn (hi pins s1 σ H1 _ I1 q1) fun iv s2 ⟨y,H2,I2,r2,q2⟩=>?_));refine wpAny_bind (wpAny_standAt (wpAny_bind (wpAny_holding (thn (hs pins s2 σ H2 x y v ov iv u _ I2 r1 r2 r q2) fun _ s3 ⟨H3,I3,q3⟩=>?_))));exact wpAny_release ⟨σ,H3,I3,q3⟩
def tAsg(te:TE)(g:TG):TS:=fun D σ H=>te σ H fun x H1=>g x σ H1 D.nx
theorem uU{tg e:Expr}{te:TE}{g:TG}(he:PE X e te)(hg:PG X tg g)(hs:swapsWithSole [tg] e pos.line X.env=pure false:=by rfl)(hw:swappedStores [tg] e X.env=pure none:=by rfl)
  (h1:(assignEach [tg] X.env).map (·.2)=[assign tg X.env]:=by rfl):PS X (.Assign [tg] e pos) (tAsg te g):=by
 intro pins s σ H D I h;refine wpAny_Assign_stores (thn (he pins s σ H _ I h) fun v s1 ⟨x,H1,I1,r1,q1⟩=>?_) hs hw;rw [h1];exact thn (hg pins s1 σ H1 x v _ I1 r1 q1) fun _ s2 q=>q
theorem Zt{i:Nat}{x:Str}{e:Expr}{te:TE}{pos':Pos}(hN:X.N.Nodup)(hi:X.N[i]? = some x)(hx:Loc X.env.scope x)(he:PE X e te)(hs:swapsWith e (some (.Name x pos')) pos.line X.env=pure false:=by rfl)(hf:X.fn x=true∨X.env.scope.names.lookup x=some .local:=by first | exact .inl rfl | exact .inr rfl | assumption) :
  PS X (.Assign [.Name x pos'] e pos) (tAsg te (Zn i)):=by
 intro pins s σ H D I h;refine wpAny_Assign_Name (thn (he pins s σ H _ I h) fun v s1 ⟨y,H1,I1,r1,q1⟩=>?_) hs;exact JX I1 hN hi hx r1 (fun s2 I2=>⟨_,H1,I2,q1⟩) hf
def tPar(i j:Nat)(ta:TA):TS:=fun D σ H=>ta σ H fun vs H1=>∃v w,vs=[v,w]∧D.nx ((σ.set i (some v)).set j (some w)) H1
theorem ZgL{i j:Nat}{x y:Str}{a b:Expr}{ta:TA}{px py pt:Pos}{kt k2 pt2}(hc:X.calm=true)(hN:X.N.Nodup)(hi:X.N[i]? = some x)(hj:X.N[j]? = some y)(hij:i≠j)
  (hx:X.env.scope.names.lookup x=some .local) (hy:X.env.scope.names.lookup y=some .local) (ha:PA X [a,b] ta)
  (hw:swappedStores [.Tuple [.Name x px,.Name y py] kt pt] (.Tuple [a,b] k2 pt2) X.env=pure (some [x,y]))
  (hs:swapsWithSole [.Tuple [.Name x px,.Name y py] kt pt] (.Tuple [a,b] k2 pt2) pos.line X.env=pure false:=by rfl) :
  PS X (.Assign [.Tuple [.Name x px,.Name y py] kt pt] (.Tuple [a,b] k2 pt2) pos) (tPar i j ta):=by
 intro pins s σ H D I h;rw [exec_Assign_arm];refine wpAny_bind (wpAny_standAt ?_);rw [hs];refine wpAny_bind (wpAny_pure ?_);rw [if_neg (by decide)];refine wpAny_bind (Tuple_ (thn (ha _ pins s σ H _ I h) fun us s1 ⟨vs,H1,I1,r1,q1⟩=>?_));obtain ⟨v,w,e1,q1⟩:=q1;subst e1
 obtain ⟨u1,u2,rfl,rv,rw'⟩:∃u1 u2,us=[u1,u2]∧RelV v u1∧RelV w u2:=by
  cases r1 with
  | cons p q =>
   cases q with
   | cons p' q' =>
    cases q';exact ⟨_,_,rfl,p,p'⟩
 refine wpAny_newObj_type ?_ (by show 2≤sizeLine;decide);have I2:Inv X pins σ H1 { s1 with heap:=s1.heap.push { cls:=.type "tuple",data:=.seq [u1,u2].toArray } }:=I1.kept (t':=s1.toks) fun b o e=>Heap.get?_push_of_some _ e
 rw [hw];refine wpAny_bind (wpAny_pure ?_);show wpAny (model X.prog X.w) X.A (do rule "assign.swapped-stores";let items ← unpackItems (.ref s1.heap.objs.size) 2 none;assignInOrder [fun v=>bindName X.env y v,fun v=>bindName X.env x v] items.reverse;pure Flow.next) _ _ _;refine wpAny_bind (wpAny_rule (wpAny_bind (unpackItems_tuple (items:=#[u1,u2]) (I.ok.hd hc) (IsTup.new s1.heap _) fun h' hx'=>?_)));have I3:=I2.kept (h':=h') (t':=s1.toks) fun b o e=>hx' b o (Nat.ne_of_lt (Heap.lt_size e)) e
 show wpAny _ _ (assignInOrder [fun v=>bindName X.env y v,fun v=>bindName X.env x v] [u2,u1] >>= fun _=>pure Flow.next) _ _ _;refine wpAny_bind (assignInOrder_cons (wpAny_bindName (JX I3 hN hj (.inl hy) rw' (fun s2 I4=>?_) (.inr hy))));refine assignInOrder_cons (wpAny_bindName (JX I4 hN hi (.inl hx) rv (fun s3 I5=>assignInOrder_nil (wpAny_pure ?_)) (.inr hx)));rw [List.set_comm _ _ (Ne.symm hij)] at I5;exact ⟨_,H1,I5,q1⟩
end
section
variable{X:Cx}{pos:Pos}
def Wt(c:TT)(tb:TS):TS:=fun D σ H=>∃W:Nat→St→Hp→Prop,(∃m,W m σ H)∧∀m σ H,W m σ H →
 c σ H fun b H1=>if b=true then ∃N:St→Hp→Prop,(∀σ' H',N σ' H'→∃m',m' < m∧W m' σ' H')∧tb { D with nx:=N,ct:=N,bk:=D.nx } σ H1 else D.nx σ H1
theorem G6{c:Expr}{body:List Stmt}{tc:TT}{tb:TS}(hp:PassesOwn (model X.prog X.w) X.A X.env X.xe)(hc:PT X c tc)(hb:PSs X body tb):PS X (.While c body [] pos) (Wt tc tb):=by
 intro pins s σ H D I h;obtain ⟨W,⟨m0,w0⟩,turn⟩:=h;refine wpAny_While (codeAny_whileLoop (fun n s'=>∃σ' H',Inv X pins σ' H' s'∧W n σ' H') ?_ m0 ⟨σ,H,I,w0⟩);rintro n s1 ⟨σ1,H1,I1,w1⟩;refine wpAny_passesOwn hp (thn (hc pins s1 σ1 H1 _ I1 (turn n σ1 H1 w1)) fun b s2 ⟨H2,I2,q2⟩=>?_);cases b with
 | true =>
  obtain ⟨N,hN,q2⟩:=q2;rw [if_pos rfl];refine wpAny_passesOwn hp (thn (hb pins s2 σ1 H2 _ I2 q2) fun f s3 q3=>?_);cases f with
  | next =>
   obtain ⟨σ3,H3,I3,n3⟩:=q3;obtain ⟨m',hm,w3⟩:=hN σ3 H3 n3;exact ⟨m',hm,σ3,H3,I3,w3⟩
  | cont =>
   obtain ⟨σ3,H3,I3,n3⟩:=q3;obtain ⟨m',hm,w3⟩:=hN σ3 H3 n3;exact ⟨m',hm,σ3,H3,I3,w3⟩
  | brk=>exact q3
  | ret v=>exact q3
 | false =>
  rw [if_neg Bool.false_ne_true];exact wpAny_execs_nil ⟨σ1,H2,I2,q2⟩
end
structure It where
 go:Nat→Hp→Prop
 yld:Nat→Hp→V→Hp→Prop
 stop:Nat→Hp→Prop
def FpOk(X:Cx)(pins:List (Addr×Obj))(H:Hp)(b:Addr):Prop :=
 H b=none∧b≠X.env.locals∧b∉X.fs∧(b∈X.ex∨X.s₀.heap.objs.size≤b)∧(∀x c,X.env.cells.lookup x=some c→c≠b)∧∀p∈X.pn++pins,p.1≠b
theorem Inv.fpOk{X:Cx}{pins:List (Addr×Obj)}{σ : St}{H H':Hp}{s:Shared}{b:Addr}(I:Inv X pins σ H s)(hb:s.heap.objs.size≤b)(hn:H' b=none):FpOk X pins H' b:=by
 refine ⟨hn,Nat.ne_of_gt (Nat.lt_of_lt_of_le I.lt hb),I.nofs hb,.inr (Nat.le_trans I.sz hb),fun x c e z=>?_,fun p hp z=>?_⟩
 ·obtain ⟨v,q⟩:=I.cell x c e;exact absurd (Nat.lt_of_lt_of_le q.lt (by rw [z];exact hb)) (Nat.lt_irrefl _)
 ·exact absurd (Nat.lt_of_lt_of_le (Heap.lt_size (I.pin p hp).1) (by rw [z];exact hb)) (Nat.lt_irrefl _)
structure Turn (P:Program) (w:World) (K:Fg) (tg:Expr) (J:It) (fp:List Addr) (it:Addr) (tn:Nat→Heap→Prop):Prop where
 mem:it∈fp
 obj:∀i h,tn i h→∀b∈fp,∃o,h.get? b=some o∧∀v,o.data≠.cell v
 keep:∀i h h',tn i h→(∀b∈fp,∀o,h.get? b=some o→h'.get? b=some o)→tn i h'
 item:∀(X:Cx),X.prog=P→X.w=w→X.K=K→X.calm=true→∀(i:Nat) (pins:List (Addr×Obj)) (s:Shared) (σ : St) (H:Hp) (E:Value→Shared→Prop),Inv X pins σ H s→(∀b∈fp,FpOk X pins H b)→tn i s.heap→J.go i H →
  wpAny (model P w) X.A (pyNext (.ref it)) (fun r s1=>∃u,r=some u ∧
   wpAny (model P w) X.A (letOwnedTupleGo tg (.ref it) u) (fun _ s2=>∃x H',Inv X pins σ H' s2∧RelV x u∧J.yld i H x H'∧tn (i+1) s2.heap∧∀b∈fp,H' b=none) E s1) E s
 done:∀(X:Cx),X.prog=P→X.w=w→X.K=K→X.calm=true→∀(i:Nat) (pins:List (Addr×Obj)) (s:Shared) (σ : St) (H:Hp) (E:Value→Shared→Prop),Inv X pins σ H s→(∀b∈fp,FpOk X pins H b)→tn i s.heap→J.stop i H →
  wpAny (model P w) X.A (pyNext (.ref it)) (fun r s1=>r=none∧Inv X pins σ H s1) E s
 self:∀(A:Around) (i:Nat) (s:Shared) (Q:Value→Shared→Prop) (E:Value→Shared→Prop),tn i s.heap→Q (.ref it) s→wpAny (model P w) A (pyIter (.ref it)) Q E s
abbrev TI:=St→Hp→(It→Hp→Prop)→Prop
def PIE(X:Cx)(pins:List (Addr×Obj))(σ : St)(tg:Expr)(R:It→Hp→Prop)(itv:Value)(s2:Shared):Prop :=
 ∃(it:Addr) (fp:List Addr) (tn:Nat→Heap→Prop) (J:It) (H':Hp),itv = .ref it∧Inv X pins σ H' s2∧Turn X.prog X.w X.K tg J fp it tn∧tn 0 s2.heap∧(∀b∈fp,FpOk X pins H' b)∧R J H'
def PI(X:Cx)(tg iter:Expr)(wi:TI):Prop :=
 ∀(pins:List (Addr×Obj)) (s:Shared) (σ : St) (H:Hp) (R:It→Hp→Prop),Inv X pins σ H s→wi σ H R →
  wpAny (model X.prog X.w) X.A (eval iter X.env) (fun v s1=>wpAny (model X.prog X.w) X.A (pyIter v) (PIE X pins σ tg R) X.xe s1) X.xe s
theorem Zf9 {M : Model} {A : Around} {E : Value → Shared → Prop} {s : Shared} {tg : Expr} {it : Addr} {u : Value} {o : Obj} {n : String} {vs : Array Value} {Q : Unit → Shared → Prop} (ho : s.heap.get? it = some o) (hc : o.cls = .type n) (hd : o.data = .fields vs)
    (hn : ["enumerate", "zip", "dict_itemiterator", "dict_reverseitemiterator", "odict_iterator", "itertools.zip_longest", "itertools.pairwise"].contains n = false) (hQ : Q () s) : wpAny M A (letOwnedTupleGo tg (.ref it) u) Q E s := by
  unfold letOwnedTupleGo
  cases tg <;> first
    | exact wpAny_pure hQ
    | (cases u <;> first
        | exact wpAny_pure hQ
        | (refine wpAny_bind (wpAny_load ho ?_)
           rw [hc, hd]
           show wpAny M A (if (["enumerate", "zip", "dict_itemiterator", "dict_reverseitemiterator", "odict_iterator", "itertools.zip_longest", "itertools.pairwise"].contains n && vs[0]? == some (rawInt _)) = true then _ else _) Q E s
           rw [if_neg (by intro h; rw [hn, Bool.false_and] at h; cases h)]
           exact wpAny_pure hQ))
def Itl(K:Fg)(a:Addr):It :=
 ⟨fun i H=>∃xs x,SqL K H a xs∧xs[i]? = some x,fun i H x H'=>H'=H∧∀xs,SqL K H a xs→xs[i]? = some x,fun i H=>∃xs,SqL K H a xs∧xs.length≤i⟩
def Itt(K:Fg)(a:Addr):It :=
 ⟨fun i H=>∃xs x,SqT K H a xs∧xs[i]? = some x,fun i H x H'=>H'=H∧∀xs,SqT K H a xs→xs[i]? = some x,fun i H=>∃xs,SqT K H a xs∧xs.length≤i⟩
def Itr(lo:Int)(n:Nat):It:=⟨fun i _=>i < n,fun i H x H'=>H'=H∧x = .int (lo+i),fun i _=>n≤i⟩
theorem yW{P:Program}{w:World}{K:Fg}{tg:Expr}(a it:Addr):Turn P w K tg (Itl K a) [it] it (fun i h=>h.IsListIter it a i) where
 mem:=by simp
 obj:=fun i h st b hb=>by
  have e:b=it:=by simpa using hb
  subst e;obtain ⟨o,e,c,d⟩:=st;exact ⟨o,e,fun v z=>by rw [d] at z;cases z⟩
 keep:=fun i h h' st k=>st.at fun o e=>k it (by simp) o e
 item:=by
  intro X hP hw hK hc i pins s σ H E I hf st hg;subst hP hw hK;obtain ⟨xs,x,hq,hx⟩:=hg;obtain ⟨its,rv,p,hz⟩:=I.list hq;obtain ⟨u,hu,ru⟩:=rv.get hx;obtain ⟨f0,f1,f2,f3,f4,f5⟩:=hf it (by simp);refine wpAny_pyNext_list_item st p.isList (x:=u) (by simpa using hu) fun h' st' sb=>?_
  have I1:Inv X pins σ H { s with heap:=h' }:=I.turned (t':=s.toks) (fun b o hb e=>(sb.2 b hb).trans e) f0 f1 f3 f4 f5;obtain ⟨o,e,c,d⟩:=id st';exact ⟨u,rfl,Zf9 (s:={ s with heap:=h' }) e c d (by decide) ⟨x,H,I1,ru,⟨rfl,fun ys hy=>by rw [I.yC hy hq];exact hx⟩,st',fun b hb=>(hf b hb).1⟩⟩
 done:=by
  intro X hP hw hK hc i pins s σ H E I hf st hg;subst hP hw hK;obtain ⟨xs,hq,hx⟩:=hg;obtain ⟨its,rv,p,hz⟩:=I.list hq;obtain ⟨f0,f1,f2,f3,f4,f5⟩:=hf it (by simp);have hl:=rv.length;exact wpAny_pyNext_list_end (I.ok.hd hc) st p.isList (by simp;omega) fun h' eb=>⟨rfl,I.turned (t':=s.toks) (fun b o hb e=>eb b o hb e) f0 f1 f3 f4 f5⟩
 self:=fun _ _ _ _ _ st h=>wpAny_pyIter_listiter st h
theorem jk{P:Program}{w:World}{K:Fg}{tg:Expr}(a it:Addr):Turn P w K tg (Itt K a) [it] it (fun i h=>h.IsTupleIter it a i) where
 mem:=by simp
 obj:=fun i h st b hb=>by
  have e:b=it:=by simpa using hb
  subst e;obtain ⟨o,e,c,d⟩:=st;exact ⟨o,e,fun v z=>by rw [d] at z;cases z⟩
 keep:=fun i h h' st k=>st.at fun o e=>k it (by simp) o e
 item:=by
  intro X hP hw hK hc i pins s σ H E I hf st hg;subst hP hw hK;obtain ⟨xs,x,hq,hx⟩:=hg;obtain ⟨its,rv,p,hz⟩:=I.tuple hq;obtain ⟨u,hu,ru⟩:=rv.get hx;obtain ⟨f0,f1,f2,f3,f4,f5⟩:=hf it (by simp);refine wpAny_pyNext_tuple_item st (show s.heap.IsTuple a its.toArray from p) (x:=u) (by simpa using hu) fun h' st' sb=>?_
  have I1:Inv X pins σ H { s with heap:=h' }:=I.turned (t':=s.toks) (fun b o hb e=>(sb.2 b hb).trans e) f0 f1 f3 f4 f5;obtain ⟨o,e,c,d⟩:=id st';exact ⟨u,rfl,Zf9 (s:={ s with heap:=h' }) e c d (by decide) ⟨x,H,I1,ru,⟨rfl,fun ys hy=>by rw [I.yX hy hq];exact hx⟩,st',fun b hb=>(hf b hb).1⟩⟩
 done:=by
  intro X hP hw hK hc i pins s σ H E I hf st hg;subst hP hw hK;obtain ⟨xs,hq,hx⟩:=hg;obtain ⟨its,rv,p,hz⟩:=I.tuple hq;obtain ⟨f0,f1,f2,f3,f4,f5⟩:=hf it (by simp);have hl:=rv.length;exact wpAny_pyNext_tuple_end (I.ok.hd hc) st (show s.heap.IsTuple a its.toArray from p) (by simp;omega) fun h' eb=>⟨rfl,I.turned (t':=s.toks) (fun b o hb e=>eb b o hb e) f0 f1 f3 f4 f5⟩
 self:=fun _ _ _ _ _ st h=>wpAny_pyIter_tupleiter st h
theorem ZaA{P:Program}{w:World}{K:Fg}{tg:Expr}(it:Addr)(lo:Int)(n:Nat):Turn P w K tg (Itr lo n) [it] it (fun i h=>IsRangeIter h it (lo+(i:Nat)*1) ((n:Int) - (i:Nat)) 1) where
 mem:=by simp
 obj:=fun i h st b hb=>by
  have e:b=it:=by simpa using hb
  subst e
  exact ⟨_,st,fun v z=>by
   have z':Data.fields _=Data.cell v:=z
   cases z'⟩
 keep:=fun i h h' st k=>k it (by simp) _ st
 item:=by
  intro X hP hw hK hc i pins s σ H E I hf st hg;subst hP hw hK;obtain ⟨f0,f1,f2,f3,f4,f5⟩:=hf it (by simp);have W:=Walks.range (prog:=X.prog) (w:=X.w) (I.ok.hd hc) it lo 1 n;refine W.item i s _ _ hg st fun v h' tk hv st' kk=>?_
  obtain ⟨t,rfl⟩:=hv;have I1:Inv X pins σ H { s with heap:=h',toks:=tk }:=I.turned (fun b o hb e=>kk b o (by simpa using hb) e) f0 f1 f3 f4 f5;refine ⟨_,rfl,Zf9 (s:={ s with heap:=h',toks:=tk }) (n:="range_iterator") st' rfl rfl (by decide) ⟨.int (lo+i),H,I1,⟨t,?_⟩,⟨rfl,rfl⟩,st',fun b hb=>(hf b hb).1⟩⟩;rw [Int.mul_one]
 done:=by
  intro X hP hw hK hc i pins s σ H E I hf st hg;subst hP hw hK;obtain ⟨f0,f1,f2,f3,f4,f5⟩:=hf it (by simp);exact wpAny_pyNext_range_end (I.ok.hd hc) st (by have:n≤i:=hg;omega) fun h' eb=>⟨rfl,I.turned (t':=s.toks) (fun b o hb e=>eb b o hb e) f0 f1 f3 f4 f5⟩
 self:=fun _ _ _ _ _ st h=>wpAny_pyIter_rangeiter st h
section
variable{X:Cx}{tg:Expr}
def U9(K:Fg)(tl:TE):TI:=fun σ H R=>tl σ H fun x H1=>∃a,x = .ref a∧(∃xs,SqL K H1 a xs)∧R (Itl K a) H1
def iTup(K:Fg)(tl:TE):TI:=fun σ H R=>tl σ H fun x H1=>∃a,x = .ref a∧(∃xs,SqT K H1 a xs)∧R (Itt K a) H1
theorem YW{l:Expr}{tl:TE}(hl:PE X l tl):PI X tg l (U9 X.K tl):=by
 intro pins s σ H R I h;refine thn (hl pins s σ H _ I h) fun v s1 ⟨x,H1,I1,r1,q1⟩=>?_
 obtain ⟨a,e,⟨xs,hq⟩,q⟩:=q1;subst e;cases r1;obtain ⟨its,rv,p,hz⟩:=I1.list hq;refine wpAny_pyIter_list p.isList ?_;refine ⟨s1.heap.objs.size,[s1.heap.objs.size],_,_,H1,rfl,I1.kept (t':=s1.toks) fun b o e=>Heap.get?_push_of_some _ e,yW a _,⟨_,Heap.get?_push_size _ rfl,rfl,rfl⟩,fun b hb=>?_,q⟩;have e:b=s1.heap.objs.size:=by simpa using hb
 subst e;exact I1.fpOk (Nat.le_refl _) (I1.hok.fresh (Nat.le_refl _))
theorem GQ{l:Expr}{tl:TE}(hl:PE X l tl):PI X tg l (iTup X.K tl):=by
 intro pins s σ H R I h;refine thn (hl pins s σ H _ I h) fun v s1 ⟨x,H1,I1,r1,q1⟩=>?_
 obtain ⟨a,e,⟨xs,hq⟩,q⟩:=q1;subst e;cases r1;obtain ⟨its,rv,p,hz⟩:=I1.tuple hq;refine wpAny_pyIter_tuple (show s1.heap.IsTuple a its.toArray from p) ?_;refine ⟨s1.heap.objs.size,[s1.heap.objs.size],_,_,H1,rfl,I1.kept (t':=s1.toks) fun b o e=>Heap.get?_push_of_some _ e,jk a _,⟨_,Heap.get?_push_size _ rfl,rfl,rfl⟩,fun b hb=>?_,q⟩;have e:b=s1.heap.objs.size:=by simpa using hb
 subst e;exact I1.fpOk (Nat.le_refl _) (I1.hok.fresh (Nat.le_refl _))
theorem uQ{pins:List (Addr×Obj)}{σ : St}{H:Hp}{s:Shared}{R:It→Hp→Prop}{E:Value→Shared→Prop}{lo hi:Int}{t u v:Tok}{tk:Nat}(I:Inv X pins σ H s)(h1 : -(2 ^ 62)≤lo)(h2:lo < 2 ^ 62)(h3 : -(2 ^ 62)≤hi)(h4:hi < 2 ^ 62)
  (q:R (Itr lo (hi - lo).toNat) H):wpAny (model X.prog X.w) X.A (pyIter (.ref s.heap.objs.size)) (PIE X pins σ tg R) E { s with heap:=s.heap.push { cls:=.type "range",data:=.fields #[.int lo t,.int hi u,.int 1 v] },toks:=tk }:=by
 refine wpAny_pyIter_range (IsRange.new ..) (small_one h1 h2 h3 h4) ?_;have I1:Inv X pins σ H { s with heap:=s.heap.push { cls:=.type "range",data:=.fields #[.int lo t,.int hi u,.int 1 v] },toks:=tk }:=I.kept fun b o e=>Heap.get?_push_of_some _ e
 refine ⟨(s.heap.push { cls:=.type "range",data:=.fields #[.int lo t,.int hi u,.int 1 v] }).objs.size,[(s.heap.push { cls:=.type "range",data:=.fields #[.int lo t,.int hi u,.int 1 v] }).objs.size],_,_,H,rfl,
  I1.kept (t':=tk) fun b o e=>Heap.get?_push_of_some _ e,ZaA _ lo (hi - lo).toNat,?_,fun b hb=>?_,q⟩
 ·have e1:lo+((0:Nat):Int)*1=lo:=by simp
  have e2:(((hi - lo).toNat:Nat):Int) - ((0:Nat):Int)=Builtin.Range.rangeSize lo hi 1:=by rw [rangeSize_one];split <;> omega
  show IsRangeIter _ _ (lo+((0:Nat):Int)*1) ((((hi - lo).toNat:Nat):Int) - ((0:Nat):Int)) 1;rw [e1,e2];exact Heap.get?_push_size _ rfl
 ·have e:b=(s.heap.push { cls:=.type "range",data:=.fields #[.int lo t,.int hi u,.int 1 v] }).objs.size:=by simpa using hb
  subst e;exact I1.fpOk (Nat.le_refl _) (I1.hok.fresh (Nat.le_refl _))
def Js(ta:TA):TI:=fun σ H R=>ta σ H fun vs H1=>∃j:Int,vs=[.int j]∧-(2 ^ 62)≤j∧j < 2 ^ 62∧R (Itr 0 j.toNat) H1
def Zea(ta:TA):TI:=fun σ H R=>ta σ H fun vs H1=>∃i j:Int,vs=[.int i,.int j]∧(-(2 ^ 62)≤i∧i < 2 ^ 62∧-(2 ^ 62)≤j∧j < 2 ^ 62)∧R (Itr i (j - i).toNat) H1
theorem ZW {a:Expr} {ta:TA} {p pos:Pos} (hg:Gl X "range") (hm:X.mg "range" = none) (ha:PA X [a] ta) (hs:starEach [a] X.env=[(false,eval a X.env)]:=by rfl):PI X tg (.Call (.Name "range" p) [a] [] pos) (Js ta):=by
 intro pins s σ H R I h;refine Call_ (Jl I hg hm boot_range (PyProof.Rows.callWith_type1 (thn (ha pos pins s σ H _ I h) fun us s1 ⟨vs,H1,I1,r1,q1⟩=>?_) hs rfl));obtain ⟨j,e,q1,q2,q⟩:=q1;subst e;cases r1 with
 | cons r rr =>
  cases rr;obtain ⟨t,rfl⟩:=r;exact call_range_1 (uQ I1 (by omega) (by omega) q1 q2 (by simpa using q))
theorem vL {a b:Expr} {ta:TA} {p pos:Pos} (hg:Gl X "range") (hm:X.mg "range" = none) (ha:PA X [a,b] ta) (hs:starEach [a,b] X.env=[(false,eval a X.env),(false,eval b X.env)]:=by rfl) (hs2:starEach [b] X.env=[(false,eval b X.env)]:=by rfl) :
  PI X tg (.Call (.Name "range" p) [a,b] [] pos) (Zea ta):=by
 intro pins s σ H R I h;refine Call_ (Jl I hg hm boot_range (PyProof.Rows.callWith_type1 (thn (ha pos pins s σ H _ I h) fun us s1 ⟨vs,H1,I1,r1,q1⟩=>?_) (by rw [hs,hs2]) (by rw [hs2];rfl)));obtain ⟨i,j,e,⟨q1,q2,q3,q4⟩,q⟩:=q1;subst e;cases r1 with
 | cons r rr =>
  cases rr with
  | cons r' rr =>
   cases rr;obtain ⟨t,rfl⟩:=r;obtain ⟨t',rfl⟩:=r';exact call_range_2 (uQ I1 q1 q2 q3 q4 q)
def tFor(wi:TI)(g:TG)(tb:TS):TS:=fun D σ H=>wi σ H fun J H1=>∃W:Nat→Nat→St→Hp→Prop,(∃m,W 0 m σ H1)∧∀i m σ H,W i m σ H →
 (J.stop i H∧D.nx σ H)∨(J.go i H∧∃N:St→Hp→Prop,(∀σ' H',N σ' H'→∃m',m' < m∧W (i+1) m' σ' H')∧∀x H',J.yld i H x H'→g x σ H' fun σ2 H2=>tb { D with nx:=N,ct:=N,bk:=D.nx } σ2 H2)
def uV(fp:List Addr)(h:Heap):List (Addr×Obj):=fp.filterMap fun b=>(h.get? b).map fun o=>(b,o)
theorem Yc{fp:List Addr}{h:Heap}{b:Addr}{o:Obj}(hb:b∈fp)(e:h.get? b=some o):(b,o)∈uV fp h:=List.mem_filterMap.mpr ⟨b,hb,by rw [e];rfl⟩
theorem Zb4{fp:List Addr}{h:Heap}{p:Addr×Obj}(hp:p∈uV fp h):p.1∈fp∧h.get? p.1=some p.2:=by
 obtain ⟨b,hb,e⟩:=List.mem_filterMap.mp hp;cases q:h.get? b with
 | none=>rw [q] at e;cases e
 | some o =>
  rw [q] at e;have e':(b,o)=p:=Option.some.inj e;subst e';exact ⟨hb,q⟩
theorem Inv.pinned{pins:List (Addr×Obj)}{σ : St}{H:Hp}{s:Shared}{fp:List Addr}(I:Inv X pins σ H s)(hf:∀b∈fp,FpOk X pins H b)(ho:∀b∈fp,∃o,s.heap.get? b=some o∧∀v,o.data≠.cell v):Inv X (pins++uV fp s.heap) σ H s :=
 I.ZbQ fun p hp=>(List.mem_append.mp hp).elim (fun z=>I.pin p (List.mem_append_right _ z)) fun z=>by
  obtain ⟨hb,e⟩:=Zb4 z;obtain ⟨f0,f1,f2,_⟩:=hf p.1 hb;obtain ⟨o,e',d⟩:=ho p.1 hb;rw [e] at e';cases e';exact ⟨e,f0,f1,f2,d⟩
theorem Inv.Jo{pins pl:List (Addr×Obj)}{σ : St}{H:Hp}{s:Shared}(I:Inv X (pins++pl) σ H s):Inv X pins σ H s:=I.ZbQ fun p hp=>I.pin p (List.mem_append_right _ (List.mem_append_left _ hp))
theorem Yw{iter:Expr}{body:List Stmt}{wi:TI}{g:TG}{tb:TS}{pos:Pos}(hp:PassesOwn (model X.prog X.w) X.A X.env X.xe)(hc:X.calm=true)(hi:PI X tg iter wi)(hg:PG X tg g)(hb:PSs X body tb)
  (hs:∀x,foldedSetIterable iter X.env x=pure x:=by intro _;rfl):PS X (.For tg iter body [] pos) (tFor wi g tb):=by
 intro pins s σ H D I h;refine wpAny_For (thn (hi pins s σ H _ I h) fun v s1 h1=>thn h1 fun itv s2 h2=>?_) hs;obtain ⟨it,fp,tn,J,H2,e,I2,T,st2,f2,W,⟨m0,w0⟩,turn⟩:=h2;subst e;have stat:∀{H':Hp},(∀b∈fp,H' b=none)→∀b∈fp,FpOk X pins H' b:=fun hn b hb=>⟨hn b hb,(f2 b hb).2⟩
 refine codeAny_forLoop_any (fun n s'=>∃i σ' H',Inv X pins σ' H' s'∧tn i s'.heap∧(∀b∈fp,H' b=none)∧W i n σ' H') ?_ m0 ⟨0,σ,H2,I2,st2,fun b hb=>(f2 b hb).1,w0⟩;rintro n s3 ⟨i,σ3,H3,I3,st3,fr3,w3⟩;rcases turn i n σ3 H3 w3 with ⟨stop,qn⟩ | ⟨go,N,hN,step⟩
 ·refine wpAny_passesOwn hp (thn (T.done X rfl rfl rfl hc i pins s3 σ3 H3 X.xe I3 (stat fr3) st3 stop) fun r s4 ⟨hr,I4⟩=>?_);subst hr;exact wpAny_execs_nil ⟨σ3,H3,I4,qn⟩
 ·refine wpAny_passesOwn hp (thn (T.item X rfl rfl rfl hc i pins s3 σ3 H3 X.xe I3 (stat fr3) st3 go) fun r s4 ⟨u,hr,h4⟩=>?_);subst hr;refine wpAny_passesOwn hp (thn h4 fun _ s5 ⟨x,H5,I5,r5,y5,st5,fr5⟩=>?_);have I5':=I5.pinned (stat fr5) (T.obj _ _ st5);refine wpAny_passesOwn hp (thn (hg _ s5 σ3 H5 x u _ I5' r5 (step x H5 y5)) fun _ s6 ⟨σ6,H6,I6,q6⟩=>?_);refine wpAny_passesOwn hp (thn (hb _ s6 σ6 H6 _ I6 q6) fun f s7 q7=>?_)
  have again:∀{σ7:St} {H7:Hp},Inv X (pins++uV fp s5.heap) σ7 H7 s7→N σ7 H7→∃m,m < n∧∃i σ' H',Inv X pins σ' H' s7∧tn i s7.heap∧(∀b∈fp,H' b=none)∧W i m σ' H':=fun {σ7 H7} I7 n7=>by
   obtain ⟨m',hm,w7⟩:=hN σ7 H7 n7;refine ⟨m',hm,i+1,σ7,H7,I7.Jo,T.keep _ _ _ st5 fun b hb o e=>(I7.pin (b,o) (List.mem_append_right _ (List.mem_append_right _ (Yc hb e)))).1,fun b hb=>?_,w7⟩;obtain ⟨o,e,d⟩:=T.obj _ _ st5 b hb;exact (I7.pin (b,o) (List.mem_append_right _ (List.mem_append_right _ (Yc hb e)))).2.1
  cases f with
  | next=>obtain ⟨σ7,H7,I7,n7⟩:=q7;exact again I7 n7
  | cont=>obtain ⟨σ7,H7,I7,n7⟩:=q7;exact again I7 n7
  | brk=>obtain ⟨σ7,H7,I7,q7⟩:=q7;exact ⟨σ7,H7,I7.Jo,q7⟩
  | ret v=>obtain ⟨x7,σ7,H7,I7,r7,q7⟩:=q7;exact ⟨x7,σ7,H7,I7.Jo,r7,q7⟩
end
theorem Zef{K:Fg}{a:Addr}{xs:List V}{g:TG}{tb:TS}{D:Ends}{σ : St}{H:Hp}(Pv:Nat→St→Hp→Prop)(h0:Pv 0 σ H)(hl:∀i σ H,i≤xs.length→Pv i σ H→SqL K H a xs)
  (hs:∀i x σ H,xs[i]? = some x→Pv i σ H→g x σ H fun σ2 H2=>tb { D with nx:=Pv (i+1),ct:=Pv (i+1),bk:=D.nx } σ2 H2) (hd:∀σ H,Pv xs.length σ H→D.nx σ H) :
  ∃W:Nat→Nat→St→Hp→Prop,(∃m,W 0 m σ H)∧∀i m σ H,W i m σ H →
   ((Itl K a).stop i H∧D.nx σ H)∨((Itl K a).go i H∧∃N:St→Hp→Prop,(∀σ' H',N σ' H'→∃m',m' < m∧W (i+1) m' σ' H')∧∀x H',(Itl K a).yld i H x H'→g x σ H' fun σ2 H2=>tb { D with nx:=N,ct:=N,bk:=D.nx } σ2 H2):=by
 refine ⟨fun i m σ H=>m=xs.length - i∧i≤xs.length∧Pv i σ H,⟨xs.length,by simp,Nat.zero_le _,h0⟩,?_⟩;rintro i m σ H ⟨rfl,hi,p⟩;have q:=hl i σ H hi p;by_cases hlt:i < xs.length
 ·refine .inr ⟨⟨xs,xs[i],q,by simp [hlt]⟩,Pv (i+1),fun σ' H' p'=>⟨xs.length - (i+1),by omega,rfl,hlt,p'⟩,fun x H' y=>?_⟩;obtain ⟨e,y⟩:=y;subst e;exact hs i x σ _ (y xs q) p
 ·have e:i=xs.length:=by omega
  subst e;exact .inl ⟨⟨xs,q,Nat.le_refl _⟩,hd σ H p⟩
theorem Zgb{K:Fg}{a:Addr}{xs:List V}{g:TG}{tb:TS}{D:Ends}{σ : St}{H:Hp}(Pv:Nat→St→Hp→Prop)(h0:Pv 0 σ H)(hl:∀i σ H,i≤xs.length→Pv i σ H→SqT K H a xs)
  (hs:∀i x σ H,xs[i]? = some x→Pv i σ H→g x σ H fun σ2 H2=>tb { D with nx:=Pv (i+1),ct:=Pv (i+1),bk:=D.nx } σ2 H2) (hd:∀σ H,Pv xs.length σ H→D.nx σ H) :
  ∃W:Nat→Nat→St→Hp→Prop,(∃m,W 0 m σ H)∧∀i m σ H,W i m σ H →
   ((Itt K a).stop i H∧D.nx σ H)∨((Itt K a).go i H∧∃N:St→Hp→Prop,(∀σ' H',N σ' H'→∃m',m' < m∧W (i+1) m' σ' H')∧∀x H',(Itt K a).yld i H x H'→g x σ H' fun σ2 H2=>tb { D with nx:=N,ct:=N,bk:=D.nx } σ2 H2):=by
 refine ⟨fun i m σ H=>m=xs.length - i∧i≤xs.length∧Pv i σ H,⟨xs.length,by simp,Nat.zero_le _,h0⟩,?_⟩;rintro i m σ H ⟨rfl,hi,p⟩;have q:=hl i σ H hi p;by_cases hlt:i < xs.length
 ·refine .inr ⟨⟨xs,xs[i],q,by simp [hlt]⟩,Pv (i+1),fun σ' H' p'=>⟨xs.length - (i+1),by omega,rfl,hlt,p'⟩,fun x H' y=>?_⟩;obtain ⟨e,y⟩:=y;subst e;exact hs i x σ _ (y xs q) p
 ·have e:i=xs.length:=by omega
  subst e;exact .inl ⟨⟨xs,q,Nat.le_refl _⟩,hd σ H p⟩
theorem ZcG{lo:Int}{n:Nat}{g:TG}{tb:TS}{D:Ends}{σ : St}{H:Hp}(Pv:Nat→St→Hp→Prop)(h0:Pv 0 σ H)
  (hs:∀i σ H,i < n→Pv i σ H→g (.int (lo+i)) σ H fun σ2 H2=>tb { D with nx:=Pv (i+1),ct:=Pv (i+1),bk:=D.nx } σ2 H2) (hd:∀σ H,Pv n σ H→D.nx σ H) :
  ∃W:Nat→Nat→St→Hp→Prop,(∃m,W 0 m σ H)∧∀i m σ H,W i m σ H →
   ((Itr lo n).stop i H∧D.nx σ H)∨((Itr lo n).go i H∧∃N:St→Hp→Prop,(∀σ' H',N σ' H'→∃m',m' < m∧W (i+1) m' σ' H')∧∀x H',(Itr lo n).yld i H x H'→g x σ H' fun σ2 H2=>tb { D with nx:=N,ct:=N,bk:=D.nx } σ2 H2):=by
 refine ⟨fun i m σ H=>m=n - i∧i≤n∧Pv i σ H,⟨n,by simp,Nat.zero_le _,h0⟩,?_⟩;rintro i m σ H ⟨rfl,hi,p⟩;by_cases hlt:i < n
 ·refine .inr ⟨hlt,Pv (i+1),fun σ' H' p'=>⟨n - (i+1),by omega,rfl,hlt,p'⟩,fun x H' y=>?_⟩;obtain ⟨e,y⟩:=y;subst e y;exact hs i σ _ hlt p
 ·have e:i=n:=by omega
  subst e;exact .inl ⟨Nat.le_refl _,hd σ H p⟩
theorem uH{c:TT}{tb:TS}{D:Ends}{σ : St}{H:Hp}(Pv:St→Hp→Prop)(μ : St→Hp→Nat)(h0:Pv σ H)
  (hs:∀σ H,Pv σ H→c σ H fun b H1=>if b=true then tb { D with nx:=fun σ' H'=>Pv σ' H'∧μ σ' H' < μ σ H,ct:=fun σ' H'=>Pv σ' H'∧μ σ' H' < μ σ H,bk:=D.nx } σ H1 else D.nx σ H1)
  (mono:∀σ H Q Q',(∀b H1,Q b H1→Q' b H1)→c σ H Q→c σ H Q'):Wt c tb D σ H:=by
 refine ⟨fun m σ H=>m = μ σ H∧Pv σ H,⟨_,rfl,h0⟩,?_⟩;rintro m σ H ⟨rfl,p⟩;refine mono σ H _ _ (fun b H1 q=>?_) (hs σ H p);cases b with
 | true=>exact ⟨_,fun σ' H' ⟨p',l⟩=>⟨_,l,rfl,p'⟩,q⟩
 | false=>exact q
abbrev R2:=V→V→Hp→VK→Prop
def OpR(X:Cx)(f:Value→Value→Sem Value)(r:R2):Prop :=
 ∀(pins:List (Addr×Obj)) (s:Shared) (σ : St) (H:Hp) (x y:V) (v u:Value) (Q:VK),Inv X pins σ H s→RelV x v→RelV y u→r x y H Q →
  wpAny (model X.prog X.w) X.A (f v u) (EP X pins σ Q) X.xe s
def UnR(X:Cx)(f:Value→Sem Value)(r:V→Hp→VK→Prop):Prop :=
 ∀(pins:List (Addr×Obj)) (s:Shared) (σ : St) (H:Hp) (x:V) (v:Value) (Q:VK),Inv X pins σ H s→RelV x v→r x H Q →
  wpAny (model X.prog X.w) X.A (f v) (EP X pins σ Q) X.xe s
def Ul(X:Cx)(f:Value)(r:List V→Hp→VK→Prop):Prop :=
 ∀(pins:List (Addr×Obj)) (s:Shared) (σ : St) (H:Hp) (xs:List V) (us:List Value) (Q:VK),Inv X pins σ H s→Vals xs us→r xs H Q →
  wpAny (model X.prog X.w) X.A (call f us) (EP X pins σ Q) X.xe s
def tOp(r:R2)(ta tb:TE):TE:=fun σ H Q=>ta σ H fun x H1=>tb σ H1 fun y H2=>r x y H2 Q
def tUn(r:V→Hp→VK→Prop)(ta:TE):TE:=fun σ H Q=>ta σ H fun x H1=>r x H1 Q
def rI(C:Int→Int→Prop)(g:Int→Int→V):R2:=fun x y H Q=>∃i j,x = .int i∧y = .int j∧C i j∧Q (g i j) H
def rI0(g:Int→Int→V):R2:=fun x y H Q=>∃i j,x = .int i∧y = .int j∧Q (g i j) H
def rU(g:Int→V):V→Hp→VK→Prop:=fun x H Q=>∃i,x = .int i∧Q (g i) H
section
variable{X:Cx}{a b c:Expr}{ta tb tc:TE}{pos:Pos}
theorem binT(ha:PE X a ta)(hb:PE X b tb){pins:List (Addr×Obj)}{s:Shared}{σ : St}{H:Hp}{R:V→V→Hp→Prop}(I:Inv X pins σ H s)
  (h:ta σ H fun x H1=>tb σ H1 fun y H2=>R x y H2) {Q:Value→Shared→Prop} {f:Value→Value→Sem Value}
  (hf:∀v u s2 x y H2,Inv X pins σ H2 s2→RelV x v→RelV y u→R x y H2→wpAny (model X.prog X.w) X.A (f v u) Q X.xe s2) :
  wpAny (model X.prog X.w) X.A (eval a X.env) (fun v s₁=>wpAny (model X.prog X.w) X.A (eval b X.env) (fun u s₂=>wpAny (model X.prog X.w) X.A (f v u) Q X.xe s₂) X.xe s₁) X.xe s:=by
 refine thn (ha pins s σ H _ I h) fun v s1 ⟨x,H1,I1,r1,q1⟩=>?_
 refine thn (hb pins s1 σ H1 _ I1 q1) fun u s2 ⟨y,H2,I2,r2,q2⟩=>?_
 exact hf v u s2 x y H2 I2 r1 r2 q2
theorem Zo{op:Operator}{r:R2}(ho:OpR X (binaryOp op) r)(ha:PE X a ta)(hb:PE X b tb):PE X (.BinOp a op b pos) (tOp r ta tb):=by
 intro pins s σ H Q I h;exact wpAny_BinOp (binT ha hb I h fun v u s2 x y H2 I2 rx ry q=>ho pins s2 σ H2 x y v u Q I2 rx ry q)
theorem j7{op:UnaryOp}{r:V→Hp→VK→Prop}(ho:UnR X (unaryOp op) r)(ha:PE X a ta):PE X (.UnaryOp op a pos) (tUn r ta):=by
 intro pins s σ H Q I h;exact UnaryOp_ (thn (ha pins s σ H _ I h) fun v s1 ⟨x,H1,I1,r1,q1⟩=>ho pins s1 σ H1 x v Q I1 r1 q1)
theorem opI{f:Value→Value→Sem Value}{C:Int→Int→Prop}{g:Int→Int→Int}
  (rule:∀(i j:Int) (t u:Tok) (s:Shared) (Q:Value→Shared→Prop) (E:Value→Shared→Prop),C i j→Q (.int (g i j) s.toks) { s with toks:=s.toks+1 }→wpAny (model X.prog X.w) X.A (f (.int i t) (.int j u)) Q E s) :
  OpR X f (rI C fun i j=>.int (g i j)):=by
 intro pins s σ H x y v u Q I rx ry h;obtain ⟨i,j,rfl,rfl,hc,q⟩:=h;obtain ⟨t,rfl⟩:=rx;obtain ⟨t',rfl⟩:=ry;exact rule i j t t' s _ _ hc ⟨.int (g i j),H,I.tok _,⟨_,rfl⟩,q⟩
theorem opI0{f:Value→Value→Sem Value}{g:Int→Int→Int}
  (rule:∀(i j:Int) (t u:Tok) (s:Shared) (Q:Value→Shared→Prop) (E:Value→Shared→Prop),Q (.int (g i j) s.toks) { s with toks:=s.toks+1 }→wpAny (model X.prog X.w) X.A (f (.int i t) (.int j u)) Q E s) :
  OpR X f (rI0 fun i j=>.int (g i j)):=by
 intro pins s σ H x y v u Q I rx ry h;obtain ⟨i,j,rfl,rfl,q⟩:=h;obtain ⟨t,rfl⟩:=rx;obtain ⟨t',rfl⟩:=ry;exact rule i j t t' s _ _ ⟨.int (g i j),H,I.tok _,⟨_,rfl⟩,q⟩
theorem opB0{f:Value→Value→Sem Value}{g:Int→Int→Bool}
  (rule:∀(i j:Int) (t u:Tok) (s:Shared) (Q:Value→Shared→Prop) (E:Value→Shared→Prop),Q (.bool (g i j)) s→wpAny (model X.prog X.w) X.A (f (.int i t) (.int j u)) Q E s) :
  OpR X f (rI0 fun i j=>.bl (g i j)):=by
 intro pins s σ H x y v u Q I rx ry h;obtain ⟨i,j,rfl,rfl,q⟩:=h;obtain ⟨t,rfl⟩:=rx;obtain ⟨t',rfl⟩:=ry;exact rule i j t t' s _ _ ⟨.bl (g i j),H,I,rfl,q⟩
def CDiv(i j:Int):Prop:=0 < j∧j < 1073741824
def CPow(i j:Int):Prop:=0≤j∧j≤1000000∧i.natAbs < 2 ^ 64
def CMul(i j:Int):Prop:=(-(2 ^ 64) < i∧i < 2 ^ 64)∨(-(2 ^ 64) < j∧j < 2 ^ 64)
theorem CMul.ok{i j:Int}(h:CMul i j):IntMulOk i j:=by
 rcases h with ⟨h1,h2⟩ | ⟨h1,h2⟩
 ·exact .of_left (intBits_le_64 h1 h2)
 ·exact .of_right (intBits_le_64 h1 h2)
theorem Zay(k:Nat):(0:Int)≤2 ^ k:=by
 rw [two_pow_cast];exact Int.natCast_nonneg _
theorem Z2:OpR X (binaryOp .Add) (rI0 fun i j=>.int (i+j)):=opI0 fun _ _ _ _ _ _ _ q=>add_int q
theorem ql:OpR X (binaryOp .Sub) (rI0 fun i j=>.int (i - j)):=opI0 fun _ _ _ _ _ _ _ q=>sub_int q
theorem Ug:OpR X (binaryOp .Mult) (rI CMul fun i j=>.int (i*j)):=opI fun _ _ _ _ _ _ _ hc q=>mul_int q hc.ok
theorem Ym:OpR X (binaryOp .FloorDiv) (rI CDiv fun i j=>.int (i / j)):=opI fun i j _ _ _ _ _ hc q=>by
 have h1:(0:Int) < j:=hc.1;have h2:j < 1073741824:=hc.2;exact floordiv_int (by omega) (by rw [Int.fdiv_eq_ediv_of_nonneg i (by omega)];exact q) (.inl (PyProof.noPylong_small (by omega)))
theorem Z1:OpR X (binaryOp .Mod) (rI (fun _ j=>0 < j) fun i j=>.int (i % j)):=opI fun i j _ _ _ _ _ hc q=>by
 have h1:(0:Int) < j:=hc;exact mod_int' (by omega) (by rw [Int.fmod_eq_emod_of_nonneg i (by omega)];exact q)
theorem Zb0:OpR X (binaryOp .Mod) (rI (fun _ j=>j≠0) fun i j=>.int (i.fmod j)):=opI fun _ _ _ _ _ _ _ hc q=>mod_int' hc q
theorem ju:OpR X (binaryOp .Pow) (rI CPow fun i j=>.int (i ^ j.toNat)):=opI fun _ _ _ _ _ _ _ hc q=>pow_int_small hc.1 hc.2.1 hc.2.2 q
theorem ZgY:OpR X (binaryOp .LShift) (rI CPow fun i j=>.int (i*2 ^ j.toNat)):=opI fun _ _ _ _ _ _ _ hc q=>lshift_int_small hc.1 hc.2.1 hc.2.2 q
theorem ZgX:OpR X (binaryOp .RShift) (rI (fun _ j=>0≤j) fun i j=>.int (i / 2 ^ j.toNat)):=opI fun i j _ _ _ _ _ hc q =>
 rshift_int hc (by rw [Int.fdiv_eq_ediv_of_nonneg i (Zay _)];exact q)
theorem Zg1:OpR X (binaryOp .BitAnd) (rI0 fun i j=>.int (Builtin.bitAnd i j)):=opI0 fun _ _ _ _ _ _ _ q=>and_int q
theorem unI{f:Value→Sem Value}{g:Int→Int}
  (rule:∀(i:Int) (t:Tok) (s:Shared) (Q:Value→Shared→Prop) (E:Value→Shared→Prop),Q (.int (g i) s.toks) { s with toks:=s.toks+1 }→wpAny (model X.prog X.w) X.A (f (.int i t)) Q E s) :
  UnR X f (rU fun i=>.int (g i)):=by
 intro pins s σ H x v Q I rx h;obtain ⟨i,rfl,q⟩:=h;obtain ⟨t,rfl⟩:=rx;exact rule i t s _ _ ⟨.int (g i),H,I.tok _,⟨_,rfl⟩,q⟩
theorem Uo:UnR X (unaryOp .USub) (rU fun i=>.int (-i)):=unI fun _ _ _ _ _ q=>neg_int q
end
def scal:V→V→Bool
 | .non,.non=>true | .non,.int _=>true | .int _,.non=>true | .non,.bl _=>true | .bl _,.non=>true | .non,.str _=>true | .str _,.non=>true
 | .int _,.int _=>true | .bl _,.bl _=>true | .str _,.str _=>true | .byt _,.byt _=>true
 | .int _,.str _=>true | .str _,.int _=>true | .bl _,.str _=>true | .str _,.bl _=>true
 | _,_=>false
def rEq:R2:=fun x y H Q=>scal x y=true∧Q (.bl (decide (x=y))) H
def rNe:R2:=fun x y H Q=>scal x y=true∧Q (.bl (!decide (x=y))) H
theorem ZcQ{i j:Int}:decide (V.int i=V.int j)=(i == j):=by
 rw [Bool.eq_iff_iff];simp
theorem ZeU{i j:Bool}:decide (V.bl i=V.bl j)=(i == j):=by
 rw [Bool.eq_iff_iff];simp
theorem ZcP{i j:Str}:decide (V.str i=V.str j)=(i == j):=by
 rw [Bool.eq_iff_iff];simp
theorem ZcR{i j:Array UInt8}:decide (V.byt i=V.byt j)=(i.toList == j.toList):=by
 rw [Bool.eq_iff_iff];cases i;cases j;simp
section
variable{X:Cx}{a b c:Expr}{ta tb tc:TE}{pos:Pos}
theorem ZX{pins:List (Addr×Obj)}{σ : St}{H:Hp}{s:Shared}{Q:VK}{k k':Bool}(I:Inv X pins σ H s)(q:Q (.bl k) H)(e:k=k'):EP X pins σ Q (.bool k') s:=by
 subst e;exact ⟨.bl k,H,I,rfl,q⟩
theorem Jz:OpR X (compareOp .Eq) rEq:=by
 intro pins s σ H x y v u Q I rx ry h;obtain ⟨hs,q⟩:=h;cases x with
 | non =>
  cases rx;cases y with
  | non=>cases ry;exact PySem.EqNone.eq_none_none (ZX I q (by simp))
  | bl j=>cases ry;exact PySem.EqNone.eq_none_bool (ZX I q (by simp))
  | int j=>obtain ⟨t',rfl⟩:=ry;exact PySem.EqNone.eq_none_int (ZX I q (by simp))
  | str j=>obtain ⟨t',rfl⟩:=ry;exact PySem.EqNone.eq_none_str (ZX I q (by simp))
  | _=>exact absurd (show false=true from hs) Bool.false_ne_true
 | bl i =>
  cases rx;cases y with
  | non=>cases ry;exact PySem.EqNone.eq_bool_none (ZX I q (by simp))
  | bl j=>cases ry;exact eq_bool (ZX I q ZeU)
  | str j=>obtain ⟨t',rfl⟩:=ry;exact PySem.EqMixed.eq_bool_str (ZX I q (by simp))
  | _=>exact absurd (show false=true from hs) Bool.false_ne_true
 | int i =>
  obtain ⟨t,rfl⟩:=rx;cases y with
  | non=>cases ry;exact PySem.EqNone.eq_int_none (ZX I q (by simp))
  | int j=>obtain ⟨t',rfl⟩:=ry;exact eq_int (ZX I q ZcQ)
  | str j=>obtain ⟨t',rfl⟩:=ry;exact PySem.EqMixed.eq_int_str (ZX I q (by simp))
  | _=>exact absurd (show false=true from hs) Bool.false_ne_true
 | str i =>
  obtain ⟨t,rfl⟩:=rx;cases y with
  | non=>cases ry;exact PySem.EqNone.eq_str_none (ZX I q (by simp))
  | bl j=>cases ry;exact PySem.EqMixed.eq_str_bool (ZX I q (by simp))
  | int j=>obtain ⟨t',rfl⟩:=ry;exact PySem.EqMixed.eq_str_int (ZX I q (by simp))
  | str j=>obtain ⟨t',rfl⟩:=ry;exact eq_str (ZX I q ZcP)
  | _=>exact absurd (show false=true from hs) Bool.false_ne_true
 | byt i =>
  obtain ⟨t,rfl⟩:=rx;cases y with
  | byt j=>obtain ⟨t',rfl⟩:=ry;exact PySem.W.eq_bytes (ZX I q ZcR)
  | _=>exact absurd (show false=true from hs) Bool.false_ne_true
 | _=>cases y <;> exact absurd (show false=true from hs) Bool.false_ne_true
theorem ZbZ:OpR X (compareOp .NotEq) rNe:=by
 intro pins s σ H x y v u Q I rx ry h;obtain ⟨hs,q⟩:=h;cases x with
 | non =>
  cases rx;cases y with
  | non=>cases ry;exact PySem.EqNone.ne_none_none (ZX I q (by simp))
  | bl j=>cases ry;exact PySem.EqNone.ne_none_bool (ZX I q (by simp))
  | int j=>obtain ⟨t',rfl⟩:=ry;exact PySem.EqNone.ne_none_int (ZX I q (by simp))
  | str j=>obtain ⟨t',rfl⟩:=ry;exact PySem.EqNone.ne_none_str (ZX I q (by simp))
  | _=>exact absurd (show false=true from hs) Bool.false_ne_true
 | bl i =>
  cases rx;cases y with
  | non=>cases ry;exact PySem.EqNone.ne_bool_none (ZX I q (by simp))
  | bl j=>cases ry;exact ne_bool (ZX I q (congrArg not ZeU))
  | str j=>obtain ⟨t',rfl⟩:=ry;exact PySem.EqMixed.ne_bool_str (ZX I q (by simp))
  | _=>exact absurd (show false=true from hs) Bool.false_ne_true
 | int i =>
  obtain ⟨t,rfl⟩:=rx;cases y with
  | non=>cases ry;exact PySem.EqNone.ne_int_none (ZX I q (by simp))
  | int j=>obtain ⟨t',rfl⟩:=ry;exact ne_int (ZX I q (congrArg not ZcQ))
  | str j=>obtain ⟨t',rfl⟩:=ry;exact PySem.EqMixed.ne_int_str (ZX I q (by simp))
  | _=>exact absurd (show false=true from hs) Bool.false_ne_true
 | str i =>
  obtain ⟨t,rfl⟩:=rx;cases y with
  | non=>cases ry;exact PySem.EqNone.ne_str_none (ZX I q (by simp))
  | bl j=>cases ry;exact PySem.EqMixed.ne_str_bool (ZX I q (by simp))
  | int j=>obtain ⟨t',rfl⟩:=ry;exact PySem.EqMixed.ne_str_int (ZX I q (by simp))
  | str j=>obtain ⟨t',rfl⟩:=ry;exact ne_str (ZX I q (congrArg not ZcP))
  | _=>exact absurd (show false=true from hs) Bool.false_ne_true
 | byt i =>
  obtain ⟨t,rfl⟩:=rx;cases y with
  | byt j=>obtain ⟨t',rfl⟩:=ry;exact PySem.W.ne_bytes (ZX I q (congrArg not ZcR))
  | _=>exact absurd (show false=true from hs) Bool.false_ne_true
 | _=>cases y <;> exact absurd (show false=true from hs) Bool.false_ne_true
theorem j_:OpR X (compareOp .Lt) (rI0 fun i j=>.bl (decide (i < j))):=opB0 fun _ _ _ _ _ _ _ q=>lt_int q
theorem Zh6:OpR X (compareOp .LtE) (rI0 fun i j=>.bl (decide (i≤j))):=opB0 fun _ _ _ _ _ _ _ q=>le_int q
theorem qP:OpR X (compareOp .Gt) (rI0 fun i j=>.bl (decide (j < i))):=opB0 fun _ _ _ _ _ _ _ q=>gt_int q
theorem Zh7:OpR X (compareOp .GtE) (rI0 fun i j=>.bl (decide (j≤i))):=opB0 fun _ _ _ _ _ _ _ q=>ge_int q
theorem ZeL:OpR X (compareOp .Is) (fun x y H Q=>y = .non∧Q (.bl (decide (x = .non))) H):=by
 intro pins s σ H x y v u Q I rx ry h;obtain ⟨rfl,q⟩:=h;cases ry;refine is_none_gen (ZX I q ?_)
 cases x <;> first
  | (cases rx;rfl)
  | (obtain ⟨t,rfl⟩:=rx;rfl)
theorem ZbY:OpR X (compareOp .IsNot) (fun x y H Q=>y = .non∧Q (.bl (!decide (x = .non))) H):=by
 intro pins s σ H x y v u Q I rx ry h;obtain ⟨rfl,q⟩:=h;cases ry;refine isnot_none_gen (ZX I q ?_)
 cases x <;> first
  | (cases rx;rfl)
  | (obtain ⟨t,rfl⟩:=rx;rfl)
theorem ZJ(b:Expr){op:CmpOp}(h:op≠.In:=by decide)(h2:op≠.NotIn:=by decide):behindInMarks op b=false:=by
 have e1:(op == CmpOp.In)=false:=by cases op <;> first | rfl | exact absurd rfl h
 have e2:(op == CmpOp.NotIn)=false:=by cases op <;> first | rfl | exact absurd rfl h2
 cases b <;> simp [behindInMarks,e1,e2]
theorem YB{op:CmpOp}{r:R2}(ho:OpR X (compareOp op) r)(ha:PE X a ta)(hb:PE X b tb)(hm:behindInMarks op b=false):PE X (.Compare a [op] [b] pos) (tOp r ta tb):=by
 intro pins s σ H Q I h;exact wpAny_Compare1 (binT ha hb I h fun v u s2 x y H2 I2 rx ry q=>ho pins s2 σ H2 x y v u Q I2 rx ry q) hm
def Z6(t:TE):TT:=fun σ H Q=>t σ H fun x H'=>∃k,x = .bl k∧Q k H'
theorem ZF{op:CmpOp}{r:R2}(ho:OpR X (compareOp op) r)(ha:PE X a ta)(hb:PE X b tb)(hm:behindInMarks op b=false):PT X (.Compare a [op] [b] pos) (Z6 (tOp r ta tb)):=by
 intro pins s σ H Q I h
 refine wpAny_isTrue_Compare1 (thn (ha pins s σ H _ I h) fun v s1 ⟨x,H1,I1,r1,q1⟩=>thn (hb pins s1 σ H1 _ I1 q1) fun u s2 ⟨y,H2,I2,r2,q2⟩ =>
  thn (ho pins s2 σ H2 x y v u _ I2 r1 r2 q2) fun c s3 ⟨z,H3,I3,r3,k,e,q3⟩=>?_) hm
 subst e;cases r3;exact wpAny_truthy_bool ⟨H3,I3,q3⟩
def Zbr(r r':R2)(ta tb tc:TE):TE:=fun σ H Q=>ta σ H fun x H1=>tb σ H1 fun y H2=>r x y H2 fun z H3=>∃k,z = .bl k ∧
 (if k=true then tc σ H3 fun w' H4=>r' y w' H4 Q else Q (.bl false) H3)
theorem ZdJ{op op':CmpOp}{r r':R2}(ho:OpR X (compareOp op) r)(ho':OpR X (compareOp op') r')(ha:PE X a ta)(hb:PE X b tb)(hc:PE X c tc)
  (hm:lastMarks [op,op'] [b,c]=false:=by with_unfolding_all rfl):PT X (.Compare a [op,op'] [b,c] pos) (Z6 (Zbr r r' ta tb tc)):=by
 intro pins s σ H Q I h
 refine isTrue_chain (thn (ha pins s σ H _ I h) fun v s1 ⟨x,H1,I1,r1,q1⟩=>test_link (thn (hb pins s1 σ H1 _ I1 q1) fun u s2 ⟨y,H2,I2,r2,q2⟩ =>
  thn (ho pins s2 σ H2 x y v u _ I2 r1 r2 q2) fun d s3 ⟨z,H3,I3,r3,k,e,q3⟩=>?_)) hm
 subst e;cases r3;refine wpAny_truthy_bool ?_;cases k with
 | false =>
  obtain ⟨k',e',q'⟩:=q3;cases e';exact ite_ff ⟨H3,I3,q'⟩
 | true =>
  refine ite_tt (test_last (thn (hc pins s3 σ H3 _ I3 q3) fun w' s4 ⟨z',H4,I4,r4,q4⟩=>thn (ho' pins s4 σ H4 y z' u w' _ I4 r2 r4 q4) fun d' s5 ⟨z2,H5,I5,r5,k2,e2,q5⟩=>?_));subst e2;cases r5;exact wpAny_truthy_bool ⟨H5,I5,q5⟩
theorem Ft:(sizeLine:Nat) < 2 ^ 63:=by rw [sizeLine_eq];decide
theorem jx:OpR X (binaryOp .Add) (fun x y H Q=>∃i j,x = .str i∧y = .str j∧i.length+j.length≤sizeLine∧Q (.str (i++j)) H):=by
 intro pins s σ H x y v u Q I rx ry h;obtain ⟨i,j,rfl,rfl,hz,q⟩:=h;obtain ⟨t,rfl⟩:=rx;obtain ⟨t',rfl⟩:=ry;exact add_str (fun t' tk=>⟨.str (i++j),H,I.tok _,⟨_,rfl⟩,q⟩) hz
theorem vals1{x:V}{us:List Value}(r:Vals [x] us):∃u,us=[u]∧RelV x u:=by
 cases r with
 | cons r1 r2=>cases r2;exact ⟨_,rfl,r1⟩
theorem vals2{x y:V}{us:List Value}(r:Vals [x,y] us):∃u w',us=[u,w']∧RelV x u∧RelV y w':=by
 cases r with
 | cons r1 r2 =>
  cases r2 with
  | cons r3 r4=>cases r4;exact ⟨_,_,rfl,r1,r3⟩
theorem yO:Ul X (.builtin "abs") (fun xs H Q=>∃i,xs=[.int i]∧Q (.int (if i < 0 then -i else i)) H):=by
 intro pins s σ H xs us Q I r h;obtain ⟨i,rfl,q⟩:=h;obtain ⟨u,rfl,t,rfl⟩:=vals1 r;exact call_abs_int fun u tk=>⟨.int (if i < 0 then -i else i),H,I.tok _,⟨_,rfl⟩,q⟩
theorem Zc3:Ul X (.type "int") (fun xs H Q=>(∃i,xs=[.int i]∧Q (.int i) H)∨∃k,xs=[.bl k]∧Q (.int (if k then 1 else 0)) H):=by
 intro pins s σ H xs us Q I r h;rcases h with ⟨i,rfl,q⟩ | ⟨k,rfl,q⟩
 ·obtain ⟨u,rfl,t,rfl⟩:=vals1 r;exact call_int_int ⟨.int i,H,I,⟨_,rfl⟩,q⟩
 ·obtain ⟨u,rfl,r1⟩:=vals1 r;cases r1;exact call_int_bool ⟨.int (if k then 1 else 0),H,I.tok _,⟨_,rfl⟩,q⟩
end
structure ObjM (h:Heap) (x dx C:Addr) (mA:Str→Option Value):Prop where
 obj:h.get? x=some (PySem.W.instObj C dx)
 ns:h.Ns1 dx mA
 ne:dx≠x
theorem Zb_{h:Heap}{dx:Addr}{mA:Str→Option Value}(n:h.Ns1 dx mA):∃od,h.get? dx=some od∧∀name,PySem.W.lookIn name od=some (mA name):=by
 obtain ⟨o,es,ep,ho,hd,hk,_,hm⟩:=n;refine ⟨o,ho,fun name=>?_⟩;have e:=hm name;unfold nsFind findBy at e;rw [← Array.find?_toList] at e;unfold PySem.W.lookIn;rw [hd];dsimp only;split
 ·rename_i y q;rw [q] at e;exact congrArg some e
 ·rename_i q;rw [q] at e
  have a:es.toList.any (·.refKey)=false:=by
   rw [List.any_eq_false];intro y hy;obtain ⟨z,t,hkey⟩:=hk y (Array.mem_toList_iff.mp hy);simp [DictEntry.refKey,hkey]
  have a' : ¬ es.toList.any (·.refKey)=true:=by rw [a];exact Bool.false_ne_true
  rw [if_neg a'];exact congrArg some e
theorem ObjM.look{h:Heap}{x dx C:Addr}{mA:Str→Option Value}(I:ObjM h x dx C mA):∃od,PySem.W.InstAt h x (PySem.W.instObj C dx) C (some od)∧∀name,PySem.W.lookIn name od=some (mA name) :=
 let ⟨od,ho,hl⟩:=Zb_ I.ns
 ⟨od,⟨I.obj,rfl,rfl,ho⟩,hl⟩
section
variable{prog:Program}{w:World}{A:Around}{E:Value→Shared→Prop}{s:Shared}{K:Fg}{x dx C f:Addr}{mA:Str→Option Value}{name:Str}{v:Value}
end
section
variable{P:Program}{w:World}{H H':Hp}{h h':Heap}{a C dx:Addr}{fs fs':List (Str×V)}
theorem Zf5(hok:HOk P w H h)(e:H a=some (.ins C dx fs)):∃mA,ObjM h a dx C mA∧(∀f,RelO (fs.lookup f) (mA f))∧PySem.Within mA (fs.map (·.1))∧fs.length≤1000∧H dx=some (.own a):=by
 obtain ⟨d,z,ne,ob,mA,n,r,q⟩:=(show YQ P w H h a (.ins C dx fs) from hok a _ e)
 exact ⟨mA,⟨ob,n,ne⟩,r,q,z,d⟩
end
structure Cls (K:Fg) (C:Addr):Prop where
 pg:PySem.W.plainGet K C Str.empty=true
 hd:PySem.W.hasDictIn K C=true
 po:PySem.W.plainOver K C=true
 sa:PySem.W.findIn K (.ref C) "__setattr__" = some (some (.builtin "object.__setattr__"))
theorem Cls.get{K:Fg}{C:Addr}(c:Cls K C)(f:Str):PySem.W.plainGet K C f=true:=c.pg
section
variable{X:Cx}{pins:List (Addr×Obj)}{σ : St}{H:Hp}{s:Shared}{a C dx:Addr}{fs:List (Str×V)}{f:Str}{v:V}{A:Around}{E:Value→Shared→Prop}
end
section
variable{X:Cx}{o e value:Expr}{f:Str}{pos pos' tpos:Pos}{ta tv:TE}
end
section
variable{X:Cx}{pins:List (Addr×Obj)}{σ : St}{H:Hp}{s:Shared}{A:Around}{E:Value→Shared→Prop}{Q:Value→Shared→Prop}{c:Value}{b:Bool}
inductive TyOf (K:Fg) (H:Hp):V→Value→Prop where
 | non:TyOf K H .non (.type "NoneType")
 | bl (x:Bool):TyOf K H (.bl x) (.type "bool")
 | int (i:Int):TyOf K H (.int i) (.type "int")
 | str (x:Str):TyOf K H (.str x) (.type "str")
 | flt (x:UInt64):TyOf K H (.flt x) (.type "float")
 | lst {a:Addr} {xs:List V} (e:H a=some (.lst xs)):TyOf K H (.ref a) (.type "list")
 | frz {a:Addr} {o:Obj} {xs:List V} (e:H a=some (.frz o (.lst xs))):TyOf K H (.ref a) (.type "list")
 | tup {a:Addr} {xs:List V} (e:H a=some (.tup xs)):TyOf K H (.ref a) (.type "tuple")
 | dK {a:Addr} {kvs:List (Key×V)} (e:H a=some (.dK kvs)):TyOf K H (.ref a) (.type "dict")
 | dT {a:Addr} {kvs:List (List Key×V)} (e:H a=some (.dT kvs)):TyOf K H (.ref a) (.type "dict")
 | ins {a C dx:Addr} {fs:List (Str×V)} (e:H a=some (.ins C dx fs)) (cl:Cls K C) (ha:PySem.W.findIn K (.ref C) "__class__" = some (some (.builtin "object.__class__")))
   (hn:PySem.W.specialIn K (.builtin "object.__class__") "__get__" = some (some (.builtin "getset_descriptor.__get__"))) (htk:PySem.W.takesIn K (.builtin "object.__class__")=some true)
   (hm:PySem.W.mroIn K C (.type "object")=some true):TyOf K H (.ref a) (.ref C)
theorem Zct{x:V}{u t:Value}(I:Inv X pins σ H s)(rx:RelV x u)(ty:TyOf X.K H x t)(e:PySem.W.kitOne X.K t c=some b)(h:∀tk,Q (.bool b) { s with toks:=tk }) :
  wpAny (model X.prog X.w) A (call (.builtin "isinstance") [u,c]) Q E s:=by
 cases ty with
 | non=>cases (show u=Value.none from rx);exact PySem.W.kia_one PySem.W.kitx_none I.kIn True.intro e (fun z=>nomatch z) h
 | bl y=>cases (show u=Value.bool y from rx);exact PySem.W.kia_one PySem.W.kitx_bool I.kIn True.intro e (fun z=>nomatch z) h
 | int i=>obtain ⟨t,q⟩:=(show ∃t,u=Value.int i t from rx);cases q;exact PySem.W.kia_one PySem.W.kitx_int I.kIn True.intro e (fun z=>nomatch z) h
 | str y=>obtain ⟨t,q⟩:=(show ∃t,u=Value.str y t from rx);cases q;exact PySem.W.kia_one PySem.W.kitx_str I.kIn True.intro e (fun z=>nomatch z) h
 | flt y=>obtain ⟨t,q⟩:=(show ∃t,u=Value.float y t from rx);cases q;exact PySem.W.kia_one PySem.W.kitx_float I.kIn True.intro e (fun z=>nomatch z) h
 | @lst a xs ea =>
  cases (show u=Value.ref a from rx);obtain ⟨_,_,n,_,h1⟩:=(show YQ X.prog X.w H s.heap a (.lst xs) from I.hok a _ ea)
  exact PySem.W.kia_one PySem.W.kitx_list I.kIn ⟨_,h1,rfl⟩ e (fun z=>nomatch z) h
 | @frz a ob xs ea =>
  cases (show u=Value.ref a from rx);obtain ⟨_,_,_,n,_,h1⟩:=(show YQ X.prog X.w H s.heap a (.frz ob (.lst xs)) from I.hok a _ ea)
  exact PySem.W.kia_one PySem.W.kitx_list I.kIn ⟨_,h1,rfl⟩ e (fun z=>nomatch z) h
 | @tup a xs ea =>
  cases (show u=Value.ref a from rx);obtain ⟨_,_,_,p⟩:=(show YQ X.prog X.w H s.heap a (.tup xs) from I.hok a _ ea)
  obtain ⟨o,h1,h2,_⟩:=p;exact PySem.W.kia_one PySem.W.kitx_tuple I.kIn ⟨o,h1,h2⟩ e (fun z=>nomatch z) h
 | @dK a kvs ea =>
  cases (show u=Value.ref a from rx);obtain ⟨_,_,vs,_,p⟩:=(show YQ X.prog X.w H s.heap a (.dK kvs) from I.hok a _ ea)
  obtain ⟨o,es,ep,h1,h2,_⟩:=p;exact PySem.W.kia_one PySem.W.kitx_dict I.kIn ⟨o,h1,h2.1⟩ e (fun z=>nomatch z) h
 | @dT a kvs ea =>
  cases (show u=Value.ref a from rx);obtain ⟨_,_,xs,_,o,es,ep,h1,h2,_⟩:=(show YQ X.prog X.w H s.heap a (.dT kvs) from I.hok a _ ea)
  exact PySem.W.kia_one PySem.W.kitx_dict I.kIn ⟨o,h1,h2.1⟩ e (fun z=>nomatch z) h
 | @ins a C dx fs ea cl ha hn htk hm =>
  cases (show u=Value.ref a from rx);obtain ⟨mA,O,_⟩:=Zf5 I.hok ea;obtain ⟨od,J,_⟩:=O.look;exact PySem.W.kia_one (PySem.W.kitx_own (cl.get _) cl.hd ha hn htk hm) I.kIn J e (fun z=>nomatch z) h
end
structure Room (k:Nat) (A:Around):Prop where
 hd:A.handled=none
 dp:A.depth+3*k+5 < recursionLimit
 un:A.units+16*k+200 < cLine
theorem Room.mono{j k:Nat}{A:Around}(r:Room k A)(h:j≤k):Room j A:=⟨r.hd,by have:=r.dp;omega,by have:=r.un;omega⟩
theorem Room.deeper{k:Nat}{A:Around}(r:Room (k+1) A)(env:Env):Room k (A.deeper env) :=
 ⟨r.hd,by have:=r.dp;show A.depth+1+3*k+5 < _;omega,by have:=r.un;show A.units+3+16*k+200 < _;omega⟩
theorem Room.depth{k:Nat}{A:Around}(r:Room k A):A.depth < recursionLimit:=by have:=r.dp;omega
theorem Room.units{k:Nat}{A:Around}(r:Room k A):A.units+64 < cLine:=by have:=r.un;omega
def tNil:TA:=fun _ H Q=>Q [] H
def Zc(ta:TE)(tr:TA):TA:=fun σ H Q=>ta σ H fun x H1=>tr σ H1 fun xs H2=>Q (x :: xs) H2
section
variable{X:Cx}{e:Expr}{es:List Expr}{te:TE}{t:TA}{pos:Pos}
theorem Zb:PA X [] tNil:=fun _ _ _ _ H Q I h=>Calls.spliced_nil ⟨[],H,I,.nil,h⟩
theorem Za(ha:PE X e te)(hr:PA X es t)(hs:starEach (e :: es) X.env=(false,eval e X.env) :: starEach es X.env:=by rfl):PA X (e :: es) (Zc te t):=by
 intro pos pins s σ H Q I h;rw [hs];show wpAny _ _ (spliced ((false,eval e X.env) :: backTo pos (starEach es X.env))) _ _ s;refine Calls.spliced_cons (thn (ha pins s σ H _ I h) fun u s1 ⟨x,H1,I1,r1,q1⟩=>?_);exact thn (hr pos pins s1 σ H1 _ I1 q1) fun us s2 ⟨xs,H2,I2,r2,q2⟩=>⟨x :: xs,H2,I2,.cons r1 r2,q2⟩
def tTup(t:TA):TE:=fun σ H Q=>t σ H fun xs H1=>xs.length≤sizeLine∧∀p,H1 p=none→Q (.ref p) (upd H1 p (.tup xs))
def tLst(t:TA):TE:=fun σ H Q=>t σ H fun xs H1=>xs.length≤sizeLine∧∀p,H1 p=none→Q (.ref p) (upd H1 p (.lst xs))
theorem Yn{x1}(h:PA X es t):PE X (.Tuple es x1 pos) (tTup t):=by
 intro pins s σ H Q I hq;refine wpAny_Tuple_spliced (thn (h pos pins s σ H _ I hq) fun us s1 ⟨xs,H1,I1,r,z,q⟩=>⟨by rw [← r.length];exact z,?_⟩);have hf:H1 s1.heap.objs.size=none:=I1.hok.fresh (Nat.le_refl _);refine ⟨.ref s1.heap.objs.size,upd H1 s1.heap.objs.size (.tup xs),I1.laid (t':=s1.toks) (fun b u e=>Heap.get?_push_of_some _ e) (Nat.le_refl _) ?_,rfl,q _ hf⟩;exact ⟨z,us,r,⟨_,Heap.get?_push_size _ rfl,rfl,_,rfl⟩⟩
theorem Yo(h:PA X es t):PE X (.List es pos) (tLst t):=by
 intro pins s σ H Q I hq;refine wpAny_List_spliced (thn (h pos pins s σ H _ I hq) fun us s1 ⟨xs,H1,I1,r,z,q⟩=>⟨by rw [← r.length];exact z,?_⟩);have hf:H1 s1.heap.objs.size=none:=I1.hok.fresh (Nat.le_refl _);refine ⟨.ref s1.heap.objs.size,upd H1 s1.heap.objs.size (.lst xs),I1.laid (t':=s1.toks) (fun b u e=>Heap.get?_push_of_some _ e) (Nat.le_refl _) ?_,rfl,q _ hf⟩;exact ⟨z,us,0,r,Heap.get?_push_size _ rfl⟩
end
abbrev Sp:=List V→Hp→VK→XK→Prop
abbrev CXT:=List Env→Hp→Shared→XK→Value→Shared→Prop
structure Env0 (P:Program) (w:World) (K:Fg) (mg:Str→Option Value) (base:Heap) (A:Around) (outer:List Env) (s:Shared) (H:Hp):Prop where
 frames:A.frames=some outer
 mod:Mod K mg base
 bs:∀b o,base.get? b=some o→s.heap.get? b=some o∧H b=none
 bsz:base.objs.size≤s.heap.objs.size
 funs:s.heap.FunFrames base outer
 frf:∀b∈frs outer,H b=none
 hok:HOk P w H s.heap
 bare:AllBare s.gens
def CE(outer:List Env)(P:Program)(w:World)(H:Hp)(s:Shared)(Q:VK)(u:Value)(s':Shared):Prop :=
 ∃v H',s'.os=s.os∧AllBare s'.gens∧Un (frs outer) [] H H' s.heap s'.heap∧HOk P w H' s'.heap∧RelV v u∧Q v H'
def CR(CX:CXT)(outer:List Env)(P:Program)(w:World)(H:Hp)(s:Shared)(Q:VK)(E:XK)(r:Result)(s':Shared):Prop :=
 match r with
 | .ok (.ret u)=>CE outer P w H s Q u s'
 | .ok _=>False
 | .error e=>CX outer H s E e s'
structure FnOk (P:Program) (w:World) (K:Fg) (mg:Str→Option Value) (base:Heap) (CX:CXT) (k:Nat) (f:Addr) (fd:FuncData) (ps:List Str) (sp:Sp):Prop where
 len:∀vs H Q E,sp vs H Q E→vs.length=ps.length
 run:∀(A:Around) (outer:List Env) (s:Shared) (H:Hp) (args:Args) (us:List Value) (vs:List V) (Q:VK) (E:XK),Room k A→Env0 P w K mg base A outer s H→BindsTo s fd args (ps.zip us)→Vals vs us→sp vs H Q E →
  codeAny (model P w) A (.call (.ref f) args) (CR CX outer P w H s Q E) s
theorem FnOk.mono{P:Program}{w:World}{K:Fg}{mg:Str→Option Value}{base:Heap}{CX:CXT}{j k:Nat}{f:Addr}{fd:FuncData}{ps:List Str}{sp:Sp}(F:FnOk P w K mg base CX j f fd ps sp)(h:j≤k) :
  FnOk P w K mg base CX k f fd ps sp:=⟨F.len,fun A outer s H args us vs Q E hr=>F.run A outer s H args us vs Q E (hr.mono h)⟩
section
variable{X:Cx}{pins:List (Addr×Obj)}{σ : St}{H:Hp}{s s':Shared}
theorem Inv.env0(I:Inv X pins σ H s):Env0 X.prog X.w X.K X.mg X.base X.A X.stack s H :=
 ⟨I.ok.frames,I.ok.mod,I.bs,Nat.le_trans I.ok.bsz I.sz,I.stack,I.Wv,I.hok,I.bare⟩
theorem Inv.after{Q:VK}{u:Value}(I:Inv X pins σ H s)(h:CE X.stack X.prog X.w H s Q u s'):EP X pins σ Q u s':=by
 obtain ⟨v,H',os,bare,un,hok,r,q⟩:=h;obtain ⟨hh,g,d,t,os'⟩:=s';obtain rfl:os'=s.os:=os;exact ⟨v,H',I.call (h':=hh) (g':=g) (d':=d) (t':=t) (ch:=[]) un hok bare (fun b z=>absurd z (by simp)),r,q⟩
end
def ZG(sp:Sp)(dvs:List V)(E:XK)(t:TA):TE:=fun σ H Q=>t σ H fun vs H1=>sp (vs++dvs) H1 Q E
def Binds(K:Fg)(fd:FuncData)(ps:List Str)(ds:List Value):Prop :=
 ∀(s:Shared) (us:List Value),K.In s.heap→(us++ds).length=ps.length→BindsTo s fd ⟨us,[]⟩ (ps.zip (us++ds))
theorem Binds.all{K:Fg}{fd:FuncData}{ps:List Str}(h:∀us:List Value,us.length=ps.length→bindArgs fd ⟨us,[]⟩=pure (ps.zip us)):Binds K fd ps []:=fun s us _ hl=>by
 rw [List.append_nil] at hl ⊢;exact .of_eq (h us hl)
def Passes(CX:CXT)(X:Cx)(E:XK):Prop:=∀(pins:List (Addr×Obj)) (σ : St) (H:Hp) (s:Shared) (e:Value) (s':Shared),Inv X pins σ H s→CX X.stack H s E e s'→X.xe e s'
section
variable{X:Cx}{CX:CXT}{k:Nat}{f C:Addr}{fd:FuncData}{ps:List Str}{sp:Sp}{dvs:List V}{ds:List Value}{E:XK}{x m:Str}{p pos apos:Pos}{e o:Expr}{es:List Expr}{ta:TE}{t:TA}
theorem Zgy{pins:List (Addr×Obj)}{σ : St}{H:Hp}{s:Shared}{Q:VK}{us:List Value}{vs:List V}(F:FnOk X.prog X.w X.K X.mg X.base CX k f fd ps sp)(hr:Room k X.A)(hb:Binds X.K fd ps ds)(hd:Vals dvs ds)(hx:Passes CX X E)
  (I:Inv X pins σ H s) (r:Vals vs us) (h:sp (vs++dvs) H Q E):wpAny (model X.prog X.w) X.A (call (.ref f) us) (EP X pins σ Q) X.xe s:=by
 have r2:Vals (vs++dvs) (us++ds):=r.append hd;have hl:(us++ds).length=ps.length:=by rw [← r2.length];exact F.len _ _ _ _ h
 refine wpAny_call (codeAny_mono (F.run X.A X.stack s H ⟨us,[]⟩ (us++ds) (vs++dvs) Q E hr I.env0 (hb s us I.kIn hl) r2 h) fun r s' hq=>?_);cases r with
 | error e=>exact hx pins σ H s e s' I hq
 | ok fl =>
  cases fl with
  | ret u=>exact I.after hq
  | next=>exact False.elim hq
  | brk=>exact False.elim hq
  | cont=>exact False.elim hq
theorem Zfv(F:FnOk X.prog X.w X.K X.mg X.base CX k f fd ps sp)(hr:Room k X.A)(hg:Gl X x)(hm:X.mg x=some (.ref f))(hk:PySem.W.keepIn X.K (.ref f)=true)(hb:Binds X.K fd ps ds)(hd:Vals dvs ds)(hx:Passes CX X E)
  (ha:PA X (e :: es) t) (hdb:(x == ("__debug__" : Str))=false:=by decide) (he:starEach (e :: es) X.env=(false,eval e X.env) :: starEach es X.env:=by rfl) (hpl:(backTo pos (starEach es X.env)).any (·.1)=false:=by rfl) :
  PE X (.Call (.Name x p) (e :: es) [] pos) (ZG sp dvs E t):=by
 intro pins s σ H Q I h;refine wpAny_Call_Name_kw (qw I hg hm ?_ hdb);refine PySem.W.callWith_K (h₀:=X.base) I.ok.mod.kin hk (thn (ha pos pins s σ H _ I h) fun us s1 ⟨vs,H1,I1,r,q⟩=>⟨I1.kIn,?_⟩) he hpl;exact Zgy F hr hb hd hx I1 r q
end
section
variable{X:Cx}{CX:CXT}{k:Nat}{f C:Addr}{fd:FuncData}{ps ks:List Str}{sp:Sp}{E:XK}{x m:Str}{p pos apos kpos:Pos}{e o:Expr}{es:List Expr}{kws:List Keyword}{te ta:TE}{t tk:TA}{nm:Option Str}
variable{g:List Value→List Value→List Value}{gV:List V→List V→List V}
end
structure Zu (N P:List Str) (sc:Scope):Prop where
 kind:sc.kind = .function
 co:sc.isCoroutine=false
 gen:sc.isGenerator=false
 nd:N.Nodup
 pre:N.take P.length=P
 par:∀x∈P,sc.names.lookup x=some .local∨sc.names.lookup x=some .cell
 nofree:∀y∈sc.names,y.2≠.free
theorem k_{kindOf:Str→Option NameKind}{x:Str}:∀{binds:List (Str×Value)} {m:Str→Option Value},(∀v,(x,v)∉binds)→bindL kindOf binds m x=m x
 | [],_,_=>rfl
 | (n,v) :: r,m,h=>by
  unfold bindL;rw [k_ fun w hw=>h w (List.mem_cons_of_mem _ hw)];split
  ·have:x≠n:=by rintro rfl;exact h v List.mem_cons_self
   simp [this]
  ·rfl
theorem zc{kindOf:Str→Option NameKind}{x:Str}:∀{binds:List (Str×Value)} {m:Str→Option Value},(∀v,(x,v)∉binds)→bindC kindOf binds m x=m x
 | [],_,_=>rfl
 | (n,v) :: r,m,h=>by
  unfold bindC;rw [zc fun w hw=>h w (List.mem_cons_of_mem _ hw)];split
  ·rfl
  ·have:x≠n:=by rintro rfl;exact h v List.mem_cons_self
   simp [this]
theorem za{kindOf:Str→Option NameKind}{x:Str}{v:Value}:∀{P:List Str} {vs:List Value} {i:Nat} {m:Str→Option Value},P.Nodup→P[i]? = some x→vs[i]? = some v→kindOf x=some .local →
  bindL kindOf (P.zip vs) m x=some v
 | [],_,_,_,_,h,_,_=>by simp at h
 | _ :: _,[],_,_,_,_,h,_=>by simp at h
 | p :: P,w :: vs,0,m,nd,h1,h2,hk=>by
  simp at h1 h2;subst h1;subst h2;show bindL kindOf ((p,w) :: P.zip vs) m p=_;unfold bindL;rw [k_ fun v hv=>(List.nodup_cons.mp nd).1 (List.of_mem_zip hv).1,if_pos hk];simp
 | p :: P,w :: vs,i+1,m,nd,h1,h2,hk=>by
  show bindL kindOf ((p,w) :: P.zip vs) m x=_;unfold bindL;exact za (i:=i) (List.nodup_cons.mp nd).2 (by simpa using h1) (by simpa using h2) hk
theorem zf{kindOf:Str→Option NameKind}{x:Str}{v:Value}:∀{P:List Str} {vs:List Value} {i:Nat} {m:Str→Option Value},P.Nodup→P[i]? = some x→vs[i]? = some v→kindOf x≠some .local →
  bindC kindOf (P.zip vs) m x=some v
 | [],_,_,_,_,h,_,_=>by simp at h
 | _ :: _,[],_,_,_,_,h,_=>by simp at h
 | p :: P,w :: vs,0,m,nd,h1,h2,hk=>by
  simp at h1 h2;subst h1;subst h2;show bindC kindOf ((p,w) :: P.zip vs) m p=_;unfold bindC;rw [zc fun v hv=>(List.nodup_cons.mp nd).1 (List.of_mem_zip hv).1,if_neg hk];simp
 | p :: P,w :: vs,i+1,m,nd,h1,h2,hk=>by
  show bindC kindOf ((p,w) :: P.zip vs) m x=_;unfold bindC;exact zf (i:=i) (List.nodup_cons.mp nd).2 (by simpa using h1) (by simpa using h2) hk
def start(N:List Str)(vs:List V):St:=vs.map some++List.replicate (N.length - vs.length) none
def cxOf(CX:CXT)(P:Program)(w:World)(K:Fg)(mg:Str→Option Value)(base:Heap)(N:List Str)(qual:Str)(scope:Scope)(f:Addr)(cd:Value)(A:Around)(outer:List Env)(s:Shared)(H:Hp)(E:XK):Cx where
 prog:=P
 w:=w
 K:=K
 mg:=mg
 base:=base
 A:=A.deeper (envOfC qual scope s.heap.objs.size f cd)
 N:=N
 s₀:=s
 H₀:=H
 env:=envOfC qual scope s.heap.objs.size f cd
 outer:=outer
 stack:=envOfC qual scope s.heap.objs.size f cd :: outer
 ex:=[]
 calm:=true
 fn:=fun _=>true
 pn:=[]
 xe:=fun e s'=>wpAny (model P w) (A.deeper (envOfC qual scope s.heap.objs.size f cd)) (leaving (envOfC qual scope s.heap.objs.size f cd) e) (fun _ s''=>CX outer H s E e s'') (fun e' s''=>CX outer H s E e' s'') s'
theorem Zar{sc:Scope}{n:Nat}{x:Str}(h:sc.names.lookup x=some .cell):∃c,(cellsFrom n sc.names []).lookup x=some c:=by
 have q:=PySem.W.cellsFrom_some sc.names n [] (.inl h);exact Option.isSome_iff_exists.mp q
theorem Zcu{CX:CXT}{P:Program}{w:World}{K:Fg}{mg:Str→Option Value}{base:Heap}{N ps:List Str}{qual:Str}{scope:Scope}{f:Addr}{cd:Value}{A:Around}{outer:List Env}{s s1:Shared}{H:Hp}{E:XK}{us:List Value}{vs:List V}
  (S:Zu N ps scope) (hd:A.handled=none) (e0:Env0 P w K mg base A outer s H) (hl:vs.length=ps.length) (r:Vals vs us)
  (x:InCallC s s.heap.objs.size (bindL (envOfC qual scope s.heap.objs.size f cd).kindOf (ps.zip us) fun _=>none) (cellsFrom (s.heap.objs.size+1) scope.names []) (bindC (envOfC qual scope s.heap.objs.size f cd).kindOf (ps.zip us) fun _=>none) s1) :
  Inv (cxOf CX P w K mg base N qual scope f cd A outer s H E) [] (start N vs) H s1:=by
 have hpl:ps.length≤N.length:=by have:=congrArg List.length S.pre;rw [List.length_take] at this;omega
 obtain ⟨h1,tk,rfl,hk⟩:=x.done;have noA:∀b:Addr,b∉(cxOf CX P w K mg base N qual scope f cd A outer s H E).ex:=fun b z=>absurd (show b∈([]:List Addr) from z) (by simp)
 refine ⟨⟨e0.mod,S.kind,rfl,rfl,Nat.le_refl _,fun y z c h1 h2=>?_,fun y hy=>?_,fun y c _ h=>?_,fun _=>hd,Around.frames_deeper e0.frames,.inr ⟨rfl,rfl⟩,fun b z=>absurd z (noA b),e0.bs,e0.bsz,fun b _ _=>noA b,fun b z=>absurd z (noA b),e0.funs,e0.frf⟩,
  rfl,e0.bare,Un.kept hk,⟨_,x.toInCall.ns,fun i y v h1 h2 h3=>?_⟩,fun y c h=>⟨_,x.cell y c h⟩,e0.hok.fresh (Nat.le_refl _),fun y c h=>?_,fun p hp=>absurd (show p∈([]:List (Addr×Obj)) from hp) (by simp),e0.hok.kept hk,?_⟩
 ·exact name_of_addr x.apart (PySem.mem_of_lookup h1) (PySem.mem_of_lookup h2)
 ·have hy:scope.names.lookup y=some .cell∨scope.names.lookup y=some .free:=hy;rcases hy with hy | hy
  ·exact Zar hy
  ·exact absurd rfl (S.nofree _ (PySem.mem_of_lookup hy))
 ·exact Nat.le_of_lt (x.above y c (PySem.mem_of_lookup h))
 ·have hi:i < vs.length:=by
   unfold start at h2;by_cases hi:i < vs.length
   ·exact hi
   ·rw [List.getElem?_append_right (by simpa using hi)] at h2;rw [List.getElem?_replicate] at h2;split at h2 <;> cases h2
  have ha:vs[i]? = some v:=by
   unfold start at h2;rw [List.getElem?_append_left (by simpa using hi),List.getElem?_map] at h2;cases e:vs[i]? with
   | none=>rw [e] at h2;cases h2
   | some a=>rw [e] at h2;cases h2;rfl
  obtain ⟨u,hu,rv⟩:=r.get ha
  have hp:ps[i]? = some y:=by
   rw [← S.pre,List.getElem?_take_of_lt (by omega)];exact h1
  have ndP:ps.Nodup:=by rw [← S.pre];exact S.nd.sublist (List.take_sublist _ _)
  refine ⟨u,rv,?_⟩;rcases S.par y (List.mem_of_getElem? hp) with k | k
  ·exact .inl ⟨k,za ndP hp hu k⟩
  ·obtain ⟨c,e⟩:=Zar (n:=s.heap.objs.size+1) k;refine .inr ⟨.inl k,c,e,?_⟩;have q:=x.cell y c e;rw [zf ndP hp hu (by show scope.names.lookup y≠_;rw [k];decide)] at q;exact q
 ·exact e0.hok.fresh (Nat.le_of_lt (x.above y c (PySem.mem_of_lookup h)))
 ·unfold start;show _=N.length;rw [List.length_append,List.length_map,List.length_replicate];omega
theorem ZhP{CX:CXT}{P:Program}{w:World}{K:Fg}{mg:Str→Option Value}{base:Heap}{k:Nat}{f:Addr}{name qual:Str}{params:Arguments}{body:List Stmt}{scope:Scope}{dV kV doc pm cdv ct oc:Value}{an od:Option Addr}
  {osl:Array (Option Value)} {N ps:List Str} {sp:Sp} (lk:K.lookup f=some ⟨oc,od,.func (PySem.W.fnOf name qual params body scope dV kV doc pm an cdv ct),osl⟩) (hcd:PySem.W.codeIn K cdv qual=true) (S:Zu N ps scope)
  (len:∀vs H Q E,sp vs H Q E→vs.length=ps.length)
  (hbody:∀(A:Around) (outer:List Env) (s:Shared) (H:Hp) (vs:List V) (Q:VK) (E:XK),Room k (A.deeper (envOfC qual scope s.heap.objs.size f cdv))→sp vs H Q E →
   ∃t,PSs (cxOf CX P w K mg base N qual scope f cdv A outer s H E) body t∧t { nx:=fun _ H'=>Q .non H',rt:=Q } (start N vs) H) :
  FnOk P w K mg base CX (k+1) f (PySem.W.fnOf name qual params body scope dV kV doc pm an cdv ct) ps sp:=by
 refine ⟨len,fun A outer s H args us vs Q E hr e0 hb r hsp=>?_⟩;have hl:=len _ _ _ _ hsp;have KX:K.In s.heap:=e0.mod.kin.keeps fun b o e=>(e0.bs b o e).1
 have lim:s.heap.NoLimit:=e0.mod.nolimit.keeps fun b o e=>(e0.bs b o e).1
 have hkind:∀y∈ps.zip us,scope.names.lookup y.1=some .local∨(scope.names.lookup y.1=some .cell∧((cellsFrom (s.heap.objs.size+1) scope.names []).lookup y.1).isSome=true):=fun ⟨n,v⟩ hy=>by
  rcases S.par n (List.of_mem_zip hy).1 with q | q
  ·exact .inl q
  ·exact .inr ⟨q,PySem.W.cellsFrom_some _ _ _ (.inl q)⟩
 refine codeAny_call_function hr.depth (KX _ _ lk) rfl S.co S.gen rfl (PySem.W.codeRec_of KX hcd) (hb _ _ _ _ ?_);refine wpAny_newFunctionEnv_cells S.kind hkind fun env he s1 x=>?_
 subst he;refine ⟨lim.keeps x.toInCall.keep,codeAny_func ?_⟩;obtain ⟨t,ht,hq⟩:=hbody A outer s H vs Q E (hr.deeper _) hsp;have I:Inv (cxOf CX P w K mg base N qual scope f cdv A outer s H E) [] (start N vs) H s1:=Zcu S hr.hd e0 hl r x;refine wpAny_mono (ht [] s1 (start N vs) H _ I hq) (fun fl s' hs=>?_) fun e s' hs=>hs
 have fin:∀{σ':St} {H':Hp} {v:V} {u:Value},Inv (cxOf CX P w K mg base N qual scope f cdv A outer s H E) [] σ' H' s'→RelV v u→Q v H'→CE outer P w H s Q u s' :=
  fun {σ' H' v u} J rv q=>⟨v,H',J.os,J.bare,J.base,J.hok,rv,q⟩
 cases fl with
 | ret u =>
  obtain ⟨v,σ',H',J,rv,q⟩:=hs;exact fin J rv q
 | next =>
  obtain ⟨σ',H',J,q⟩:=hs;exact fin (v:=V.non) (u:=Value.none) J rfl q
 | brk =>
  obtain ⟨_,_,_,q⟩:=hs;exact False.elim q
 | cont =>
  obtain ⟨_,_,_,q⟩:=hs;exact False.elim q
section
variable{X:Cx}{x:Str}{p pos:Pos}{e:Expr}{es:List Expr}{t:TA}{id T:String}{r:List V→Hp→VK→Prop}
def tCB(r:List V→Hp→VK→Prop)(t:TA):TE:=fun σ H Q=>t σ H fun vs H1=>r vs H1 Q
theorem Zj (hc:Ul X (.builtin id) r) (hg:Gl X x) (hm:X.mg x=none) (hv:bootBuiltins x=some (.builtin id)) (ha:PA X (e :: es) t) (hn:x≠"__name__":=by decide) (hdb:(x == ("__debug__" : Str))=false:=by decide)
  (he:starEach (e :: es) X.env=(false,eval e X.env) :: starEach es X.env:=by rfl) (hpl:(backTo pos (starEach es X.env)).any (·.1)=false:=by rfl):PE X (.Call (.Name x p) (e :: es) [] pos) (tCB r t):=by
 intro pins s σ H Q I h;refine wpAny_Call_Name_kw (Jl I hg hm hv ?_ hn hdb);exact PyProof.Rows.callWith_builtin1 (thn (ha pos pins s σ H _ I h) fun us s1 ⟨vs,H1,I1,r1,q1⟩=>hc pins s1 σ H1 vs us Q I1 r1 q1) he hpl
theorem Yp (hc:Ul X (.type T) r) (hg:Gl X x) (hm:X.mg x=none) (hv:bootBuiltins x=some (.type T)) (ha:PA X (e :: es) t) (hn:x≠"__name__":=by decide) (hdb:(x == ("__debug__" : Str))=false:=by decide)
  (he:starEach (e :: es) X.env=(false,eval e X.env) :: starEach es X.env:=by rfl) (hpl:(backTo pos (starEach es X.env)).any (·.1)=false:=by rfl):PE X (.Call (.Name x p) (e :: es) [] pos) (tCB r t):=by
 intro pins s σ H Q I h;refine wpAny_Call_Name_kw (Jl I hg hm hv ?_ hn hdb);exact PyProof.Rows.callWith_type1 (thn (ha pos pins s σ H _ I h) fun us s1 ⟨vs,H1,I1,r1,q1⟩=>hc pins s1 σ H1 vs us Q I1 r1 q1) he hpl
end
end L2
namespace HT
open PySem PyProof.Rows
section
open PySem.SeqAt
open PySem.AutoSeq1 (wpAny_loadPart')
open PySem.MeetsSeq PySem.MeetsSeq2 PySem.MeetsSeq3
end
section
variable{prog:Program}{w:World}{A:Around}{E:Value→Shared→Prop}{s:Shared}
theorem Zgl{t b:Addr}{vs ws:List Value}{Q:Value→Shared→Prop}(ht:IsTup s.heap t vs.toArray)(hb:IsTup s.heap b ws.toArray)(hv:vs≠[])
  (h1:ws=[]→Q (.ref t) s) (h2:ws≠[]→Q (.ref s.heap.objs.size) { s with heap:=s.heap.push { cls:=.type "tuple",data:=.seq (vs++ws).toArray } })
  (hsz:vs.length+ws.length≤sizeLine):wpAny (model prog w) A (binaryOp .Add (.ref t) (.ref b)) Q E s:=by
 obtain ⟨⟨cls,dd,data,sl⟩,ho,hc,n,hd⟩:=id ht;obtain ⟨⟨cls2,dd2,data2,sl2⟩,ho2,hc2,n2,hd2⟩:=id hb;simp only at hc hd hc2 hd2;subst hc hd hc2 hd2;have e:vs.toArray++ws.toArray=(vs++ws).toArray:=by simp
 by_cases hw:ws=[]
 ·exact concat_meets ⟨_,ho,rfl⟩ ⟨_,ho2,rfl⟩ noFill_tuple_add seq_tuple_add PySem.F.slot_tuple_add PySem.F.entry_tuple_add (PySem.F.args_tuple_add_2 _ _)
   (tuple_addW1 t b vs.toArray ws.toArray n n2 dd dd2 sl sl2 (by simpa using hv) (by simp [hw])) ⟨ho,ho2,h1 hw⟩
 ·refine concat_meets ⟨_,ho,rfl⟩ ⟨_,ho2,rfl⟩ noFill_tuple_add seq_tuple_add PySem.F.slot_tuple_add PySem.F.entry_tuple_add (PySem.F.args_tuple_add_2 _ _)
   (tuple_addW2 t b vs.toArray ws.toArray n n2 dd dd2 sl sl2 (by simpa using hv) (by simpa using hw) (by rw [List.size_toArray,List.size_toArray];exact hsz)) ⟨ho,ho2,?_⟩
  rw [e];exact h2 hw
def sIx(n d:Nat):Option Int→Nat
 | none=>d
 | some v=>if v < 0 then (v+(n:Int)).toNat else min v.toNat n
end
end HT
namespace L2
open PySem PySem.Spec PyProof.Rows
abbrev TO:=St→Hp→(Option Int→Hp→Prop)→Prop
def PO(X:Cx)(e:Option Expr)(t:TO):Prop :=
 ∀(pins:List (Addr×Obj)) (s:Shared) (σ : St) (H:Hp) (Q:Option Int→Hp→Prop),Inv X pins σ H s→t σ H Q →
  wpAny (model X.prog X.w) X.A (evalPart e X.env) (fun u s'=>∃o H',Inv X pins σ H' s'∧IsPart u o∧Q o H') X.xe s
def Ge:TO:=fun _ H Q=>Q none H
def yZ(t:TE):TO:=fun σ H Q=>t σ H fun x H1=>∃i,x = .int i∧Q (some i) H1
theorem intsAre_of{ns:List Int}:∀{us:List Value},Vals (ns.map V.int) us→IntsAre us ns:=by
 induction ns with
 | nil=>intro us r;rw [List.map_nil] at r;cases r;exact .nil
 | cons n ns ih =>
  intro us r;rw [List.map_cons] at r;cases r with
  | cons r1 r2 =>
   obtain ⟨t,e⟩:=r1;subst e;exact .cons n t (ih r2)
section
variable{X:Cx}{e:Expr}{te:TE}{lo hi:Option Expr}{tl th:TO}{pos p2:Pos}
theorem j6:PO X none Ge:=by
 intro pins s σ H Q I h;rw [evalPart_none];exact wpAny_pure ⟨none,H,I,.none,h⟩
theorem Gj(h:PE X e te):PO X (some e) (yZ te):=by
 intro pins s σ H Q I hw;rw [evalPart_some];refine thn (h pins s σ H _ I hw) fun u s1 ⟨x,H1,I1,r1,q1⟩=>?_
 obtain ⟨i,rfl,q⟩:=q1;obtain ⟨t,rfl⟩:=r1;exact ⟨some i,H1,I1,.int i t,q⟩
def SlR(X:Cx)(r:V→Option Int→Option Int→Hp→VK→Prop):Prop :=
 ∀(pins:List (Addr×Obj)) (s:Shared) (σ : St) (H:Hp) (x:V) (v vl vu:Value) (lo hi:Option Int) (sl:Addr) (Q:VK),Inv X pins σ H s→RelV x v→s.heap.IsSliceOf sl vl vu .none→IsPart vl lo→IsPart vu hi→r x lo hi H Q →
  ∃T id,typeLookup (.type T) "__getitem__" = pure (some (.builtin id))∧s.TypeIs v T∧wpAny (model X.prog X.w) X.A (getItem v (.ref sl)) (EP X pins σ Q) X.xe s
def tSl(r:V→Option Int→Option Int→Hp→VK→Prop)(te:TE)(tl th:TO):TE:=fun σ H Q=>te σ H fun x H1=>tl σ H1 fun l H2=>th σ H2 fun u H3=>r x l u H3 Q
theorem U5{r:V→Option Int→Option Int→Hp→VK→Prop}(hr:SlR X r)(he:PE X e te)(hl:PO X lo tl)(hu:PO X hi th):PE X (.Subscript e (.Slice lo hi none p2) pos) (tSl r te tl th):=by
 intro pins s σ H Q I h;refine Subscript_ (thn (he pins s σ H _ I h) fun v s1 ⟨x,H1,I1,r1,q1⟩=>?_);refine wpAny_Slice (thn (hl pins s1 σ H1 _ I1 q1) fun vl s2 ⟨l,H2,I2,pl,q2⟩=>thn (hu pins s2 σ H2 _ I2 q2) fun vu s3 ⟨u,H3,I3,pu,q3⟩=>?_);rw [evalPart_none];refine wpAny_pure ?_;have I4:Inv X pins σ H3 { s3 with heap:=s3.heap.push { cls:=.type "slice",data:=.fields #[vl,vu,.none] } }:=I3.kept (t':=s3.toks) fun b ob q=>Heap.get?_push_of_some _ q
 obtain ⟨T,id,hT,ht,hg⟩:=hr pins { s3 with heap:=s3.heap.push { cls:=.type "slice",data:=.fields #[vl,vu,.none] } } σ H3 x v vl vu l u s3.heap.objs.size Q I4 r1 (Heap.IsSliceOf.new ..) pl pu q3;show wpAny (model X.prog X.w) X.A (subscriptTail e (.Slice lo hi none p2) v (.ref s3.heap.objs.size)) (EP X pins σ Q) X.xe { s3 with heap:=s3.heap.push { cls:=.type "slice",data:=.fields #[vl,vu,.none] } };exact tail_any (ops:=[.ref s3.heap.objs.size,v]) ht hT hg (by with_unfolding_all rfl)
def cutV(xs:List V)(lo hi:Option Int):List V:=(xs.drop (HT.sIx xs.length 0 lo)).take (HT.sIx xs.length xs.length hi - HT.sIx xs.length 0 lo)
theorem um(xs:List V)(lo hi:Option Int):(cutV xs lo hi).length≤xs.length:=by
 unfold cutV;rw [List.length_take,List.length_drop];omega
def ZgH(K:Fg):R2:=fun x y H Q=>∃a b xs ys,x = .ref a∧y = .ref b∧SqT K H a xs∧SqT K H b ys∧xs≠[]∧xs.length+ys.length≤sizeLine ∧
 (ys=[]→Q (.ref a) H)∧(ys≠[]→∀p,H p=none→Q (.ref p) (upd H p (.tup (xs++ys))))
theorem Vals.gJ{xs:List V}{us:List Value}(r:Vals xs us):us=[]↔xs=[]:=by
 cases r with
 | nil=>simp
 | cons _ _=>simp
theorem Zfx:OpR X (binaryOp .Add) (ZgH X.K):=by
 intro pins s σ H x y v u Q I rx ry h;obtain ⟨a,b,xs,ys,rfl,rfl,ha,hb,hx,hz,q1,q2⟩:=h;cases rx;cases ry;obtain ⟨its,r1,p1,_⟩:=I.tuple ha;obtain ⟨its2,r2,p2,_⟩:=I.tuple hb;refine HT.Zgl p1 p2 (fun z=>hx (r1.gJ.mp z)) (fun z=>⟨.ref a,H,I,rfl,q1 (r2.gJ.mp z)⟩) (fun z=>?_) (by rw [← r1.length,← r2.length];exact hz);refine ⟨.ref s.heap.objs.size,_,I.laid (t':=s.toks) (o:=.tup (xs++ys)) (fun b ob q=>Heap.get?_push_of_some _ q) (Nat.le_refl _) ?_,rfl,q2 (fun w=>z (r2.gJ.mpr w)) _ (I.hok.fresh (Nat.le_refl _))⟩;exact ⟨by rw [List.length_append];exact hz,_,r1.append r2,IsTup.new _ _⟩
end
def ixN(n:Nat)(i:Int):Option Nat:=if 0≤i then (if i < n then some i.toNat else none) else if -(n:Int)≤i then some (i+n).toNat else none
def atI{α : Type}(xs:List α)(i:Int):Option α:=(ixN xs.length i).bind fun j=>xs[j]?
theorem Zcs{n:Nat}{i:Int}{j:Nat}(h:ixN n i=some j):seqIndex? i n=some j∧j < n∧-(n:Int)≤i∧i < n:=by
 unfold ixN at h;by_cases h0:0≤i
 ·rw [if_pos h0] at h;by_cases h1:i < n
  ·rw [if_pos h1] at h;have e:i.toNat=j:=Option.some.inj h;exact ⟨by rw [seqIndex_of h0 h1,e],by omega,by omega,h1⟩
  ·rw [if_neg h1] at h;cases h
 ·rw [if_neg h0] at h;by_cases h1 : -(n:Int)≤i
  ·rw [if_pos h1] at h;have e:(i+n).toNat=j:=Option.some.inj h;exact ⟨by rw [seqIndex_neg (by omega) h1,e],by omega,h1,by omega⟩
  ·rw [if_neg h1] at h;cases h
theorem uy{α : Type}{xs:List α}{i:Int}{v : α}(h:atI xs i=some v):∃j,seqIndex? i xs.length=some j∧xs[j]? = some v∧j < xs.length∧-(xs.length:Int)≤i∧i < xs.length:=by
 unfold atI at h;cases e:ixN xs.length i with
 | none=>rw [e] at h;cases h
 | some j =>
  rw [e] at h;obtain ⟨h1,h2,h3,h4⟩:=Zcs e;exact ⟨j,h1,h,h2,h3,h4⟩
theorem Yd{α : Type}{xs:List α}{j:Nat}{v : α}(h:xs[j]? = some v):atI xs (j:Int)=some v:=by
 have hj:j < xs.length:=(List.getElem?_eq_some_iff.mp h).1
 have e:ixN xs.length (j:Int)=some j:=by
  unfold ixN;rw [if_pos (by omega),if_pos (by omega)];simp
 unfold atI;rw [e];exact h
theorem Wf{α : Type}(xs:List α)(v : α):atI (xs++[v]) (-1)=some v:=by
 have hl:(xs++[v]).length=xs.length+1:=by simp
 have e:ixN (xs++[v]).length (-1)=some xs.length:=by
  unfold ixN;rw [hl,if_neg (by decide),if_pos (by omega)];congr 1;omega
 unfold atI;rw [e];show (xs++[v])[xs.length]? = some v;simp
def Zgm(b:Expr):Prop:=∀o i,subscripted b false o i=operate [o,i] (getItem o i)
def IxR(X:Cx)(r:R2):Prop :=
 ∀(value slice:Expr) (pins:List (Addr×Obj)) (s:Shared) (σ : St) (H:Hp) (x y:V) (v u:Value) (Q:VK),Inv X pins σ H s→RelV x v→RelV y u→r x y H Q →
  subscripted slice false v u=operate [v,u] (getItem v u)→wpAny (model X.prog X.w) X.A (subscriptTail value slice v u) (EP X pins σ Q) X.xe s
def MtR(X:Cx)(id:String)(r:V→List V→Hp→VK→Prop):Prop :=
 ∀(pins:List (Addr×Obj)) (s:Shared) (σ : St) (H:Hp) (x:V) (xs:List V) (v:Value) (us:List Value) (Q:VK),Inv X pins σ H s→RelV x v→Vals xs us→r x xs H Q →
  wpAny (model X.prog X.w) X.A (call (.builtin id) (v :: us)) (EP X pins σ Q) X.xe s
section
variable{X:Cx}{a b:Expr}{ta tb:TE}{pos:Pos}
theorem ZP{r:R2}(hr:IxR X r)(ha:PE X a ta)(hb:PE X b tb)(hs:Zgm b):PE X (.Subscript a b pos) (tOp r ta tb):=by
 intro pins s σ H Q I h;exact Subscript_ (binT ha hb I h fun v u s2 x y H2 I2 rx ry q=>hr a b pins s2 σ H2 x y v u Q I2 rx ry q (hs _ _))
def rIxL(K:Fg):R2:=fun x y H Q=>∃p xs i v,x = .ref p∧y = .int i∧SqL K H p xs∧atI xs i=some v∧Q v H
def rIxT(K:Fg):R2:=fun x y H Q=>∃p xs i v,x = .ref p∧y = .int i∧SqT K H p xs∧atI xs i=some v∧Q v H
def rIxS:R2:=fun x y H Q=>∃z i c,x = .str z∧y = .int i∧z.length≤sizeLine∧atI z.cps.toList i=some c∧Q (.str ⟨#[c]⟩) H
theorem Z7:IxR X (rIxL X.K):=by
 intro value slice pins s σ H x y v u Q I rx ry h hs;obtain ⟨p,xs,i,z,rfl,rfl,hq,he,q⟩:=h;cases rx;obtain ⟨t,rfl⟩:=ry;obtain ⟨its,r,pl,hz⟩:=I.list hq;obtain ⟨j,h1,h2,h3,h4,h5⟩:=uy he;obtain ⟨w,ew,rw'⟩:=r.get h2;have hl:=r.length;have hn:=Ft;have fin:EP X pins σ Q w s:=⟨z,H,I,rw',q⟩
 by_cases h0:0≤i
 ·have hj:i.toNat=j:=by
   rw [seqIndex_of h0 h5] at h1;exact Option.some.inj h1
  exact item_listR pl.isList h0 (by omega) (by rw [hj];simpa using ew) fin hs
 ·have hj:(i+(its.toArray.size:Int)).toNat=j:=by
   rw [seqIndex_neg (by omega) h4] at h1;rw [List.size_toArray,← hl];exact Option.some.inj h1
  exact subscriptTail_builtinR (x:=w) pl.isList.typeIs slot_list_getitem.lookup
   (wpAny_getItem_list_neg (Q:=fun r s'=>r=w∧EP X pins σ Q r s') pl.isList (by omega) (by rw [List.size_toArray] <;> omega) (by omega) (by rw [hj];simpa using ew) ⟨rfl,fin⟩) hs
theorem ZQ:IxR X (rIxT X.K):=by
 intro value slice pins s σ H x y v u Q I rx ry h hs;obtain ⟨p,xs,i,z,rfl,rfl,hq,he,q⟩:=h;cases rx;obtain ⟨t,rfl⟩:=ry;obtain ⟨its,r,pl,hz⟩:=I.tuple hq;obtain ⟨j,h1,h2,h3,h4,h5⟩:=uy he;obtain ⟨w,ew,rw'⟩:=r.get h2;have hl:=r.length;have hn:=Ft;have fin:EP X pins σ Q w s:=⟨z,H,I,rw',q⟩
 exact subscriptTail_builtinR (x:=w) pl.typeIs slot_tuple_getitem.lookup
  (getItem_tuple (j:=j) (Q:=fun r s'=>r=w∧EP X pins σ Q r s') pl (by omega) (by omega) (by rw [List.size_toArray,← hl];exact h1) (by simpa using ew) ⟨rfl,fin⟩) hs
theorem ZhI:IxR X rIxS:=by
 intro value slice pins s σ H x y v u Q I rx ry h hs;obtain ⟨z,i,c,rfl,rfl,hz,he,q⟩:=h;obtain ⟨t,rfl⟩:=rx;obtain ⟨t',rfl⟩:=ry;obtain ⟨j,h1,h2,h3,h4,h5⟩:=uy he;have hl:z.cps.toList.length=z.length:=by simp [Str.length]
 rw [hl] at h1 h4 h5;have hn:=Ft
 exact tail_any (typeIs_str s z t) slot_str_getitem.lookup (getItem_str (c:=c) (by
  have e1:decide (i < -(2 ^ 63:Int))=false:=decide_eq_false (by omega)
  have e2:decide (i≥2 ^ 63)=false:=decide_eq_false (by omega)
  rw [e1,e2,Bool.or_false]) (by rw [h1];simpa using h2) ⟨.str ⟨#[c]⟩,H,I.tok _,⟨_,rfl⟩,q⟩) hs
theorem ZaR (its:List Value) (n j:Nat) (u:Value):Obj.mapSeq (·.setIfInBounds j u) { cls:=.type "list",data:=.seq its.toArray n } = { cls:=.type "list",data:=.seq (its.set j u).toArray n }:=by
 simp [Obj.mapSeq]
theorem Inv.lst{pins:List (Addr×Obj)}{σ : St}{H:Hp}{s:Shared}{p:Addr}{xs:List V}(I:Inv X pins σ H s)(h:H p=some (.lst xs)) :
  ∃(its:List Value) (n:Nat),Vals xs its∧s.heap.get? p=some { cls:=.type "list",data:=.seq its.toArray n }∧xs.length≤sizeLine:=by
 obtain ⟨z,its,n,r,e⟩:=I.hok p _ h;exact ⟨its,n,r,e,z⟩
theorem Inv.Zhb{pins:List (Addr×Obj)}{σ : St}{H:Hp}{s:Shared}{p:Addr}{xs ys:List V}{its its':List Value}{n n':Nat}{f:Obj→Obj}(I:Inv X pins σ H s)(h:H p=some (.lst xs))
  (ho:s.heap.get? p=some { cls:=.type "list",data:=.seq its.toArray n }) (hf:f { cls:=.type "list",data:=.seq its.toArray n } = { cls:=.type "list",data:=.seq its'.toArray n' }) (r:Vals ys its') (hz:ys.length≤sizeLine) (t:Nat) :
  Inv X pins σ (upd H p (.lst ys)) { s with heap:=s.heap.update p f,toks:=t }:=by
 have e:(s.heap.update p f).get? p=some { cls:=.type "list",data:=.seq its'.toArray n' }:=by
  rw [Heap.get?_update_self f ho (by rw [hf] <;> rfl),hf]
 refine I.write (x:=p) (e:=p) (by rw [h];trivial) (.inl rfl) (fun b u hb q=>(Heap.get?_update_other _ _ (Ne.symm hb)).trans q) ⟨_,e⟩ ?_;exact ⟨hz,its',n',r,e⟩
def ZdG:V→V→V→Hp→(Hp→Prop)→Prop:=fun o i v H Q=>∃p xs k j,o = .ref p∧i = .int k∧H p=some (.lst xs)∧ixN xs.length k=some j∧Q (upd H p (.lst (xs.set j v)))
theorem set_list:PSet X ZdG:=by
 intro pins s σ H o i v ov iv u Q I ro ri rv h;obtain ⟨p,xs,k,j,rfl,rfl,hp,hj,q⟩:=h;cases ro;obtain ⟨t,rfl⟩:=ri;obtain ⟨its,n,r,ho,hz⟩:=I.lst hp;obtain ⟨h1,h2,h3,h4⟩:=Zcs hj;have hl:=r.length;have hn:=Ft
 have I':Inv X pins σ (upd H p (.lst (xs.set j v))) { s with heap:=s.heap.update p (Obj.mapSeq (·.setIfInBounds j u)) } :=
  I.Zhb hp ho (ZaR its n j u) (r.set rv j) (by rw [List.length_set];exact hz) s.toks
 by_cases h0:0≤k
 ·have hk:k.toNat=j:=by
   rw [seqIndex_of h0 h4] at h1;exact Option.some.inj h1
  exact PySem.W.ki_setAt ho h0 (by omega) (by rw [List.size_toArray,← hl];exact h4) (by rw [hk];exact ⟨_,I',q⟩)
 ·have hk:(k+(its.toArray.size:Int)).toNat=j:=by
   rw [seqIndex_neg (by omega) h3] at h1;rw [List.size_toArray,← hl];exact Option.some.inj h1
  exact PySem.W.ki_setBack ho (by omega) (by rw [List.size_toArray,← hl];exact h3) (by omega) (by rw [hk];exact ⟨_,I',q⟩)
theorem vA(lo hi:Option Int)(n:Nat):(sliceBounds lo hi none n).1=((HT.sIx n 0 lo:Nat):Int)∧(sliceBounds lo hi none n).2.1=((HT.sIx n n hi:Nat):Int)∧(sliceBounds lo hi none n).2.2=1:=by
 refine ⟨?_,?_,rfl⟩
 ·cases lo with
  | none=>simp [sliceBounds,HT.sIx]
  | some i =>
   simp only [sliceBounds,HT.sIx,Option.getD_none,show (1:Int) > 0 by decide,if_true];by_cases h:i < 0
   ·simp only [h,if_true] <;> omega
   ·simp only [h,if_false] <;> omega
 ·cases hi with
  | none=>simp [sliceBounds,HT.sIx]
  | some i =>
   simp only [sliceBounds,HT.sIx,Option.getD_none,show (1:Int) > 0 by decide,if_true];by_cases h:i < 0
   ·simp only [h,if_true] <;> omega
   ·simp only [h,if_false] <;> omega
theorem jY(its:List Value)(lo hi:Option Int):slicePick its.toArray lo hi none=((its.drop (HT.sIx its.length 0 lo)).take (HT.sIx its.length its.length hi - HT.sIx its.length 0 lo)).toArray:=by
 obtain ⟨h1,h2,h3⟩:=vA lo hi its.toArray.size;unfold slicePick;rw [h1,h2,h3];simp only [sliceRange_one,pick_run,List.size_toArray] <;> rfl
def rSlL(K:Fg):V→Option Int→Option Int→Hp→VK→Prop:=fun x lo hi H Q=>∃a xs,x = .ref a∧SqL K H a xs∧∀p,H p=none→Q (.ref p) (upd H p (.lst (cutV xs lo hi)))
theorem jZ:SlR X (rSlL X.K):=by
 intro pins s σ H x v vl vu lo hi sl Q I rx hs pl pu h;obtain ⟨a,xs,rfl,hx,q⟩:=h;cases rx;obtain ⟨its,r,ht,hz⟩:=I.list hx;have hlen:=r.length;refine ⟨"list",_,slot_list_getitem.lookup,ht.isList.typeIs,?_⟩;refine wpAny_getItem_list_slice ht.isList hs pl pu .none (by simp) ?_ (by rw [List.size_toArray] <;> omega);rw [jY,← hlen];refine ⟨.ref s.heap.objs.size,_,I.laid (t':=s.toks) (o:=.lst (cutV xs lo hi)) (fun b ob q=>Heap.get?_push_of_some _ q) (Nat.le_refl _) ?_,rfl,q _ (I.hok.fresh (Nat.le_refl _))⟩;exact ⟨Nat.le_trans (um xs lo hi) hz,_,0,(r.drop (HT.sIx xs.length 0 lo)).take (HT.sIx xs.length xs.length hi - HT.sIx xs.length 0 lo),Heap.get?_push_size _ rfl⟩
def jf:V→Bool
 | .non=>true
 | .bl _=>true
 | .int _=>true
 | .str _=>true
 | _=>false
def eqV:V→V→Bool
 | .non,.non=>true
 | .bl a,.bl b=>a == b
 | .bl a,.int b=>(if a then 1 else 0) == b
 | .int a,.bl b=>a == (if b then 1 else 0)
 | .int a,.int b=>a == b
 | .str a,.str b=>a == b
 | _,_=>false
theorem ZhS{A:Around}{s:Shared}{y x:V}{u v:Value}(ry:RelV y u)(rx:RelV x v)(fy:jf y=true)(fx:jf x=true):SeqAt.EqAt A s u v (eqV y x):=by
 cases y with
 | non =>
  cases ry;cases x with
  | non=>cases rx;exact SeqAt.EqAt.same _
  | bl b=>cases rx;exact SeqAt.EqAt.none_bool b
  | int b=>obtain ⟨t,rfl⟩:=rx;exact SeqAt.EqAt.none_int b t
  | str b=>obtain ⟨t,rfl⟩:=rx;exact SeqAt.EqAt.none_str b t
  | _=>exact absurd (show false=true from fx) Bool.false_ne_true
 | bl a =>
  cases ry;cases x with
  | non=>cases rx;exact SeqAt.EqAt.bool_none a
  | bl b=>cases rx;exact SeqAt.EqAt.bool_bool a b
  | int b=>obtain ⟨t,rfl⟩:=rx;exact SeqAt.EqAt.bool_int a b t
  | str b=>obtain ⟨t,rfl⟩:=rx;exact SeqAt.EqAt.bool_str a b t
  | _=>exact absurd (show false=true from fx) Bool.false_ne_true
 | int a =>
  obtain ⟨t',rfl⟩:=ry;cases x with
  | non=>cases rx;exact SeqAt.EqAt.int_none a t'
  | bl b=>cases rx;exact SeqAt.EqAt.int_bool a t' b
  | int b=>obtain ⟨t,rfl⟩:=rx;exact SeqAt.EqAt.int_int a t' b t
  | str b=>obtain ⟨t,rfl⟩:=rx;exact SeqAt.EqAt.int_str a t' b t
  | _=>exact absurd (show false=true from fx) Bool.false_ne_true
 | str a =>
  obtain ⟨t',rfl⟩:=ry;cases x with
  | non=>cases rx;exact SeqAt.EqAt.str_none a t'
  | bl b=>cases rx;exact SeqAt.EqAt.str_bool a t' b
  | int b=>obtain ⟨t,rfl⟩:=rx;exact SeqAt.EqAt.str_int a t' b t
  | str b=>obtain ⟨t,rfl⟩:=rx;exact SeqAt.EqAt.str_str a t' b t
  | _=>exact absurd (show false=true from fx) Bool.false_ne_true
 | _=>exact absurd (show false=true from fy) Bool.false_ne_true
def eqU(x:V)(u:Value):Bool:=match u with
 | .none=>eqV .non x
 | .bool b=>eqV (.bl b) x
 | .int i _=>eqV (.int i) x
 | .str z _=>eqV (.str z) x
 | _=>false
theorem ZeS{x y:V}{u:Value}(r:RelV y u)(f:jf y=true):eqU x u=eqV y x:=by
 cases y with
 | non=>cases r;rfl
 | bl b=>cases r;rfl
 | int i=>obtain ⟨t,rfl⟩:=r;rfl
 | str z=>obtain ⟨t,rfl⟩:=r;rfl
 | _=>exact absurd (show false=true from f) Bool.false_ne_true
theorem uD{x:V}:∀{xs:List V} {us:List Value},Vals xs us→xs.all jf=true→us.any (eqU x)=xs.any fun y=>eqV y x
 | _,_,.nil,_=>rfl
 | y :: xs,u :: us,.cons r t,f=>by
  rw [List.all_cons,Bool.and_eq_true] at f;rw [List.any_cons,List.any_cons,ZeS r f.1,uD t f.2]
theorem yx{A:Around}{s:Shared}{x:V}{v:Value}(rx:RelV x v)(fx:jf x=true):∀{xs:List V} {us:List Value},Vals xs us→xs.all jf=true→∀u∈us,SeqAt.EqAt A s u v (eqU x u)
 | _,_,.nil,_=>fun u hu=>by cases hu
 | y :: xs,u :: us,.cons r t,f=>fun u' hu=>by
  rw [List.all_cons,Bool.and_eq_true] at f;rcases List.mem_cons.mp hu with rfl | hu
  ·rw [ZeS r f.1];exact ZhS r rx f.1 fx
  ·exact yx rx fx t f.2 u' hu
def inV(x:V)(xs:List V):Bool:=xs.any fun y=>eqV y x
def rIn(K:Fg)(neg:Bool):R2:=fun x y H Q=>∃p xs,y = .ref p∧(SqL K H p xs∨SqT K H p xs)∧jf x=true∧xs.all jf=true∧Q (.bl (if neg then !inV x xs else inV x xs)) H
theorem vO:OpR X (compareOp .NotIn) (rIn X.K true):=by
 intro pins s σ H x y v u Q I rx ry h;obtain ⟨p,xs,rfl,hq,fx,fs,q⟩:=h;cases ry;rcases hq with hq | hq
 ·obtain ⟨its,r,pl,hz⟩:=I.list hq;refine SeqAt.notIn_listAt (eqU x) pl.isList (fun w hw=>yx rx fx r fs w (by simpa using hw)) ⟨.bl _,H,I,rfl,?_⟩;rw [show its.toArray.any (eqU x)=its.any (eqU x) by simp,uD r fs];exact q
 ·obtain ⟨its,r,pl,hz⟩:=I.tuple hq;refine SeqAt.notIn_tupleAt (eqU x) pl (fun w hw=>yx rx fx r fs w (by simpa using hw)) ⟨.bl _,H,I,rfl,?_⟩;rw [show its.toArray.any (eqU x)=its.any (eqU x) by simp,uD r fs];exact q
theorem Zm:Ul X (.builtin "len") (fun xs H Q=>∃p ys,xs=[.ref p]∧(SqL X.K H p ys∨SqT X.K H p ys)∧Q (.int ys.length) H):=by
 intro pins s σ H xs us Q I r h;obtain ⟨p,ys,rfl,hq,q⟩:=h;obtain ⟨u,rfl,rx⟩:=vals1 r;cases rx;have hn:=Ft;rcases hq with hq | hq
 ·obtain ⟨its,r',pl,hz⟩:=I.list hq;have hlen:=r'.length;exact Calls.call_len_list pl.isList (by simp only [List.size_toArray] <;> omega) ⟨.int ys.length,H,I.tok _,⟨s.toks+1,by rw [List.size_toArray,hlen]⟩,q⟩
 ·obtain ⟨its,r',pl,hz⟩:=I.tuple hq;have hlen:=r'.length;exact len_tuple pl (by simp only [List.size_toArray] <;> omega) ⟨.int ys.length,H,I.tok _,⟨s.toks+1,by rw [List.size_toArray,hlen]⟩,q⟩
theorem JV:Ul X (.type "list") (fun xs H Q=>∃p ys,xs=[.ref p]∧(SqL X.K H p ys∨SqT X.K H p ys)∧∀l,H l=none→Q (.ref l) (upd H l (.lst ys))):=by
 intro pins s σ H xs us Q I r h;obtain ⟨p,ys,rfl,hq,q⟩:=h;obtain ⟨u,rfl,rx⟩:=vals1 r;cases rx
 have fin:∀(its:List Value),Vals ys its→ys.length≤sizeLine→∀(h':Heap) (c':Nat),(∀b o',s.heap.get? b=some o'→h'.get? b=some o') →
   h'.get? s.heap.objs.size=some { cls:=.type "list",dict:=none,data:=.seq its.toArray c',slots:=#[] }→EP X pins σ Q (.ref s.heap.objs.size) { s with heap:=h' }:=fun its r' hz h' c' kp e =>
  ⟨.ref s.heap.objs.size,_,I.laid (t':=s.toks) kp (Nat.le_refl _) (show YQ X.prog X.w _ h' _ (.lst ys) from ⟨hz,its,c',r',e⟩),rfl,q _ (I.hok.fresh (Nat.le_refl _))⟩
 rcases hq with hq | hq
 ·obtain ⟨its,r',pl,hz⟩:=I.list hq;have hlen:=r'.length;obtain ⟨o,ho,hc,n,hd⟩:=pl.isList;exact call_list_seq p (.inl rfl) ho hc hd (fun h' c' kp e=>fin its r' hz h' c' kp e) (by simp only [List.size_toArray] <;> omega)
 ·obtain ⟨its,r',pl,hz⟩:=I.tuple hq;have hlen:=r'.length;obtain ⟨o,ho,hc,n,hd⟩:=pl;exact call_list_seq p (.inr rfl) ho hc hd (fun h' c' kp e=>fin its r' hz h' c' kp e) (by simp only [List.size_toArray] <;> omega)
theorem Yk:Ul X (.type "tuple") (fun xs H Q=>∃p ys,xs=[.ref p]∧((SqL X.K H p ys∧∀l,H l=none→Q (.ref l) (upd H l (.tup ys)))∨(SqT X.K H p ys∧Q (.ref p) H))):=by
 intro pins s σ H xs us Q I r h;obtain ⟨p,ys,rfl,h⟩:=h;obtain ⟨u,rfl,rx⟩:=vals1 r;cases rx;rcases h with ⟨hq,q⟩ | ⟨hq,q⟩
 ·obtain ⟨its,r',pl,hz⟩:=I.list hq;have hlen:=r'.length;refine call_tuple_list pl.isList (fun h' kp=>?_) (by simp only [List.size_toArray] <;> omega);have I1:Inv X pins σ H { s with heap:=h' }:=I.kept (t':=s.toks) kp
  have I2:Inv X pins σ (upd H h'.objs.size (.tup ys)) { s with heap:=h'.push { cls:=.type "tuple",data:=.seq its.toArray } } :=
   I1.laid (t':=s.toks) (fun b o e=>Heap.get?_push_of_some _ e) (Nat.le_refl _) (show YQ X.prog X.w _ _ _ (.tup ys) from ⟨hz,its,r',IsTup.new _ _⟩)
  exact ⟨.ref h'.objs.size,_,I2,rfl,q _ (I1.hok.fresh (Nat.le_refl _))⟩
 ·obtain ⟨its,r',pl,hz⟩:=I.tuple hq;exact call_tuple_same pl ⟨.ref p,H,I,rfl,q⟩
def tyV(K:Fg)(T:String)(x:V)(H:Hp):Prop:=match x with
 | .str _=>T = "str"
 | .int _=>T = "int"
 | .ref p=>(T = "list"∧∃xs,SqL K H p xs)∨(T = "tuple"∧∃o,K.lookup p=some o∧o.cls = .type "tuple"∧o.dict=none) ∨
   (T = "dict"∧((∃kvs,H p=some (.dK kvs))∨∃kvs,H p=some (.dT kvs)))∨(T = "set"∧∃S n,H p=some (.set S n))
 | _=>False
theorem Zez{pins:List (Addr×Obj)}{σ : St}{H:Hp}{s:Shared}{T:String}{x:V}{v:Value}(I:Inv X pins σ H s)(r:RelV x v)(ty:tyV X.K T x H) :
  s.TypeIs v T∧∀a,v = .ref a→∃ob,s.heap.get? a=some ob∧ob.dict=none:=by
 cases x with
 | str z =>
  obtain ⟨t,rfl⟩:=r;cases (show T = "str" from ty);exact ⟨typeIs_str s z t,fun _ e=>nomatch e⟩
 | int i =>
  obtain ⟨t,rfl⟩:=r;cases (show T = "int" from ty);exact ⟨typeIs_int s i t,fun _ e=>nomatch e⟩
 | ref p =>
  cases r;rcases ty with ⟨rfl,xs,hq⟩ | ⟨rfl,o,hk,hc,hd⟩ | ⟨rfl,hk⟩ | ⟨rfl,S,n,hk⟩
  ·obtain ⟨its,_,pl,_⟩:=I.list hq;refine ⟨pl.isList.typeIs,fun a e=>?_⟩;cases e;obtain ⟨o,n,e,c,hd,_⟩:=pl;exact ⟨o,e,hd⟩
  ·refine ⟨⟨o,I.kIn p o hk,hc⟩,fun a e=>?_⟩;cases e;exact ⟨o,I.kIn _ o hk,hd⟩
  ·have z:∃o,s.heap.get? p=some o∧o.ExactDict:=by
    rcases hk with ⟨kvs,hk⟩ | ⟨kvs,hk⟩
    ·obtain ⟨_,_,_,_,o,_,_,e,ex,_⟩:=I.hok p _ hk;exact ⟨o,e,ex⟩
    ·obtain ⟨_,_,_,_,o,_,_,e,ex,_⟩:=I.hok p _ hk;exact ⟨o,e,ex⟩
   obtain ⟨o,e,ex⟩:=z;refine ⟨⟨o,e,ex.1⟩,fun a e2=>?_⟩;cases e2;exact ⟨o,e,ex.2.1⟩
  ·obtain ⟨o,_,_,_,e,ex,_⟩:=I.hok p _ hk;refine ⟨⟨o,e,ex.1⟩,fun a e2=>?_⟩;cases e2;exact ⟨o,e,ex.2.1⟩
 | _=>exact False.elim ty
def tBM0(K:Fg)(T:String)(r:V→List V→Hp→VK→Prop)(to:TE):TE:=fun σ H Q=>to σ H fun x H1=>tyV K T x H1∧r x [] H1 Q
def tBM(K:Fg)(T:String)(r:V→List V→Hp→VK→Prop)(to:TE)(t:TA):TE:=fun σ H Q=>to σ H fun x H1=>tyV K T x H1∧t σ H1 fun xs H2=>r x xs H2 Q
variable{o e:Expr}{es:List Expr}{to:TE}{t:TA}{name:Str}{apos cpos:Pos}{T id:String}{r:V→List V→Hp→VK→Prop}
theorem ZgU (pa:PlainAttrs T) (slot:Slot T name id) (hty:typeOf (.builtin id)=pure (.type "method_descriptor")) (hm:MtR X id r) (ho:PE X o to)
  (hbase:attributeBase o name X.env (eval o X.env)=eval o X.env:=by rfl) (hline:(apos.endLine == cpos.line)=true:=by rfl):PE X (.Call (.Attribute o name apos) [] [] cpos) (tBM0 X.K T r to):=by
 intro pins s σ H Q I h;refine wpAny_Call_method0_late hbase hline (thn (ho pins s σ H _ I h) fun v s1 ⟨x,H1,I1,r1,ty,q1⟩=>?_);obtain ⟨h1,h2⟩:=Zez I1 r1 ty;exact ⟨T,id,pa,slot,hty,h1,h2,Calls.callWith_builtin rfl (PySem.evalArgs_none (hm pins s1 σ H1 x [] v [] Q I1 r1 .nil q1))⟩
theorem Yr (pa:PlainAttrs T) (slot:Slot T name id) (hty:typeOf (.builtin id)=pure (.type "method_descriptor")) (hm:MtR X id r) (ho:PE X o to) (ha:PA X (e :: es) t)
  (hbase:attributeBase o name X.env (eval o X.env)=eval o X.env:=by rfl)
  (hfew:((backTo cpos (starEach (e :: es) X.env)).all (fun x=>!x.1) && (backToKw cpos (keywordEach [] X.env)).all (fun x=>x.1.isSome)
   && decide ((e :: es).length+([]:List Keyword).length+(if ([]:List Keyword).isEmpty then 0 else 1) < 30))=true:=by rfl)
  (hline:(apos.endLine == cpos.line)=true:=by rfl) (hs:starEach (e :: es) X.env=(false,eval e X.env) :: starEach es X.env:=by rfl) (hplain:(backTo cpos (starEach es X.env)).any (·.1)=false:=by rfl) :
  PE X (.Call (.Attribute o name apos) (e :: es) [] cpos) (tBM X.K T r to t):=by
 intro pins s σ H Q I h;refine wpAny_Call_method_late hbase hfew hline rfl (thn (ho pins s σ H _ I h) fun v s1 ⟨x,H1,I1,r1,ty,q1⟩=>?_);obtain ⟨h1,h2⟩:=Zez I1 r1 ty;refine ⟨T,id,pa,slot,hty,h1,h2,?_⟩;have hA:=ha cpos pins s1 σ H1 _ I1 q1;rw [hs] at hA ⊢;refine Calls.callWith_builtin (by show (false || (backTo cpos (starEach es X.env)).any (·.1))=false;rw [hplain] <;> rfl) (Calls.evalArgs_plain ?_);exact thn hA fun us s2 ⟨vs,H2,I2,r2,q2⟩=>hm pins s2 σ H2 x vs v us Q I2 r1 r2 q2
end
def MtM(X:Cx)(id:String)(r:V→List V→Hp→VK→Prop):Prop :=
 ∀(pins:List (Addr×Obj)) (s:Shared) (σ : St) (H:Hp) (x:V) (xs:List V) (v:Value) (us:List Value) (Q:VK),Inv X pins σ H s→RelV x v→Vals xs us→r x xs H Q →
  wpAny (model X.prog X.w) X.A (call (.builtin id) (v :: us)) (EP X pins σ Q) X.xe s
theorem Vals.one:∀{x:V} {us:List Value},Vals [x] us→∃u,us=[u]∧RelV x u
 | _,_,.cons r .nil=>⟨_,rfl,r⟩
theorem Vals.zero:∀{us:List Value},Vals [] us→us=[]
 | _,.nil=>rfl
theorem Vals.rep{xs:List V}{us:List Value}(h:Vals xs us):∀k:Nat,Vals (List.replicate k xs).flatten (List.replicate k us).flatten
 | 0=>.nil
 | k+1=>by
  rw [List.replicate_succ,List.replicate_succ,List.flatten_cons,List.flatten_cons];exact Vals.append h (Vals.rep h k)
theorem foldl_rep(its:List Value):∀(k:Nat) (acc:List Value),
  List.foldl (fun x1 x2=>x1++x2) acc.toArray (List.replicate k its.toArray)=(acc++(List.replicate k its).flatten).toArray
 | 0,acc=>by simp
 | k+1,acc=>by
  have e:acc.toArray++its.toArray=(acc++its).toArray:=by simp
  have e2:(acc++its)++(List.replicate k its).flatten=acc++(List.replicate (k+1) its).flatten:=by
   rw [List.replicate_succ,List.flatten_cons,List.append_assoc]
  rw [← e2,← foldl_rep its k (acc++its),← e,List.replicate_succ,List.foldl_cons]
section
variable{X:Cx}{pins:List (Addr×Obj)}{σ : St}{H:Hp}{s:Shared}{l b:Addr}{xs ys zs:List V}
theorem Inv.lset{its its':List Value}{n:Nat}{f:Array Value→Array Value}{t':Nat}(I:Inv X pins σ H s)(hH:H l=some (.lst xs))
  (e:s.heap.get? l=some { cls:=.type "list",data:=.seq its.toArray n }) (hf:f its.toArray=its'.toArray) (hv:Vals ys its') (hz:ys.length≤sizeLine) :
  Inv X pins σ (upd H l (.lst ys)) { s with heap:=s.heap.update l (Obj.mapSeq f),toks:=t' }:=by
 have q:=PySem.IsL.update e f;rw [hf] at q;refine I.write (x:=l) (e:=l) (by rw [hH];exact trivial) (.inl rfl) (fun b' u hb hu=>(Heap.get?_update_other s.heap (Obj.mapSeq f) (Ne.symm hb)).trans hu) ⟨_,q⟩ ?_;exact ⟨hz,its',_,hv,q⟩
theorem Inv.lnew{its:List Value}{t':Nat}(I:Inv X pins σ H s)(hv:Vals ys its)(hz:ys.length≤sizeLine) :
  Inv X pins σ (upd H s.heap.objs.size (.lst ys)) { s with heap:=s.heap.push { cls:=.type "list",data:=.seq its.toArray },toks:=t' } :=
 I.laid (fun _ _ q=>Heap.get?_push_of_some _ q) (Nat.le_refl _) ⟨hz,its,0,hv,Heap.get?_push_size _ rfl⟩
theorem Inv.fresh(I:Inv X pins σ H s):H s.heap.objs.size=none:=I.hok.fresh (Nat.le_refl _)
theorem Inv.lstM (I:Inv X pins σ H s) (hH:H l=some (.lst xs)):xs.length≤sizeLine∧∃(its:List Value) (n:Nat),Vals xs its∧xs.length=its.length∧s.heap.get? l=some { cls:=.type "list",data:=.seq its.toArray n }:=by
 obtain ⟨z,its,n,r,e⟩:=I.hok l _ hH;exact ⟨z,its,n,r,r.length,e⟩
theorem u_{n:Nat}(h:n≤sizeLine):Builtin.List.listTooLong n=false:=by
 unfold Builtin.List.listTooLong;exact decide_eq_false (by omega)
end
section
variable{X:Cx}
def Z5:V→List V→Hp→VK→Prop:=fun x vs H Q=>∃l xs y,x = .ref l∧vs=[y]∧H l=some (.lst xs)∧xs.length < sizeLine∧Q .non (upd H l (.lst (xs++[y])))
theorem Zy:MtM X "list.append" Z5:=by
 intro pins s σ H x vs v us Q I rx rv h;obtain ⟨l,xs,y,rfl,rfl,hH,hz,q⟩:=h;cases rx;obtain ⟨u,rfl,ru⟩:=rv.one;obtain ⟨z,its,n,r,hl,e⟩:=I.lstM hH;refine call_meets F.slot_list_append ⟨_,e,rfl⟩ F.entry_list_append (F.args_list_append_2 _ _) (PySem.list_append l its.toArray n u (by rw [List.size_toArray];omega)) ⟨e,?_⟩;refine ⟨.non,_,I.lset (its':=its++[u]) hH e (by simp) (r.append (.cons ru .nil)) ?_,rfl,q⟩;rw [List.length_append,List.length_singleton];omega
def j4:V→List V→Hp→VK→Prop:=fun x vs H Q=>∃l b xs zs,x = .ref l∧vs=[.ref b]∧H l=some (.lst xs)∧H b=some (.lst zs)∧xs.length+zs.length≤sizeLine∧Q .non (upd H l (.lst (xs++zs)))
theorem Fq:MtM X "list.extend" j4:=by
 intro pins s σ H x vs v us Q I rx rv h;obtain ⟨l,b,xs,zs,rfl,rfl,hH,hB,hz,q⟩:=h;cases rx;obtain ⟨u,rfl,ru⟩:=rv.one;cases ru;obtain ⟨z,its,n,r,hl,e⟩:=I.lstM hH;obtain ⟨z2,its2,n2,r2,hl2,e2⟩:=I.lstM hB;have hsz:its.toArray.size+its2.toArray.size≤sizeLine:=by rw [List.size_toArray,List.size_toArray];omega
 have hlong : ¬ (!its.toArray.isEmpty && Builtin.List.listTooLong (its.toArray.size+its2.toArray.size))=true:=by
  rw [u_ hsz,Bool.and_false];exact Bool.false_ne_true
 refine call_meets F.slot_list_extend ⟨_,e,rfl⟩ F.entry_list_extend (F.args_list_extend_2 _ _)
  (AutoSeq1.list_extend_list_list_0 l its.toArray n b its2.toArray n2 hlong (by rw [List.size_toArray];omega) (by omega)) ⟨e,e2,?_⟩
 refine ⟨.non,_,I.lset (its':=its++its2) hH e (by simp) (r.append r2) ?_,rfl,q⟩;rw [List.length_append];omega
def ZbM:V→List V→Hp→VK→Prop:=fun x vs H Q=>∃l xs,x = .ref l∧vs=[]∧H l=some (.lst xs)∧Q .non (upd H l (.lst []))
theorem ZdR:MtM X "list.clear" ZbM:=by
 intro pins s σ H x vs v us Q I rx rv h;obtain ⟨l,xs,rfl,rfl,hH,q⟩:=h;cases rx;have hus:=rv.zero;subst hus;obtain ⟨z,its,n,r,hl,e⟩:=I.lstM hH;refine call_meets F.slot_list_clear ⟨_,e,rfl⟩ F.entry_list_clear (F.args_list_clear_1 _) (AutoSeq1.list_clear_list_0 l its.toArray n (by rw [List.size_toArray];omega)) ⟨e,?_⟩;exact ⟨.non,_,I.lset (its':=[]) (ys:=[]) hH e rfl .nil (Nat.zero_le _),rfl,q⟩
def rCat:R2:=fun x y H Q=>∃l b xs zs,x = .ref l∧y = .ref b∧H l=some (.lst xs)∧H b=some (.lst zs)∧xs.length+zs.length≤sizeLine∧∀p,H p=none→Q (.ref p) (upd H p (.lst (xs++zs)))
theorem jw:OpR X (binaryOp .Add) rCat:=by
 intro pins s σ H x y v u Q I rx ry h;obtain ⟨l,b,xs,zs,rfl,rfl,hH,hB,hz,q⟩:=h;cases rx;cases ry;obtain ⟨z,its,n,r,hl,e⟩:=I.lstM hH;obtain ⟨z2,its2,n2,r2,hl2,e2⟩:=I.lstM hB;refine PySem.P.add_list e e2 ?_ (by rw [List.size_toArray,List.size_toArray];omega);have ea:its.toArray++its2.toArray=(its++its2).toArray:=by simp
 rw [ea];exact ⟨.ref _,_,I.lnew (t':=s.toks) (r.append r2) (by rw [List.length_append];omega),rfl,q _ I.fresh⟩
def rRep:R2:=fun x y H Q=>∃l k xs,x = .ref l∧y = .int k∧H l=some (.lst xs)∧-(2 ^ 63)≤k∧k < 2 ^ 63∧xs.length*k.toNat≤sizeLine ∧
 ∀p,H p=none→Q (.ref p) (upd H p (.lst (List.replicate k.toNat xs).flatten))
theorem len_rep{α : Type}(xs:List α)(k:Nat):(List.replicate k xs).flatten.length=k*xs.length:=by
 induction k with
 | zero=>simp
 | succ k ih=>rw [List.replicate_succ,List.flatten_cons,List.length_append,ih,Nat.succ_mul,Nat.add_comm]
theorem vN:OpR X (binaryOp .Mult) rRep:=by
 intro pins s σ H x y v u Q I rx ry h;obtain ⟨l,k,xs,rfl,rfl,hH,h1,h2,hz,q⟩:=h;cases rx;obtain ⟨t,rfl⟩:=ry;obtain ⟨z,its,n,r,hl,e⟩:=I.lstM hH;have hlen:its.toArray.size*k.toNat≤sizeLine:=by rw [List.size_toArray,← hl];exact hz
 have hcap : ¬ its.toArray.size*k.toNat > (2 ^ 63 - 1) / 8:=by
  have:(sizeLine:Nat)≤(2 ^ 63 - 1) / 8:=by decide
  omega
 have hfit : ¬ (!Builtin.List.listFitsIndex k)=true:=by
  rw [fitsIndex_both h1 h2];exact Bool.false_ne_true
 have hlong : ¬ Builtin.List.listTooLong (its.toArray.size*k.toNat)=true:=by
  rw [u_ hlen];exact Bool.false_ne_true
 have hnew:List.foldl (fun x1 x2=>x1++x2) #[] (List.replicate (if its.toArray.isEmpty=true then 0 else k.toNat) its.toArray)=(List.replicate k.toNat its).flatten.toArray:=by
  have f0:∀m:Nat,List.foldl (fun x1 x2=>x1++x2) #[] (List.replicate m its.toArray)=(List.replicate m its).flatten.toArray:=fun m=>by
   have:=foldl_rep its m []
   rw [List.nil_append] at this;exact this
  rw [f0];cases its with
  | nil=>simp
  | cons a r'=>rw [if_neg (by simp)]
 refine wpAny_binaryOp_repeat_ref (T:="list") (U:="int") (by decide) ⟨_,e,rfl⟩ (fun s'=>typeIs_int s' k t) noFill_list_mul F.fills_int_mul F.slot_int_rmul repeat_list F.slot_int_index.lookup
  (call_meets F.slot_int_rmul (typeIs_int s k t) F.entry_int_rmul (F.args_int_rmul_2 _ _) (int___rmul___int_list k t l its.toArray n)
   ⟨e,rfl,⟨_,e,rfl⟩,call_meets F.slot_list_mul ⟨_,e,rfl⟩ F.entry_list_mul (F.args_list_mul_2 _ _) (AutoListH.list___mul___list_int_3 l its.toArray n k t hfit hcap hlong) ⟨e,?_⟩⟩)
 rw [hnew];exact ⟨.ref _,_,I.lnew (t':=s.toks) (r.rep k.toNat) (by rw [len_rep,Nat.mul_comm];exact hz),rfl,q _ I.fresh⟩
end
section
variable{prog:Program}{w:World}{A:Around}{E:Value→Shared→Prop}{s:Shared}
end
section
variable{X:Cx}
end
end L2
namespace Att
open PySem PySem.W PySem.Calls PyProof.Rows
theorem qx{P:Params}{h:Heap}:∀(ns:List Int) (vs:List Value),WellAll P h vs (ns.map WData.int)→IntsAre vs ns:=by
 intro ns
 induction ns with
 | nil =>
  intro vs w;rw [List.map_nil] at w;cases w;exact .nil
 | cons n ns ih =>
  intro vs w;rw [List.map_cons] at w;cases w with
  | cons a b =>
   cases a;exact .cons _ _ (ih _ b)
theorem Zbz{l:OpenLaw}{n:Nat}(hn:l.most=some n){P:Params}{h:Heap}{args:List WData}{vals:List Value}
  (hpre:l.row.toRowW.claim.pre args=true) (hwl:WellAll P h vals args) :
  ∃a vs ns,vals=[Value.ref a]∧args=[WData.list (ns.map WData.int)]∧h.get? a=some { cls:=.type "list",data:=.seq vs.toArray }∧IntsAre vs ns∧ns.length≤n:=by
 have hsh:WShape.hasAll [] args [.list .int]=true:=(pre_splitW hpre).1;have hc:l.pre.holds [] { args:=args } = true:=(pre_splitW hpre).2;obtain ⟨d,r,rfl,h1,h2⟩:=hasAllW_cons hsh;obtain rfl:=hasAllW_nil h2;obtain ⟨xs,rfl,h3⟩:=hasW_list h1;obtain ⟨ns,rfl⟩:=items_int h3
 have hlen:ns.length≤n:=by
  unfold OpenLaw.pre at hc
  have h4:(WTm.not (.lt (.lit (.int (n:Int))) (.len (.arg 0)))).holds [] { args:=[.list (ns.map .int)] } = true:=by
   have h4:=(holds_andW hc).1;rw [hn] at h4;exact h4
  have h5:=condW_of h4 (w_not (w_lt w_lit (w_len_list (w_arg rfl))));rw [List.length_map] at h5;refine Nat.le_of_not_lt fun q=>?_
  have q':(n:Int) < ((ns.length:Nat):Int):=by omega
  first
   | (rw [decide_eq_true q'] at h5;exact absurd h5 (by decide))
   | (simp at h5;omega)
 cases hwl with
 | cons w1 w2 =>
  cases w2;cases w1 with
  | list ho hall=>exact ⟨_,_,ns,rfl,rfl,ho,qx ns _ hall,hlen⟩
theorem ZbP(l:OpenLaw)(args:List WData):l.row.toRowW.claim.post args (.bool true) args=true :=
 postW_of (r:=l.row.toRowW) (X:=(true == true))
  (show WShape.has [] (.bool true) .bool=true by first | rfl | decide | simp [WShape.has,WShape.arms,WShape.armsAll])
  (show (WTm.eq .res (.lit (.bool true))).value [] { args:=args,res:=some (.bool true),after:=args } = some (.bool (true == true)) from w_eq_bool (w_res rfl) w_lit) rfl
theorem ux{l:OpenLaw}{n:Nat}{q:Program}{loose:List Str}{XP:(Str→Option Value)→Heap→Prop}{YP:World→Heap→Prop}{d:DefRec}
  (hn:l.most=some n) (hdf:d.params.defaults=[])
  (call:∀(w:World) (s₀ s₁ : Shared) (mg mb:Str→Option Value) (fa:Addr) (o:Obj) (pm cd doc:Value) (a:Addr) (vs:List Value) (ns:List Int),
   Ground q loose [] XP w s₀ mg mb s₁.heap→YP w s₁.heap →
   s₁.heap.get? fa=some o→o.data = .func (docDef d.name d.params d.body d.scope pm cd doc)→s₁.heap.CodeRec cd d.name→mg d.name=some (.ref fa) →
   s₁.heap.get? a=some { cls:=.type "list",data:=.seq vs.toArray }→IntsAre vs ns→ns.length≤n→s₁.gens = #[] →
   codeAny (model l.prog w) callerA (.call (.ref fa) ⟨[.ref a],[]⟩) (fun r s'=>r = .ok (.ret (.bool true))∧OldK s₁.heap s'.heap∧s'.os=s₁.os∧AllBare s'.gens) s₁) :
  WalkO q loose XP YP l.row.toRowW d [] (fun f vs=>PySem.call f vs):=by
 intro w s₀ s₁ mg mb G Y fa o pm cd doc dV kV ho hd hcd hD hmg hg args vals as hpre hlay hrd hwl hlo;obtain rfl:dV = .none:=Dflts.none hD hdf;obtain rfl:kV = .none:=Dflts.noKw hD;obtain ⟨a,vs,ns,rfl,rfl,hobj,hints,hlen⟩:=Zbz hn hpre hwl;refine enter_call (codeAny_mono (call w s₀ s₁ mg mb fa o pm cd doc a vs ns G Y ho (fd_plain hd) hcd hmg hobj hints hlen hg) fun r s' hq=>?_);obtain ⟨rfl,h2,h3,h4⟩:=hq;exact ⟨.inl ⟨.bool true,.bool true,[],rfl,fun _=>rfl,.bool true,ZbP l _,fun _=>⟨List.Pairwise.nil,fun _ hm=>(nomatch hm)⟩⟩,h2,h3,h4⟩
section
variable{prog:Program}{w:World}{A:Around}{E:Value→Shared→Prop}{s:Shared}{K:Frag}
end
end Att
namespace L2
open PySem PySem.Spec PyProof.Rows
theorem yV:∀{vs:List Value} {ns:List Int},IntsAre vs ns→Vals (ns.map V.int) vs
 | _,_,.nil=>.nil
 | _,_,.cons n t h=>.cons ⟨t,rfl⟩ (yV h)
def Only(H:Hp):Prop:=∀b,H b=none∨∃o xs,H b=some (.frz o (.lst xs))
theorem Zd4{P:Program}{w:World}{K:Fg}{mg mb:Str→Option Value}{CX:CXT}{k:Nat}{fa a:Addr}{fd:FuncData}{x:Str}{sp:Sp}{s₁ : Shared}{vs:List Value}{ns:List Int}
  (KX:K.In s₁.heap) (hns:s₁.heap.Ns mainGlobals mg) (hb:s₁.heap.Ns builtinsNs mb) (hbb:∀x:Str,x≠"__name__"→mb x=bootBuiltins x) (hlim:s₁.heap.NoLimit) (hg:s₁.gens = #[])
  (ha:s₁.heap.get? a=some { cls:=.type "list",data:=.seq vs.toArray }) (hi:IntsAre vs ns) (hl:ns.length≤sizeLine) (hr:Room k callerA)
  (F:∀base:Heap,K.In base→base.Ns mainGlobals mg→FnOk P w K mg base CX k fa fd [x] sp) (hbind:∀(s:Shared) (u:Value),BindsTo s fd ⟨[u],[]⟩ [(x,u)])
  (hsp:∀H:Hp,Only H→SqL K H a (ns.map V.int)→sp [.ref a] H (fun v _=>v = .bl true) fun _ _ _=>False)
  (hCX:∀H e s',CX [] H s₁ (fun _ _ _=>False) e s'→False) :
  codeAny (model P w) callerA (.call (.ref fa) ⟨[.ref a],[]⟩) (fun r s'=>r = .ok (.ret (.bool true))∧OldK s₁.heap s'.heap∧s'.os=s₁.os∧AllBare s'.gens) s₁:=by
 have rv:=yV hi;have lenV:=hi.length
 have core:∀H:Hp,Only H→SqL K H a (ns.map V.int)→HOk P w H s₁.heap→(∀b,H b≠none→b=a)→(H a≠none→K.lookup a=none) →
   codeAny (model P w) callerA (.call (.ref fa) ⟨[.ref a],[]⟩) (fun r s'=>r = .ok (.ret (.bool true))∧OldK s₁.heap s'.heap∧s'.os=s₁.os∧AllBare s'.gens) s₁:=by
  intro H hO hS hok hA hK;have base_of:∀{b:Addr} {o:Obj},s₁.heap.get? b=some o→H b=none→(hidT s₁.heap H).get? b=some o:=fun e n=>Zeb e n
  have noA:∀{b:Addr} {o:Obj} {es:Array DictEntry} {ep:Nat},s₁.heap.get? b=some o→o.data = .dict es ep→H b=none:=fun {b o es ep} e d=>by
   cases q:H b with
   | none=>rfl
   | some u =>
    have e':b=a:=hA b (by rw [q];simp);subst e';rw [ha] at e;cases e;have d':Data.seq vs.toArray _=Data.dict es ep:=d;cases d'
  have nsK:∀{b:Addr} {m:Str→Option Value},s₁.heap.Ns b m→(hidT s₁.heap H).Ns b m:=fun {b m} ⟨o,es,ep,e,d,r⟩=>⟨o,es,ep,base_of e (noA e d),d,r⟩
  have hKb:K.In (hidT s₁.heap H):=fun b o e=>base_of (KX b o e) (by
   cases q:H b with
   | none=>rfl
   | some u =>
    have e':b=a:=hA b (by rw [q];simp)
    subst e'
    rw [hK (by rw [q];simp)] at e;cases e)
  have hM:Mod K mg (hidT s₁.heap H):=⟨hKb,nsK hns,⟨mb,nsK hb,hbb⟩,let ⟨mc,h1,h2⟩:=hlim;⟨mc,nsK h1,h2⟩⟩
  have e0:Env0 P w K mg (hidT s₁.heap H) callerA [] s₁ H:=⟨rfl,hM,fun b o e=>ZfA e,Nat.le_of_eq (ZcA _ _),trivial,fun b hb=>absurd (show b∈([]:List Addr) from hb) (by simp),hok,.of_eq hg⟩
  refine codeAny_mono ((F _ hKb (nsK hns)).run callerA [] s₁ H ⟨[.ref a],[]⟩ [.ref a] [.ref a] _ _ hr e0 (hbind s₁ (.ref a)) (.cons rfl .nil) (hsp H hO hS)) fun r s' h=>?_
  cases r with
  | error e=>exact (hCX H e s' h).elim
  | ok fl =>
   cases fl with
   | next=>exact False.elim h
   | brk=>exact False.elim h
   | cont=>exact False.elim h
   | ret u =>
    obtain ⟨v,H',os,bare,un,hok',r',q⟩:=h;have q':v = .bl true:=q;subst q';obtain rfl:u=Value.bool true:=r';refine ⟨rfl,OldK.of_keep fun b o e=>?_,os,bare⟩;cases q:H b with
    | none=>exact un.keep b o e q (by intro z;exact absurd (show b∈([]:List Addr) from z) (by simp)) (by simp)
    | some u =>
     rcases hO b with z | ⟨ob,xs,z⟩
     ·rw [q] at z;cases z
     ·have z2:=un.frzs b ob _ z;obtain ⟨e1,_⟩:=hok b _ z;obtain ⟨e2,_⟩:=hok' b _ z2;rw [e] at e1;cases e1;exact e2
 cases hk:K.lookup a with
 | some o =>
  have e:=KX a o hk;rw [ha] at e;cases e;refine core (fun _=>none) (fun _=>.inl rfl) (.inr ⟨_,vs.toArray,_,hk,rfl,rfl,rfl,by rw [List.size_toArray,lenV];exact hl,by simpa using rv⟩) (fun b u z=>by have z':(none:Option HO)=some u:=z;cases z') (fun b z=>absurd rfl z) fun z=>absurd rfl z
 | none =>
  refine core (fun b=>if b=a then some (.frz { cls:=.type "list",data:=.seq vs.toArray } (.lst (ns.map V.int))) else none) (fun b=>?_) (.inl (.inr ⟨{ cls:=.type "list",data:=.seq vs.toArray },if_pos rfl⟩)) (fun b u z=>?_) (fun b z=>?_) fun _=>hk
  ·by_cases hb:b=a
   ·exact .inr ⟨_,_,if_pos hb⟩
   ·exact .inl (if_neg hb)
  ·by_cases hb:b=a
   ·have z':=(if_pos hb).symm.trans z;cases z';subst hb;exact ⟨ha,by rw [List.length_map];exact hl,vs,_,rv,ha⟩
   ·have z':=(if_neg hb).symm.trans z;cases z'
  ·by_cases hb:b=a
   ·exact hb
   ·exact absurd (if_neg hb) z
theorem Ze3{l:PySem.W.OpenLaw}{n k:Nat}{q:Program}{loose:List Str}{XP:(Str→Option Value)→Heap→Prop}{YP:World→Heap→Prop}{d:DefRec}{K:Params→PySem.W.Frag}{CX:World→CXT}{sp:World→Sp}{x:Str}
  (hn:l.most=some n) (hn2:n≤sizeLine) (hdf:d.params.defaults=[]) (hr:Room k callerA)
  (hY:∀(w:World) (h:Heap),YP w h→(K w.params).In h)
  (F:∀(w:World) (mg:Str→Option Value) (fa:Addr) (h:Heap),(K w.params).In h→h.Ns mainGlobals mg→mg d.name=some (.ref fa) →
   ∃fd:FuncData,(∀(s:Shared) (u:Value),BindsTo s fd ⟨[u],[]⟩ [(x,u)]) ∧
    ∀base:Heap,(K w.params).In base→base.Ns mainGlobals mg→FnOk l.prog w (K w.params) mg base (CX w) k fa fd [x] (sp w))
  (hsp:∀(w:World) (H:Hp) (a:Addr) (ns:List Int),ns.length≤n→Only H→SqL (K w.params) H a (ns.map V.int)→sp w [.ref a] H (fun v _=>v = .bl true) fun _ _ _=>False)
  (hCX:∀(w:World) (H:Hp) (s:Shared) (e:Value) (s':Shared),CX w [] H s (fun _ _ _=>False) e s'→False) :
  PySem.W.WalkO q loose XP YP l.row.toRowW d [] (fun f vs=>PySem.call f vs):=by
 refine Att.ux hn hdf fun w s₀ s₁ mg mb fa o pm cd doc a vs ns G Y ho hd hcd hmg hobj hints hlen hg=>?_
 have KX:=hY w _ Y;obtain ⟨fd,hb,hF⟩:=F w mg fa _ KX G.T.g hmg;exact Zd4 KX G.T.g G.T.b G.T.builtins G.T.nolimit hg hobj hints (Nat.le_trans hlen hn2) hr hF hb (fun H hO hS=>hsp w H a ns hlen hO hS) fun H e s'=>hCX w H s₁ e s'
def Je(s:Stmt):Arguments:=match s with
 | .FunctionDef _ a _ _ _ _ _ _ _ _=>a
 | _=>{ posonlyargs:=[],args:=[],vararg:=none,kwonlyargs:=[],kw_defaults:=[],kwarg:=none,defaults:=[] }
def YC(s:Stmt):List Stmt:=match s with
 | .FunctionDef _ _ b _ _ _ _ _ _ _=>b
 | _=>[]
def Ze(s:Stmt):Scope:=match s with
 | .FunctionDef _ _ _ _ _ _ sc _ _ _=>sc
 | _=>{ kind:=.function,names:=[],isGenerator:=false,isCoroutine:=false }
abbrev CX0:CXT:=fun _ _ _ _ _ _=>False
abbrev E0:XK:=fun _ _ _=>False
theorem Zh5{X:Cx}:Passes CX0 X E0:=fun _ _ _ _ _ _ _ h=>h.elim
structure Fun (K:Fg) (x qual:Str) (st:Stmt) (f:Addr) (fd:FuncData):Prop where
 ex:∃(oc:Value) (od:Option Addr) (kV doc pm:Value) (an:Option Addr) (cdv ct:Value) (osl:Array (Option Value)),
  fd=PySem.W.fnOf x qual (Je st) (YC st) (Ze st) .none kV doc pm an cdv ct∧K.lookup f=some ⟨oc,od,.func fd,osl⟩∧PySem.W.codeIn K cdv qual=true
 kp:PySem.W.keepIn K (.ref f)=true
section
variable{P:Program}{w:World}{K:Fg}{mg:Str→Option Value}{base:Heap}
theorem Fun.ok{x qual:Str}{st:Stmt}{f:Addr}{fd:FuncData}{N ps:List Str}{k:Nat}{sp:Sp}(F:Fun K x qual st f fd)(S:Zu N ps (Ze st))(len:∀vs H Q E,sp vs H Q E→vs.length=ps.length)
  (hbody:∀(cdv:Value) (A:Around) (outer:List Env) (s:Shared) (H:Hp) (vs:List V) (Q:VK) (E:XK),Room k (A.deeper (envOfC qual (Ze st) s.heap.objs.size f cdv))→sp vs H Q E →
   ∃t,PSs (cxOf CX0 P w K mg base N qual (Ze st) f cdv A outer s H E).nox (YC st) t∧t { nx:=fun _ H'=>Q .non H',rt:=Q } (start N vs) H):FnOk P w K mg base CX0 (k+1) f fd ps sp:=by
 obtain ⟨oc,od,kV,doc,pm,an,cdv,ct,osl,rfl,lk,hcd⟩:=F.ex;refine ZhP lk hcd S len fun A outer s H vs Q E hr hsp=>?_
 obtain ⟨t,h,q⟩:=hbody cdv A outer s H vs Q E hr hsp;exact ⟨t,h.nox,q⟩
theorem Fun.binds{x qual:Str}{st:Stmt}{f:Addr}{fd:FuncData}{ps:List Str}(F:Fun K x qual st f fd)
  (h:∀(kV doc pm:Value) (an:Option Addr) (cdv ct:Value) (us:List Value),us.length=ps.length→bindArgs (PySem.W.fnOf x qual (Je st) (YC st) (Ze st) .none kV doc pm an cdv ct) ⟨us,[]⟩=pure (ps.zip us)):Binds K fd ps []:=by
 obtain ⟨oc,od,kV,doc,pm,an,cdv,ct,osl,rfl,lk,hcd⟩:=F.ex;exact .all (h kV doc pm an cdv ct)
theorem ZeQ{x qual:Str}{st:Stmt}{f:Addr}{oc:Value}{od an:Option Addr}{osl:Array (Option Value)}{kV doc pm cdv ct:Value}(l:K.lookup f=some ⟨oc,od,.func (PySem.W.fnOf x qual (Je st) (YC st) (Ze st) .none kV doc pm an cdv ct),osl⟩)
  (c:PySem.W.codeIn K cdv qual=true) (k:PySem.W.keepIn K (.ref f)=true):Fun K x qual st f (PySem.W.fnOf x qual (Je st) (YC st) (Ze st) .none kV doc pm an cdv ct):=⟨⟨oc,od,kV,doc,pm,an,cdv,ct,osl,rfl,l,c⟩,k⟩
end
theorem Zq{n:Nat}(h:n≤1000):n < sizeLine:=Nat.lt_of_le_of_lt h (by decide)
section
variable{X:Cx}
theorem pv (i:Nat) {x:Str} {pos:Pos} (hN:X.N[i]? = some x:=by rfl) (hv:Vis X.env.scope x:=by first | exact Or.inl rfl | exact Or.inr (Or.inl rfl) | exact Or.inr (Or.inr rfl)) (hd:(x == ("__debug__" : Str))=false:=by decide)
  (hcd:(x == ("__classdict__" : Str))=false:=by decide):PE X (.Name x pos) (tVar i):=ZeJ hN hv hd hcd
end
theorem iteF{A B:Prop}(h:B):if false=true then A else B:=by
 rw [if_neg Bool.false_ne_true];exact h
theorem iteT{A B:Prop}(h:A):if true=true then A else B:=by
 rw [if_pos rfl];exact h
def Same(H H':Hp):Prop:=∀b o,H b=some o→H' b=some o
theorem Same.refl(H:Hp):Same H H:=fun _ _ h=>h
theorem Same.trans{H H1 H2:Hp}(a:Same H H1)(b:Same H1 H2):Same H H2:=fun c o h=>b c o (a c o h)
theorem Same.free{H H':Hp}(e:Same H H'){l:Addr}(h:H' l=Option.none):H l=Option.none:=by
 cases q:H l with
 | none=>rfl
 | some o =>
  rw [e l o q] at h;cases h
theorem Same.seq{K:Fg}{H H':Hp}{a:Addr}{xs:List V}(e:Same H H')(h:SqL K H a xs):SqL K H' a xs:=by
 rcases h with (h | ⟨o,h⟩) | h
 ·exact .inl (.inl (e _ _ h))
 ·exact .inl (.inr ⟨o,e _ _ h⟩)
 ·exact .inr h
section
variable{κ : Type}[DecidableEq κ]
end
section
variable{P:Program}{w:World}{H:Hp}{h:Heap}{a:Addr}
end
section
variable{X:Cx}{pins:List (Addr×Obj)}{σ : St}{H:Hp}{s:Shared}{a:Addr}{y v:V}{u r:Value}{o:Option V}{A:Around}{E:Value→Shared→Prop}
end
section
variable{X:Cx}{pins:List (Addr×Obj)}{σ : St}{H:Hp}{s:Shared}{a:Addr}{kvs:List (Key×V)}{k:Key}{u:Value}{A:Around}{E:Value→Shared→Prop}
end
section
variable{X:Cx}{o i e value:Expr}{pos pos' tpos:Pos}{td ty tv:TE}
end
section
variable{X:Cx}{pos:Pos}
end
section
variable{X:Cx}{pins:List (Addr×Obj)}{σ : St}{H:Hp}{s:Shared}{a:Addr}{y d:V}{u r:Value}{o:Option V}{A:Around}{E:Value→Shared→Prop}
end
section
variable{X:Cx}{o e f:Expr}{apos cpos:Pos}{td ty tx:TE}
end
section
variable{X:Cx}{pins:List (Addr×Obj)}{σ : St}{H:Hp}{s:Shared}{a:Addr}{kvs:List (Key×V)}{A:Around}{E:Value→Shared→Prop}
end
section
variable{X:Cx}{pins:List (Addr×Obj)}{σ : St}{H:Hp}{s:Shared}{a:Addr}{y:V}{u:Value}{A:Around}{E:Value→Shared→Prop}
end
section
variable{X:Cx}
end
end L2
set_option Elab.async false
set_option linter.all false
set_option maxRecDepth 100000
set_option maxHeartbeats 4000000
namespace K73H
open PySem PySem.Spec PyProof.Rows L2
def top(i:Nat):Stmt:=PySem.Challenge.pw_vesselhall_k73_guards.main.body.getD i (.Pass ⟨0,0,0,0⟩)
def spLaw(K:Fg):Sp:=fun vs H Q _=>∃(a:Addr) (ns:List Int),vs=[.ref a]∧SqL K H a (ns.map V.int)∧ns.length≤63∧∀H',Q (.bl true) H'
def FnIn(K:Fg)(n:Str)(st:Stmt):Prop:=∃(f:Addr) (od an:Option Addr) (sl:Array (Option Value)) (oc kV dc pm cd ct:Value),PySem.W.nsIn K mainGlobals n=some (some (.ref f))∧K.lookup f=some ⟨oc,od,.func (PySem.W.fnOf n n (Je st) (YC st) (Ze st) .none kV dc pm an cd ct),sl⟩∧PySem.W.codeIn K cd n=true∧PySem.W.keepIn K (.ref f)=true
theorem fnIn{K:Fg}{n:Str}{st:Stmt}{f:Addr}{od an:Option Addr}{sl:Array (Option Value)}{oc kV dc pm cd ct:Value}(a:PySem.W.nsIn K mainGlobals n=some (some (.ref f)))(l:K.lookup f=some ⟨oc,od,.func (PySem.W.fnOf n n (Je st) (YC st) (Ze st) .none kV dc pm an cd ct),sl⟩)(c:PySem.W.codeIn K cd n=true)(k:PySem.W.keepIn K (.ref f)=true):FnIn K n st:=⟨f,od,an,sl,oc,kV,dc,pm,cd,ct,a,l,c,k⟩
local macro_rules | `(tactic| walk_at "fnIn")=>`(tactic| (refine' fnIn ?a ?l ?c ?k;(case a=>k_is);(case l=>k_is);(case c=>k_is);(case k=>k_is)))
theorem walk{l:PySem.W.OpenLaw}{q:Program}{loose:List Str}{XP:(Str→Option Value)→Heap→Prop}{YP:World→Heap→Prop}{d:DefRec}{K:Params→PySem.W.Frag}(hn:l.most=some 63)(hdf:d.params.defaults=[])
  (hY:∀(w:World) (h:Heap),YP w h→(K w.params).In h)
  (F:∀(w:World) (mg:Str→Option Value) (fa:Addr) (h:Heap),(K w.params).In h→h.Ns mainGlobals mg→mg d.name=some (.ref fa) →
   ∃fd:FuncData,(∀(s:Shared) (u:Value),BindsTo s fd ⟨[u],[]⟩ [("_law_script",u)])∧∀base:Heap,(K w.params).In base→base.Ns mainGlobals mg→FnOk l.prog w (K w.params) mg base CX0 9 fa fd ["_law_script"] (spLaw (K w.params))) :
  PySem.W.WalkO q loose XP YP l.row.toRowW d [] (fun f vs=>PySem.call f vs) :=
 L2.Ze3 (n:=63) (k:=9) (x:="_law_script") (CX:=fun _=>CX0) (sp:=fun w=>spLaw (K w.params)) hn (by decide) hdf ⟨rfl,by decide,by decide⟩ hY F (fun _ _ a ns hl _ hS=>⟨a,ns,rfl,hS,hl,fun _=>rfl⟩) fun _ _ _ _ _ z=>z
open PySem.W in
set_option maxRecDepth 100000 in
set_option maxHeartbeats 0 in
theorem headed (hW:∀{w:World} {K:Fg} {h:Heap} {mg:Str→Option Value} {fa:Addr} (X:K.In h) (G:h.Ns mainGlobals mg) (hfa:mg "law" = some (.ref fa))
  (p0:FnIn K "whole" (top 17)) (p1:FnIn K "greatest_divisor" (top 18)) (p2:FnIn K "least_multiple" (top 19)) (p3:FnIn K "first_place" (top 21)) (p4:FnIn K "unit_row" (top 22)) (p5:FnIn K "unit_rows" (top 23)) (p6:FnIn K "opposite" (top 24)) (p7:FnIn K "opposites" (top 25)) (p8:FnIn K "common_divisor" (top 26)) (p9:FnIn K "lowest" (top 27)) (p10:FnIn K "first_board" (top 29)) (p11:FnIn K "short_line" (top 30)) (p12:FnIn K "place_below_nought" (top 31)) (p13:FnIn K "line_without" (top 32)) (p14:FnIn K "passed_on" (top 33)) (p15:FnIn K "numbers_on" (top 34)) (p16:FnIn K "settled" (top 35)) (p17:FnIn K "balanced" (top 36)) (p18:FnIn K "turning_at" (top 38)) (p19:FnIn K "change" (top 39)) (p20:FnIn K "changes" (top 40)) (p21:FnIn K "sets_of" (top 42)) (p22:FnIn K "has_some" (top 43)) (p23:FnIn K "is_drain" (top 44)) (p24:FnIn K "check_drain" (top 45)) (p25:FnIn K "numbers_at" (top 46)) (p26:FnIn K "guard" (top 47)) (p27:FnIn K "_law_cell_at" (top 49)) (p28:FnIn K "_law_mixed" (top 50)) (p29:FnIn K "_law_divisor" (top 51)) (p30:FnIn K "_law_lowest" (top 52)) (p31:FnIn K "_law_words" (top 53)) (p32:FnIn K "_law_heap" (top 54)) (p33:FnIn K "_law_pool" (top 55)) (p34:FnIn K "_law_pairs" (top 56)) (p35:FnIn K "_law_pace" (top 57)) (p36:FnIn K "_law_vessel" (top 58)) (p37:FnIn K "_law_whole" (top 59)) (p38:FnIn K "_law_changes" (top 60)) (p39:FnIn K "_law_come_to" (top 61)) (p40:FnIn K "_law_numbers" (top 62)) (p41:FnIn K "_law_told" (top 63)) (p42:FnIn K "_law_worth" (top 64)) (p43:FnIn K "_law_sets" (top 66)) (p44:FnIn K "_law_touches" (top 67)) (p45:FnIn K "_law_holds" (top 68)) (p46:FnIn K "_law_kinds" (top 70)) (p47:FnIn K "_law_refused" (top 71)) (p48:FnIn K "_law_right" (top 72)) (p49:FnIn K "_law_guarded" (top 73)) (p50:FnIn K "law" (top 74))
  (z_len:PySem.W.nsIn K mainGlobals "len" = some none)
  (z_abs:PySem.W.nsIn K mainGlobals "abs" = some none)
  (z_range:PySem.W.nsIn K mainGlobals "range" = some none)
  (z_isinstance:PySem.W.nsIn K mainGlobals "isinstance" = some none)
  (z_int:PySem.W.nsIn K mainGlobals "int" = some none)
  (z_bool:PySem.W.nsIn K mainGlobals "bool" = some none)
  (z_tuple:PySem.W.nsIn K mainGlobals "tuple" = some none)
  (z_list:PySem.W.nsIn K mainGlobals "list" = some none)
  (z_str:PySem.W.nsIn K mainGlobals "str" = some none)
  (z_zip:PySem.W.nsIn K mainGlobals "zip" = some none)
  (z_set:PySem.W.nsIn K mainGlobals "set" = some none)
  (z_all:PySem.W.nsIn K mainGlobals "all" = some none)
  (z_any:PySem.W.nsIn K mainGlobals "any" = some none)
  (z_min:PySem.W.nsIn K mainGlobals "min" = some none)
  (z_max:PySem.W.nsIn K mainGlobals "max" = some none)
  (z_sum:PySem.W.nsIn K mainGlobals "sum" = some none)
  (z_sorted:PySem.W.nsIn K mainGlobals "sorted" = some none)
  (z_enumerate:PySem.W.nsIn K mainGlobals "enumerate" = some none)
  (z_reversed:PySem.W.nsIn K mainGlobals "reversed" = some none)
  (z_dict:PySem.W.nsIn K mainGlobals "dict" = some none)
  (z_ord:PySem.W.nsIn K mainGlobals "ord" = some none)
  (z_divmod:PySem.W.nsIn K mainGlobals "divmod" = some none)
  {V q0 q1 q2 q3 q4 q5 q6 q7 q8 q9 q10 q11 q12 q13:Addr} {qd0 qd1 qd2 qd3 qd4 qd5 qd6 qd7 qd8 qd9 qd10 qd11 qd12 qd13:ClassData}
  (aV:PySem.W.nsIn K mainGlobals "VesselError" = some (some (.ref V)))
  (xV:PySem.W.excIn K V [.type "ValueError",.type "Exception",.type "BaseException",.type "object"] "ValueError.__new__" = true)
  (zVE:PySem.W.nsIn K mainGlobals "ValueError" = some none)
  (gt:PySem.W.specialIn K (.builtin "object.__class__") "__get__" = some (some (.builtin "getset_descriptor.__get__")))
  (tk:PySem.W.takesIn K (.builtin "object.__class__")=some true)
  (aC0:PySem.W.nsIn K mainGlobals "NoFraction" = some (some (.ref q0)))
  (tC0:PySem.W.typeIn K (.ref q0)=some (.type "type"))
  (dC0:PySem.W.clsIn K q0=some qd0)
  (aC1:PySem.W.nsIn K mainGlobals "NoStuffs" = some (some (.ref q1)))
  (tC1:PySem.W.typeIn K (.ref q1)=some (.type "type"))
  (dC1:PySem.W.clsIn K q1=some qd1)
  (aC2:PySem.W.nsIn K mainGlobals "NoHeap" = some (some (.ref q2)))
  (tC2:PySem.W.typeIn K (.ref q2)=some (.type "type"))
  (dC2:PySem.W.clsIn K q2=some qd2)
  (aC3:PySem.W.nsIn K mainGlobals "NoPace" = some (some (.ref q3)))
  (tC3:PySem.W.typeIn K (.ref q3)=some (.type "type"))
  (dC3:PySem.W.clsIn K q3=some qd3)
  (aC4:PySem.W.nsIn K mainGlobals "NoTurnings" = some (some (.ref q4)))
  (tC4:PySem.W.typeIn K (.ref q4)=some (.type "type"))
  (dC4:PySem.W.clsIn K q4=some qd4)
  (aC5:PySem.W.nsIn K mainGlobals "NoTurning" = some (some (.ref q5)))
  (tC5:PySem.W.typeIn K (.ref q5)=some (.type "type"))
  (dC5:PySem.W.clsIn K q5=some qd5)
  (aC6:PySem.W.nsIn K mainGlobals "NoText" = some (some (.ref q6)))
  (tC6:PySem.W.typeIn K (.ref q6)=some (.type "type"))
  (dC6:PySem.W.clsIn K q6=some qd6)
  (aC7:PySem.W.nsIn K mainGlobals "NotNow" = some (some (.ref q7)))
  (tC7:PySem.W.typeIn K (.ref q7)=some (.type "type"))
  (dC7:PySem.W.clsIn K q7=some qd7)
  (aC8:PySem.W.nsIn K mainGlobals "TooMany" = some (some (.ref q8)))
  (tC8:PySem.W.typeIn K (.ref q8)=some (.type "type"))
  (dC8:PySem.W.clsIn K q8=some qd8)
  (aC9:PySem.W.nsIn K mainGlobals "NoDrain" = some (some (.ref q9)))
  (tC9:PySem.W.typeIn K (.ref q9)=some (.type "type"))
  (dC9:PySem.W.clsIn K q9=some qd9)
  (aC10:PySem.W.nsIn K mainGlobals "NotEven" = some (some (.ref q10)))
  (tC10:PySem.W.typeIn K (.ref q10)=some (.type "type"))
  (dC10:PySem.W.clsIn K q10=some qd10)
  (aC11:PySem.W.nsIn K mainGlobals "NoStuff" = some (some (.ref q11)))
  (tC11:PySem.W.typeIn K (.ref q11)=some (.type "type"))
  (dC11:PySem.W.clsIn K q11=some qd11)
  (aC12:PySem.W.nsIn K mainGlobals "NoPieces" = some (some (.ref q12)))
  (tC12:PySem.W.typeIn K (.ref q12)=some (.type "type"))
  (dC12:PySem.W.clsIn K q12=some qd12)
  (aC13:PySem.W.nsIn K mainGlobals "NoDeed" = some (some (.ref q13)))
  (tC13:PySem.W.typeIn K (.ref q13)=some (.type "type"))
  (dC13:PySem.W.clsIn K q13=some qd13)
  (x9:PySem.W.excIn K q9 [.type "ValueError",.type "Exception",.type "BaseException",.type "object"] "ValueError.__new__" = true)
  (v9:PySem.W.mroIn K q9 (.ref V)=some true)
  (ga9:PySem.W.findIn K (.ref q9) "__getattribute__" = some (some (.builtin "BaseException.__getattribute__")))
  (hk9:PySem.W.findIn K (.ref q9) "__getattr__" = some none)
  (cl9:PySem.W.findIn K (.ref q9) "__class__" = some (some (.builtin "object.__class__")))
  (ob9:PySem.W.mroIn K q9 (.type "object")=some true)
  (be9:PySem.W.mroIn K q9 (.type "BaseException")=some true)
  (ve9:PySem.W.mroIn K q9 (.type "ValueError")=some true)
  (m9_0:PySem.W.mroIn K q9 (.ref q0)=some false)
  (m9_1:PySem.W.mroIn K q9 (.ref q1)=some false)
  (m9_2:PySem.W.mroIn K q9 (.ref q2)=some false)
  (m9_3:PySem.W.mroIn K q9 (.ref q3)=some false)
  (m9_4:PySem.W.mroIn K q9 (.ref q4)=some false)
  (m9_5:PySem.W.mroIn K q9 (.ref q5)=some false)
  (m9_6:PySem.W.mroIn K q9 (.ref q6)=some false)
  (m9_7:PySem.W.mroIn K q9 (.ref q7)=some false)
  (m9_8:PySem.W.mroIn K q9 (.ref q8)=some false)
  (m9_9:PySem.W.mroIn K q9 (.ref q9)=some true)
  (m9_10:PySem.W.mroIn K q9 (.ref q10)=some false)
  (m9_11:PySem.W.mroIn K q9 (.ref q11)=some false)
  (m9_12:PySem.W.mroIn K q9 (.ref q12)=some false)
  (m9_13:PySem.W.mroIn K q9 (.ref q13)=some false)
  ,∃fd:FuncData,(∀(s:Shared) (v:Value),BindsTo s fd ⟨[v],[]⟩ [("_law_script",v)])∧∀base:Heap,K.In base→base.Ns mainGlobals mg→FnOk PySem.Challenge.rw_vesselhall_k73_guards.prog w K mg base CX0 9 fa fd ["_law_script"] (spLaw K)):PySem.Challenge.rw_vesselhall_k73_guards.Holds:=by
 refine said ?_
 w_on
 refine PySem.W.holds_open (q:=qv) (loose:=[]) (Xt:=fun s=>PySem.W.xlAt qv [] s && PySem.W.recOk [] s) (XP:=PySem.W.XL qv []) (Yf:=PySem.W.Hook.obs (PySem.W.kHook pre.heap_1 asl asl_ok)) (Ya:=PySem.W.Hook.val (PySem.W.kHook pre.heap_1 asl asl_ok)) (YP:=PySem.W.Hook.says (PySem.W.kHook pre.heap_1 asl asl_ok)) (N:=9840) hooks (PySem.W.Hook.of (PySem.W.kHook pre.heap_1 asl asl_ok)) (PySem.W.Hook.keeps (PySem.W.kHook pre.heap_1 asl asl_ok)) (fun s e=>PySem.W.xl_of s (Bool.and_eq_true_iff.mp e).1) PySem.W.XL.keeps (by rfl) (by rfl) (by rfl) (fun s e=>PySem.W.recFacts_of (Bool.and_eq_true_iff.mp e).2) (by rfl) (by first | assumption | decide +kernel) (by decide +kernel) ⟨rfl,rfl,rfl,rfl,rfl,by decide +kernel⟩ ?_ ?_
 ·clear hW;w_witness2
 k_fill
 refine walk (l:=PySem.Challenge.rw_vesselhall_k73_guards) rfl rfl (fun w h Y=>PySem.W.kIn_of Y) ?F
 case F =>
  intro w mg fa h KX G hmg;refine' hW KX G hmg ?p0 ?p1 ?p2 ?p3 ?p4 ?p5 ?p6 ?p7 ?p8 ?p9 ?p10 ?p11 ?p12 ?p13 ?p14 ?p15 ?p16 ?p17 ?p18 ?p19 ?p20 ?p21 ?p22 ?p23 ?p24 ?p25 ?p26 ?p27 ?p28 ?p29 ?p30 ?p31 ?p32 ?p33 ?p34 ?p35 ?p36 ?p37 ?p38 ?p39 ?p40 ?p41 ?p42 ?p43 ?p44 ?p45 ?p46 ?p47 ?p48 ?p49 ?p50 ?z_len ?z_abs ?z_range ?z_isinstance ?z_int ?z_bool ?z_tuple ?z_list ?z_str ?z_zip ?z_set ?z_all ?z_any ?z_min ?z_max ?z_sum ?z_sorted ?z_enumerate ?z_reversed ?z_dict ?z_ord ?z_divmod ?aV ?xV ?zVE ?gt ?tk ?aC0 ?tC0 ?dC0 ?aC1 ?tC1 ?dC1 ?aC2 ?tC2 ?dC2 ?aC3 ?tC3 ?dC3 ?aC4 ?tC4 ?dC4 ?aC5 ?tC5 ?dC5 ?aC6 ?tC6 ?dC6 ?aC7 ?tC7 ?dC7 ?aC8 ?tC8 ?dC8 ?aC9 ?tC9 ?dC9 ?aC10 ?tC10 ?dC10 ?aC11 ?tC11 ?dC11 ?aC12 ?tC12 ?dC12 ?aC13 ?tC13 ?dC13 ?x9 ?v9 ?ga9 ?hk9 ?cl9 ?ob9 ?be9 ?ve9 ?m9_0 ?m9_1 ?m9_2 ?m9_3 ?m9_4 ?m9_5 ?m9_6 ?m9_7 ?m9_8 ?m9_9 ?m9_10 ?m9_11 ?m9_12 ?m9_13
  (case p0=>walk_at "fnIn")
  (case p1=>walk_at "fnIn")
  (case p2=>walk_at "fnIn")
  (case p3=>walk_at "fnIn")
  (case p4=>walk_at "fnIn")
  (case p5=>walk_at "fnIn")
  (case p6=>walk_at "fnIn")
  (case p7=>walk_at "fnIn")
  (case p8=>walk_at "fnIn")
  (case p9=>walk_at "fnIn")
  (case p10=>walk_at "fnIn")
  (case p11=>walk_at "fnIn")
  (case p12=>walk_at "fnIn")
  (case p13=>walk_at "fnIn")
  (case p14=>walk_at "fnIn")
  (case p15=>walk_at "fnIn")
  (case p16=>walk_at "fnIn")
  (case p17=>walk_at "fnIn")
  (case p18=>walk_at "fnIn")
  (case p19=>walk_at "fnIn")
  (case p20=>walk_at "fnIn")
  (case p21=>walk_at "fnIn")
  (case p22=>walk_at "fnIn")
  (case p23=>walk_at "fnIn")
  (case p24=>walk_at "fnIn")
  (case p25=>walk_at "fnIn")
  (case p26=>walk_at "fnIn")
  (case p27=>walk_at "fnIn")
  (case p28=>walk_at "fnIn")
  (case p29=>walk_at "fnIn")
  (case p30=>walk_at "fnIn")
  (case p31=>walk_at "fnIn")
  (case p32=>walk_at "fnIn")
  (case p33=>walk_at "fnIn")
  (case p34=>walk_at "fnIn")
  (case p35=>walk_at "fnIn")
  (case p36=>walk_at "fnIn")
  (case p37=>walk_at "fnIn")
  (case p38=>walk_at "fnIn")
  (case p39=>walk_at "fnIn")
  (case p40=>walk_at "fnIn")
  (case p41=>walk_at "fnIn")
  (case p42=>walk_at "fnIn")
  (case p43=>walk_at "fnIn")
  (case p44=>walk_at "fnIn")
  (case p45=>walk_at "fnIn")
  (case p46=>walk_at "fnIn")
  (case p47=>walk_at "fnIn")
  (case p48=>walk_at "fnIn")
  (case p49=>walk_at "fnIn")
  (case p50=>walk_at "fnIn")
  (case z_len=>k_is)
  (case z_abs=>k_is)
  (case z_range=>k_is)
  (case z_isinstance=>k_is)
  (case z_int=>k_is)
  (case z_bool=>k_is)
  (case z_tuple=>k_is)
  (case z_list=>k_is)
  (case z_str=>k_is)
  (case z_zip=>k_is)
  (case z_set=>k_is)
  (case z_all=>k_is)
  (case z_any=>k_is)
  (case z_min=>k_is)
  (case z_max=>k_is)
  (case z_sum=>k_is)
  (case z_sorted=>k_is)
  (case z_enumerate=>k_is)
  (case z_reversed=>k_is)
  (case z_dict=>k_is)
  (case z_ord=>k_is)
  (case z_divmod=>k_is)
  (case aV=>k_is)
  (case xV=>k_exc)
  (case zVE=>k_is)
  (case gt=>k_is)
  (case tk=>k_is)
  (case aC0=>k_is)
  (case tC0=>k_is)
  (case dC0=>k_is)
  (case aC1=>k_is)
  (case tC1=>k_is)
  (case dC1=>k_is)
  (case aC2=>k_is)
  (case tC2=>k_is)
  (case dC2=>k_is)
  (case aC3=>k_is)
  (case tC3=>k_is)
  (case dC3=>k_is)
  (case aC4=>k_is)
  (case tC4=>k_is)
  (case dC4=>k_is)
  (case aC5=>k_is)
  (case tC5=>k_is)
  (case dC5=>k_is)
  (case aC6=>k_is)
  (case tC6=>k_is)
  (case dC6=>k_is)
  (case aC7=>k_is)
  (case tC7=>k_is)
  (case dC7=>k_is)
  (case aC8=>k_is)
  (case tC8=>k_is)
  (case dC8=>k_is)
  (case aC9=>k_is)
  (case tC9=>k_is)
  (case dC9=>k_is)
  (case aC10=>k_is)
  (case tC10=>k_is)
  (case dC10=>k_is)
  (case aC11=>k_is)
  (case tC11=>k_is)
  (case dC11=>k_is)
  (case aC12=>k_is)
  (case tC12=>k_is)
  (case dC12=>k_is)
  (case aC13=>k_is)
  (case tC13=>k_is)
  (case dC13=>k_is)
  (case x9=>k_exc)
  (case v9=>k_is)
  (case ga9=>k_is)
  (case hk9=>k_is)
  (case cl9=>k_is)
  (case ob9=>k_is)
  (case be9=>k_is)
  (case ve9=>k_is)
  (case m9_0=>k_is)
  (case m9_1=>k_is)
  (case m9_2=>k_is)
  (case m9_3=>k_is)
  (case m9_4=>k_is)
  (case m9_5=>k_is)
  (case m9_6=>k_is)
  (case m9_7=>k_is)
  (case m9_8=>k_is)
  (case m9_9=>k_is)
  (case m9_10=>k_is)
  (case m9_11=>k_is)
  (case m9_12=>k_is)
  (case m9_13=>k_is)
end K73H
set_option Elab.async false
set_option linter.all false
set_option maxRecDepth 100000
set_option maxHeartbeats 4000000
namespace L2
open PySem PySem.Spec PyProof.Rows
section
variable{X:Cx}{a b c:Expr}{ta tb tc:TE}{pos:Pos}
def Zh1(_ j:Int):Prop:=j≠0∧j.natAbs < 2 ^ 9000
theorem JZ:OpR X (binaryOp .FloorDiv) (rI Zh1 fun i j=>.int (i.fdiv j)):=opI fun i j _ _ _ _ _ hc q=>by
 have h0:j.natAbs≠0:=by have:=hc.1;omega
 exact floordiv_int hc.1 q (.inl (PyProof.noPylong_of_log2 ((Nat.log2_lt h0).mpr hc.2)))
def Zex(i j:Int):Prop:=i.natAbs < 2 ^ 20000∧j.natAbs < 2 ^ 20000
theorem Zex.ok{i j:Int}(h:Zex i j):IntMulOk i j:=by
 have h1:=PyProof.Rows.intBits_le h.1;have h2:=PyProof.Rows.intBits_le h.2;unfold IntMulOk
 have e:Builtin.Int.intTooBig ((Builtin.Int.intBits i:Int)+(Builtin.Int.intBits j:Int))=false:=by
  unfold Builtin.Int.intTooBig;refine decide_eq_false ?_
  have:(40000:Int)≤bitsLine:=by decide
  omega
 intro q;rw [e] at q;simp at q
theorem j9:OpR X (binaryOp .Mult) (rI Zex fun i j=>.int (i*j)):=opI fun _ _ _ _ _ _ _ hc q=>mul_int q hc.ok
theorem Jv:Ul X (.builtin "isinstance") (fun xs H Q=>∃x n t b,xs=[x,.ty n]∧TyOf X.K H x t∧PySem.W.kitOne X.K t (.type n)=some b∧Q (.bl b) H):=by
 intro pins s σ H xs us Q I r h;obtain ⟨x,n,t,b,rfl,ty,e,q⟩:=h;obtain ⟨u,u',rfl,rx,ry⟩:=vals2 r;obtain rfl:u'=Value.type n:=ry;exact Zct I rx ty e fun tk=>⟨.bl b,H,I.tok tk,rfl,q⟩
end
structure FnC (P:Program) (w:World) (K:Fg) (mg:Str→Option Value) (base:Heap) (CX:CXT) (k:Nat) (x:Str) (ps:List Str) (sp:Sp):Prop where
 ex:∃(f:Addr) (fd:FuncData),FnOk P w K mg base CX k f fd ps sp∧mg x=some (.ref f)∧PySem.W.keepIn K (.ref f)=true∧Binds K fd ps []
structure ZR (K:Fg) (mg:Str→Option Value) (x:Str) (st:Stmt) (ps:List Str):Prop where
 ex:∃(f:Addr) (fd:FuncData),Fun K x x st f fd∧mg x=some (.ref f)∧Binds K fd ps []
section
variable{P:Program}{w:World}{K:Fg}{mg:Str→Option Value}{base:Heap}{CX:CXT}
theorem Zee{h:Heap}{x:Str}{st:Stmt}{f:Addr}{ps:List Str}{oc:Value}{od an:Option Addr}{osl:Array (Option Value)}{kV doc pm cdv ct:Value}(X:K.In h)(G:h.Ns mainGlobals mg)
  (a:PySem.W.nsIn K mainGlobals x=some (some (.ref f))) (l:K.lookup f=some ⟨oc,od,.func (PySem.W.fnOf x x (Je st) (YC st) (Ze st) .none kV doc pm an cdv ct),osl⟩)
  (c:PySem.W.codeIn K cdv x=true) (k:PySem.W.keepIn K (.ref f)=true)
  (hb:∀(kV doc pm:Value) (an:Option Addr) (cdv ct:Value) (us:List Value),us.length=ps.length→bindArgs (PySem.W.fnOf x x (Je st) (YC st) (Ze st) .none kV doc pm an cdv ct) ⟨us,[]⟩=pure (ps.zip us)) :
  ZR K mg x st ps:=by
 have F:=ZeQ (K:=K) (x:=x) (qual:=x) (st:=st) l c k;exact ⟨f,_,F,PySem.W.mg_of X G a,F.binds hb⟩
theorem FnC.mono{j k:Nat}{x:Str}{ps:List Str}{sp:Sp}(F:FnC P w K mg base CX j x ps sp)(h:j≤k):FnC P w K mg base CX k x ps sp :=
 let ⟨f,fd,G,r⟩:=F.ex
 ⟨f,fd,G.mono h,r⟩
theorem ZR.ok{x:Str}{st:Stmt}{N ps:List Str}{k:Nat}{sp:Sp}(F:ZR K mg x st ps)(S:Zu N ps (Ze st))(len:∀vs H Q E,sp vs H Q E→vs.length=ps.length)
  (hbody:∀(f:Addr) (cdv:Value) (A:Around) (outer:List Env) (s:Shared) (H:Hp) (vs:List V) (Q:VK) (E:XK),Room k (A.deeper (envOfC x (Ze st) s.heap.objs.size f cdv))→sp vs H Q E →
   ∃t,PSs (cxOf CX0 P w K mg base N x (Ze st) f cdv A outer s H E).nox (YC st) t∧t { nx:=fun _ H'=>Q .non H',rt:=Q } (start N vs) H):FnC P w K mg base CX0 (k+1) x ps sp:=by
 obtain ⟨f,fd,G,hm,hb⟩:=F.ex;exact ⟨f,fd,G.ok S len (hbody f),hm,G.kp,hb⟩
end
section
variable{X:Cx}{CX:CXT}{k:Nat}{ps:List Str}{sp:Sp}{E:XK}{x:Str}{p pos:Pos}{e:Expr}{es:List Expr}{t:TA}
theorem G7(F:FnC X.prog X.w X.K X.mg X.base CX k x ps sp)(hr:Room k X.A)(hg:Gl X x)(hx:Passes CX X E)(ha:PA X (e :: es) t)
  (hdb:(x == ("__debug__" : Str))=false:=by decide) (he:starEach (e :: es) X.env=(false,eval e X.env) :: starEach es X.env:=by rfl) (hpl:(backTo pos (starEach es X.env)).any (·.1)=false:=by rfl) :
  PE X (.Call (.Name x p) (e :: es) [] pos) (ZG sp [] E t):=by
 obtain ⟨f,fd,G,hm,kp,hb⟩:=F.ex;exact Zfv G hr hg hm kp hb .nil hx ha hdb he hpl
theorem Zk(F:FnC X.prog X.w X.K X.mg X.base CX0 k x ps sp)(hr:Room k X.A)(hg:Gl X x)(ha:PA X (e :: es) t)
  (hdb:(x == ("__debug__" : Str))=false:=by decide) (he:starEach (e :: es) X.env=(false,eval e X.env) :: starEach es X.env:=by rfl) (hpl:(backTo pos (starEach es X.env)).any (·.1)=false:=by rfl) :
  PE X (.Call (.Name x p) (e :: es) [] pos) (ZG sp [] E0 t):=G7 F hr hg Zh5 ha hdb he hpl
end
theorem Zi{H:Hp}{p:Addr}(h:H p=none)(o:HO):Same H (upd H p o):=fun b u q=>by rw [ZD (Zz q h)];exact q
theorem Same.seqT{K:Fg}{H H':Hp}{a:Addr}{xs:List V}(e:Same H H')(h:SqT K H a xs):SqT K H' a xs:=by
 rcases h with (h | ⟨o,h⟩) | h
 ·exact .inl (.inl (e _ _ h))
 ·exact .inl (.inr ⟨o,e _ _ h⟩)
 ·exact .inr h
structure Blt (mg:Str→Option Value):Prop where
 len:mg "len" = none
 abs:mg "abs" = none
 range:mg "range" = none
 isinstance:mg "isinstance" = none
 int:mg "int" = none
 bool:mg "bool" = none
 tuple:mg "tuple" = none
 list:mg "list" = none
 str:mg "str" = none
 zip:mg "zip" = none
 set:mg "set" = none
 all:mg "all" = none
 any:mg "any" = none
 min:mg "min" = none
 max:mg "max" = none
 sum:mg "sum" = none
 sorted:mg "sorted" = none
 enumerate:mg "enumerate" = none
 reversed:mg "reversed" = none
 dict:mg "dict" = none
 ord:mg "ord" = none
 divmod:mg "divmod" = none
theorem Z0:bootBuiltins "len" = some (.builtin "len"):=by decide +kernel
theorem Zc_:bootBuiltins "abs" = some (.builtin "abs"):=by decide +kernel
theorem Zr:bootBuiltins "isinstance" = some (.builtin "isinstance"):=by decide +kernel
theorem Zc9:bootBuiltins "int" = some (.type "int"):=by decide +kernel
theorem uw:bootBuiltins "bool" = some (.type "bool"):=by decide +kernel
theorem Jb:bootBuiltins "tuple" = some (.type "tuple"):=by decide +kernel
theorem qJ:bootBuiltins "list" = some (.type "list"):=by decide +kernel
theorem yR:bootBuiltins "ValueError" = some (.type "ValueError"):=by decide +kernel
theorem ZhJ{y z:Int}{A B:Prop}(h1:y≠z→A)(h2:y=z→B):if (!decide (V.int y=V.int z))=true then A else B:=by
 by_cases h:y=z
 ·subst h;rw [decide_eq_true rfl];exact iteF (h2 rfl)
 ·rw [decide_eq_false (fun q=>h (V.int.inj q))];exact iteT (h1 h)
theorem iteD{c:Prop}[Decidable c]{A B:Prop}(h1:c→A)(h2 : ¬ c→B):if decide c=true then A else B:=by
 by_cases h:c
 ·rw [decide_eq_true h];exact iteT (h1 h)
 ·rw [decide_eq_false h];exact iteF (h2 h)
abbrev qAdd:R2:=rI0 fun i j=>.int (i+j)
abbrev qSub:R2:=rI0 fun i j=>.int (i - j)
abbrev ZdH:R2:=rI Zex fun i j=>.int (i*j)
abbrev rDiv:R2:=rI CDiv fun i j=>.int (i / j)
abbrev zY:R2:=rI Zh1 fun i j=>.int (i.fdiv j)
abbrev rMod:R2:=rI (fun _ j=>0 < j) fun i j=>.int (i % j)
abbrev ZgF:R2:=rI (fun _ j=>j≠0) fun i j=>.int (i.fmod j)
abbrev rPow:R2:=rI CPow fun i j=>.int (i ^ j.toNat)
abbrev rLt:R2:=rI0 fun i j=>.bl (decide (i < j))
abbrev rLe:R2:=rI0 fun i j=>.bl (decide (i≤j))
abbrev rGt:R2:=rI0 fun i j=>.bl (decide (j < i))
abbrev rGe:R2:=rI0 fun i j=>.bl (decide (j≤i))
abbrev rIsN:R2:=fun x y H Q=>y = .non∧Q (.bl (decide (x = .non))) H
abbrev Zfn:R2:=fun x y H Q=>y = .non∧Q (.bl (!decide (x = .non))) H
abbrev Zfq:R2:=fun x y H Q=>∃i j,x = .str i∧y = .str j∧i.length+j.length≤sizeLine∧Q (.str (i++j)) H
abbrev rAbs:List V→Hp→VK→Prop:=fun xs H Q=>∃i,xs=[.int i]∧Q (.int (if i < 0 then -i else i)) H
abbrev Yh(K:Fg):List V→Hp→VK→Prop:=fun xs H Q=>∃p ys,xs=[.ref p]∧(SqL K H p ys∨SqT K H p ys)∧Q (.int ys.length) H
abbrev rIsi(K:Fg):List V→Hp→VK→Prop:=fun xs H Q=>∃x n t b,xs=[x,.ty n]∧TyOf K H x t∧PySem.W.kitOne K t (.type n)=some b∧Q (.bl b) H
abbrev ZgG:List V→Hp→VK→Prop:=fun xs H Q=>(∃i,xs=[.int i]∧Q (.int i) H)∨∃k,xs=[.bl k]∧Q (.int (if k then 1 else 0)) H
abbrev GJ(K:Fg):List V→Hp→VK→Prop:=fun xs H Q=>∃p ys,xs=[.ref p]∧((SqL K H p ys∧∀l,H l=none→Q (.ref l) (upd H l (.tup ys)))∨(SqT K H p ys∧Q (.ref p) H))
abbrev Gi(K:Fg):List V→Hp→VK→Prop:=fun xs H Q=>∃p ys,xs=[.ref p]∧(SqL K H p ys∨SqT K H p ys)∧∀l,H l=none→Q (.ref l) (upd H l (.lst ys))
theorem Zhh {K:Fg}:PySem.W.kitOne K (.type "int") (.type "int")=some true:=by rfl
theorem Zhi {K:Fg}:PySem.W.kitOne K (.type "int") (.type "bool")=some false:=by
 show PySem.W.kitCls K (.type "int") (.type "bool")=some false;unfold PySem.W.kitCls
 kernel_rfl
theorem Zhg {K:Fg}:PySem.W.kitOne K (.type "tuple") (.type "tuple")=some true:=by rfl
theorem Zhj {K:Fg}:PySem.W.kitOne K (.type "bool") (.type "bool")=some true:=by rfl
def AtP(φ : Obj→Prop)(e:Addr)(h:Heap):Prop:=∃o,h.get? e=some o∧φ o
def NoF(φ : Obj→Prop):Prop:=∀o f,φ o→φ (Obj.mapFields f o)
section
variable{M:Model}{A:Around}{E:Value→Shared→Prop}{s:Shared}{φ : Obj→Prop}{base:Heap}{env:Env}{outer:List Env}{L e:Addr}{cls a0:Value}{Q:Unit→Shared→Prop}
theorem jD{oe:Obj}{vs:Array Value}{head:Value}{more:Bool}(hfr:A.frames=some (env :: outer))(hl:s.heap.FunFrames base (env :: outer))(hf:env.frame=some L)(he:s.heap.get? e=some oe)(hd:oe.data = .fields vs)(hsz:1 < vs.size)
  (k:∀(h1:Heap) (ot:Obj) (ts:Array Value),Heap.SlotsOnly ((env :: outer).filterMap (·.frame)) s.heap h1→h1.get? e=some oe→ot.data = .fields ts→ts[3]? = some (rawInt L)→Q () { s with heap:=(h1.push ot).update e (Obj.mapFields (·.setIfInBounds 1 (.ref h1.objs.size))) }) :
  wpAny M A (do setField (.ref e) 1 (← EntryCells.newEntry head (← frameOf env) .none (rawInt L) .none (← entryPlaceOf L more))) Q E s:=by
 have ne:e∉(env :: outer).filterMap (·.frame):=fun hm=>by
  obtain ⟨_,o,ho,z⟩:=hl.mem hm;cases he.symm.trans ho;exact z vs hd
 refine wpAny_bind (wpAny_frameOf_fun hfr hl hf fun h1 S=>wpAny_bind (wpAny_entryPlaceOf fun pl P=>?_));have e1:h1.get? e=some oe:=(S.2.1 e ne).trans he;unfold EntryCells.newEntry newFields;refine wpAny_bind (wpAny_newObj_type (wpAny_setField (Heap.get?_push_of_some _ e1) hd hsz (k h1 _ _ S e1 rfl ?_)) (P.sizeOk5 _ _ _ _ _));rcases P with rfl | ⟨_,_,_,_,_,_,_,rfl⟩ <;> simp
theorem qF{oe:Obj}{vs:Array Value}{h h1:Heap}{ot:Obj}{ts:Array Value}(nf:NoF φ)(p : φ oe)(hl:h.FunFrames base (env :: outer))(he:h.get? e=some oe)(hkb:base.StaysIn h)(hen:base.get? e=none)(hd:oe.data = .fields vs)(hsz:1 < vs.size)(h0:vs[0]? = some a0)
  (S:Heap.SlotsOnly ((env :: outer).filterMap (·.frame)) h h1) (e1:h1.get? e=some oe) (dt:ot.data = .fields ts) (t3:ts[3]? = some (rawInt L)) :
  Heap.NotedW base (env :: outer) e oe.cls a0 (rawInt L) h ((h1.push ot).update e (Obj.mapFields (·.setIfInBounds 1 (.ref h1.objs.size))))∧AtP φ e ((h1.push ot).update e (Obj.mapFields (·.setIfInBounds 1 (.ref h1.objs.size)))):=by
 have Te:h1.objs.size≠e:=Nat.ne_of_gt (Heap.lt_size e1);have d3:=Obj.data_mapFields hd (·.setIfInBounds 1 (Value.ref h1.objs.size));have e3:=Heap.get?_update_self (Obj.mapFields (·.setIfInBounds 1 (Value.ref h1.objs.size))) (Heap.get?_push_of_some ot e1) (Obj.isFreed_of_fields d3);have keep:∀b o,b≠e→h1.get? b=some o→((h1.push ot).update e (Obj.mapFields (·.setIfInBounds 1 (.ref h1.objs.size)))).get? b=some o:=fun b o n q=>(Heap.get?_update_other _ _ (Ne.symm n)).trans (Heap.get?_push_of_some _ q)
 have nr:∀b o,h.get? b=some o→(∀us,o.data≠.fields us)→b≠e:=fun b o q z w=>by
  subst w;cases he.symm.trans q;exact z vs hd
 have kb1:base.StaysIn h1:=fun b o q=>(S.2.1 b fun hm=>by rw [(hl.mem hm).1] at q;cases q).trans (hkb b o q)
 refine ⟨⟨fun b o q=>keep b o (fun z=>by rw [z,hen] at q;cases q) (kb1 b o q),hl.of_keeps fun b o q z=>?_,?_,fun b o q z=>?_⟩,⟨_,e3,nf _ _ p⟩⟩
 ·obtain ⟨sl,w⟩:=S.2.2 b o q;exact ⟨_,keep b _ (nr b o q z) w,rfl⟩
 ·refine ⟨_,_,h1.objs.size,ot,ts,e3,⟨Obj.cls_mapFields _ _,?_⟩,d3,by simp [hsz],kb1.fresh,Te,(Heap.get?_update_other _ _ (Ne.symm Te)).trans (Heap.get?_push_size h1 (Obj.isFreed_of_fields dt)),dt,t3⟩;rw [Array.getElem?_setIfInBounds_ne (by decide)];exact h0
 ·obtain ⟨sl,w⟩:=S.2.2 b o q;exact ⟨sl,keep b _ (nr b o q z) w⟩
theorem ZaQ{oe:Obj}{vs:Array Value}(nf:NoF φ)(p : φ oe)(hfr:A.frames=some (env :: outer))(hl:s.heap.FunFrames base (env :: outer))(hf:env.frame=some L)(he:s.heap.get? e=some oe)(hkb:base.StaysIn s.heap)(hen:base.get? e=none)(hd:oe.data = .fields vs)(h1:vs[1]? = some .none)(h0:vs[0]? = some a0)
  (k:∀h',Heap.NotedW base (env :: outer) e oe.cls a0 (rawInt L) s.heap h'→AtP φ e h'→Q () { s with heap:=h' }):wpAny M A (noteFrame (.ref e) env) Q E s:=by
 have hsz:=(Array.getElem?_eq_some_iff.mp h1).1;unfold noteFrame;simp only [hf];refine wpAny_bind (wpAny_field he hd h1 ?_);rw [if_neg (by decide)];exact jD hfr hl hf he hd hsz fun g1 ot ts S e1 dt t3=>(qF nf p hl he hkb hen hd hsz h0 S e1 dt t3).elim (k _)
theorem Fi(nf:NoF φ)(p:AtP φ e s.heap)(hfr:A.frames=some (env :: outer))(hl:s.heap.FunFrames base (env :: outer))(hf:env.frame=some L)(ht:s.heap.TracedW base e cls a0)(hkb:base.StaysIn s.heap)(hen:base.get? e=none)
  (k:∀h',Heap.NotedW base (env :: outer) e cls a0 (rawInt L) s.heap h'→AtP φ e h'→Q () { s with heap:=h' }):wpAny M A (noteFrame (.ref e) env) Q E s:=by
 obtain ⟨oe,vs,T,oT,ts,he,⟨rfl,h0⟩,hd,h1,nT,Te,hT,dT,h3⟩:=ht;obtain ⟨o',q',p⟩:=p;cases he.symm.trans q';have hsz:=(Array.getElem?_eq_some_iff.mp h1).1;unfold noteFrame;simp only [hf];refine wpAny_bind (wpAny_field he hd h1 ?_);rw [if_pos (by simp)];refine wpAny_bind (wpAny_field hT dT h3 ?_);rw [if_neg (by simp [rawInt])];refine wpAny_bind (wpAny_setField hT dT (Array.getElem?_eq_some_iff.mp h3).1 ?_);have other:∀b,b≠T→(s.heap.update T (Obj.mapFields (·.setIfInBounds 3 Value.none))).get? b=s.heap.get? b:=fun b n=>Heap.get?_update_other _ _ (Ne.symm n)
 have nr:∀b o,s.heap.get? b=some o→(∀us,o.data≠.fields us)→b≠T:=fun b o q z w=>by
  subst w;cases hT.symm.trans q;exact z ts dT
 have hl2:Heap.FunFrames (s.heap.update T (Obj.mapFields (·.setIfInBounds 3 Value.none))) base (env :: outer):=hl.of_keeps fun b o q z=>⟨o,(other b (nr b o q z)).trans q,rfl⟩
 have he2:=(other e (Ne.symm Te)).trans he;have kb2:base.StaysIn (s.heap.update T (Obj.mapFields (·.setIfInBounds 3 Value.none))):=fun b o q=>(other b fun z=>by rw [z,nT] at q;cases q).trans (hkb b o q)
 refine jD (s:={ s with heap:=s.heap.update T (Obj.mapFields (·.setIfInBounds 3 Value.none)) }) hfr hl2 hf he2 hd hsz fun g1 ot us S e1 dt t3=>?_
 obtain ⟨⟨x1,x2,x3,x4⟩,x5⟩:=qF nf p hl2 he2 kb2 hen hd hsz h0 S e1 dt t3;exact k _ ⟨x1,x2,x3,fun b o q z=>x4 b o ((other b (nr b o q z)).trans q) z⟩ x5
theorem Jt{l:List Env}{fl:Value}(p:AtP φ e s.heap)(hkb:base.StaysIn s.heap)(hl:s.heap.FunFrames base l)(ht:s.heap.TracedAtW base e cls a0 fl)
  (k:∀h',base.StaysIn h'→h'.FunFrames base l→h'.TracedW base e cls a0→s.heap.UpToSlots h'→AtP φ e h'→Q () { s with heap:=h' }):wpAny M A (setFlight (.ref e) none) Q E s:=by
 obtain ⟨oe,vs,T,oT,ts,he,hc,hd,h1,nT,Te,hT,dT,h3⟩:=ht;obtain ⟨o',q',p⟩:=p;cases he.symm.trans q';have hsz:=(Array.getElem?_eq_some_iff.mp h3).1;have other:∀b,b≠T→(s.heap.update T (Obj.mapFields (·.setIfInBounds 3 ((none:Option Addr).elim Value.none fun f=>rawInt f)))).get? b=s.heap.get? b:=fun b n=>Heap.get?_update_other _ _ (Ne.symm n)
 have nr:∀b o,s.heap.get? b=some o→(∀us,o.data≠.fields us)→b≠T:=fun b o q z w=>by
  subst w;cases hT.symm.trans q;exact z ts dT
 unfold setFlight;refine wpAny_bind (wpAny_field he hd h1 ?_);rw [if_pos (by simp)];refine wpAny_setField hT dT hsz (k _ (fun b o q=>(other b fun z=>by rw [z,nT] at q;cases q).trans (hkb b o q)) (hl.of_keeps fun b o q z=>⟨o,(other b (nr b o q z)).trans q,rfl⟩) ?_ (fun b o q z=>⟨o.slots,(other b (nr b o q z)).trans q⟩) ⟨_,(other e (Ne.symm Te)).trans he,p⟩);exact ⟨oe,vs,T,_,_,(other e (Ne.symm Te)).trans he,hc,hd,h1,nT,Te,Heap.get?_update_self _ hT (Obj.isFreed_of_fields (Obj.data_mapFields dT _)),Obj.data_mapFields dT _,by simp [hsz]⟩
def FlyP(φ : Obj→Prop)(B:Heap)(l:List Env)(e:Addr)(cls a0:Value)(h:Heap):Prop:=Heap.FlyingW B l e cls a0 h∧AtP φ e h
theorem Fx{h:Heap}{oe:Obj}{vs:Array Value}(nf:NoF φ)(p : φ oe)(hfr:A.frames=some (env :: outer))(hl:s.heap.FunFrames base (env :: outer))(hf:env.frame=some L)(he:s.heap.get? e=some oe)(hkb:base.StaysIn s.heap)(hen:base.get? e=none)(hd:oe.data = .fields vs)(h1:vs[1]? = some .none)(h0:vs[0]? = some a0)
  (k:∀h',FlyP φ base outer e oe.cls a0 h'→s.heap.UpToSlots h'→Q () { s with heap:=h' }):wpAny M A (leaving env (.ref e)) Q E s:=by
 unfold leaving;refine wpAny_bind (ZaQ nf p hfr hl hf he hkb hen hd h1 h0 fun g1 ⟨x1,x2,x3,x4⟩ x5=>?_);refine Jt (s:={ s with heap:=g1 }) x5 x1 x2 x3 fun g2 y1 y2 y3 y4 y5=>k g2 ⟨⟨y1,hen,y2.2.2,y3⟩,y5⟩ (Heap.UpToSlots.trans (h₂:=g1) x4 y4)
theorem Za1(nf:NoF φ)(hfr:A.frames=some (env :: outer))(hf:env.frame=some L)(fl:FlyP φ base (env :: outer) e cls a0 s.heap)(k:∀h',FlyP φ base outer e cls a0 h'→s.heap.UpToSlots h'→Q () { s with heap:=h' }):wpAny M A (leaving env (.ref e)) Q E s:=by
 obtain ⟨⟨f1,f2,f3,f4⟩,p⟩:=fl;unfold leaving;refine wpAny_bind (Fi nf p hfr f3 hf f4 f1 f2 fun g1 ⟨x1,x2,x3,x4⟩ x5=>?_);refine Jt (s:={ s with heap:=g1 }) x5 x1 x2 x3 fun g2 y1 y2 y3 y4 y5=>k g2 ⟨⟨y1,f2,y2.2.2,y3⟩,y5⟩ (Heap.UpToSlots.trans (h₂:=g1) x4 y4)
theorem Zb9(nf:NoF φ)(hfr:A.frames=some (env :: outer))(hf:env.frame=some L)(fl:FlyP φ base (env :: outer) e cls a0 s.heap)(k:∀h',Heap.HeldW base (env :: outer) e cls a0 L h'→AtP φ e h'→s.heap.UpToSlots h'→Q () { s with heap:=h' }):wpAny M A (noteFrame (.ref e) env) Q E s:=by
 obtain ⟨⟨f1,f2,f3,f4⟩,p⟩:=fl;exact Fi nf p hfr f3 hf f4 f1 f2 fun g1 ⟨x1,x2,x3,x4⟩ x5=>k g1 ⟨x1,f2,x2,x3⟩ x5 x4
theorem Zhf{l:List Env}(hh:Heap.HeldW base l e cls a0 L s.heap)(p:AtP φ e s.heap)(k:∀h',FlyP φ base l e cls a0 h'→s.heap.UpToSlots h'→Q () { s with heap:=h' }):wpAny M A (setFlight (.ref e) none) Q E s:=by
 obtain ⟨f1,f2,f3,f4⟩:=hh;exact Jt p f1 f3 f4 fun g2 y1 y2 y3 y4 y5=>k g2 ⟨⟨y1,f2,y2,y3⟩,y5⟩ y4
theorem Fy{l:List Env}(fl:FlyP φ base l e cls a0 s.heap)(k:∀h',FlyP φ base l e cls a0 h'→s.heap.UpToSlots h'→Q () { s with heap:=h' }):wpAny M A (setFlight (.ref e) none) Q E s:=by
 obtain ⟨⟨f1,f2,f3,f4⟩,p⟩:=fl;exact Jt p f1 f3 f4.at fun g2 y1 y2 y3 y4 y5=>k g2 ⟨⟨y1,f2,y2,y3⟩,y5⟩ y4
end
structure Gone (P:Program) (w:World) (outer:List Env) (H H':Hp) (h B h':Heap):Prop where
 hok:HOk P w H' B
 keep:∀b o,h.get? b=some o→H b=none→b∉frs outer→B.get? b=some o
 slot:∀b o,h.get? b=some o→H b=none→b∈frs outer→∃sl,h'.get? b=some { o with slots:=sl }
 free:∀b o,h.get? b=some o→H b=none→H' b=none
 there:∀b o,h.get? b=some o→b∉frs outer→∃o',B.get? b=some o'
 tups:∀b xs,H b=some (.tup xs)→H' b=some (.tup xs)
 frzs:∀b o u,H b=some (.frz o u)→H' b=some (.frz o u)
 tbls:∀b ps,H b=some (.tbl ps)→∃more,H' b=some (.tbl (ps++more))
def CXE(P:Program)(w:World):CXT:=fun outer H s E e s' =>
 ∃(ea C:Addr) (a0:Value) (B:Heap) (H':Hp) (d:Option Addr),e = .ref ea∧FlyP (fun o=>o.dict=d) B outer ea (.ref C) a0 s'.heap∧Gone P w outer H H' s.heap B s'.heap∧s'.os=s.os∧AllBare s'.gens∧E (.ref C) d H'
theorem yw{d:Option Addr}:NoF fun o=>o.dict=d:=fun o f h=>by
 obtain ⟨c,dd,da,sl⟩:=o;cases da <;> exact h
structure GZ (X:Cx):Prop where
 stk:X.stack=X.env :: X.outer
 frm:X.env.frame=some X.env.locals
 exs:X.ex=[]
section
variable{X:Cx}{pins:List (Addr×Obj)}{σ : St}{H:Hp}{s:Shared}
theorem GZ.frs(o:GZ X):frs X.stack=X.env.locals :: X.fs:=by
 rw [o.stk];unfold L2.frs;rw [List.filterMap_cons,o.frm];rfl
theorem Inv.old_ne(I:Inv X pins σ H s){b:Addr}{o:Obj}(e:X.s₀.heap.get? b=some o):b≠X.env.locals:=Nat.ne_of_lt (Nat.lt_of_lt_of_le (Heap.lt_size e) I.ok.above)
theorem Inv.yd(I:Inv X pins σ H s)(o:GZ X){b:Addr}{ob:Obj}(e:X.s₀.heap.get? b=some ob)(h:b∉X.fs):b∉L2.frs X.stack:=by
 rw [o.frs];intro z;rcases List.mem_cons.mp z with z | z
 ·exact I.old_ne e z
 ·exact h z
theorem Inv.yF(I:Inv X pins σ H s){b:Addr}{o:Obj}(hb:b∈X.fs)(e:s.heap.get? b=some o):∀vs,o.data≠.fields vs:=by
 obtain ⟨_,o',e',d⟩:=I.funs.mem hb;rw [e] at e';cases e';exact d
theorem Za2{M:Model}{E:XK}{E':Value→Shared→Prop}{h2:Heap}{e C:Addr}{args:List Value}(I:Inv X pins σ H s)(o:GZ X)(hx:Heap.MadeExcOf s.heap h2 e (.ref C) args)(hE:E (.ref C) none H) :
  wpAny M X.A (leaving X.env (.ref e)) (fun _ s''=>CXE X.prog X.w X.outer X.H₀ X.s₀ E (.ref e) s'') E' { s with heap:=h2 }:=by
 have FF:s.heap.FunFrames X.base (X.env :: X.outer):=o.stk ▸ I.stack;have hfr:X.A.frames=some (X.env :: X.outer):=o.stk ▸ I.ok.frames;have hin:∀env∈(X.env :: X.outer),∀b,env.frame=some b→b∈(X.env :: X.outer).filterMap (·.frame):=fun env he b hb=>List.mem_filterMap.mpr ⟨env,he,hb⟩
 have eqf:(X.env :: X.outer).filterMap (·.frame)=L2.frs X.stack:=by rw [o.stk];rfl
 have nox:∀b:Addr,b∉X.ex:=fun b z=>by rw [o.exs] at z;cases z
 have getB:∀{b:Addr} {ob:Obj},s.heap.get? b=some ob→b∉L2.frs X.stack→(PySem.W.hideAll s.heap ((X.env :: X.outer).filterMap (·.frame))).get? b=some ob:=fun {b ob} q n=>PySem.W.hideAll_get _ q (by rw [eqf];exact n)
 obtain ⟨t,he,_,_⟩:=hx.there;have st2:Heap.StaysIn (PySem.W.hideAll s.heap ((X.env :: X.outer).filterMap (·.frame))) h2:=fun b ob q=>hx.keeps b ob (PySem.W.of_hideAll _ q)
 have ne2:(PySem.W.hideAll s.heap ((X.env :: X.outer).filterMap (·.frame))).get? e=none:=by
  cases z:(PySem.W.hideAll s.heap ((X.env :: X.outer).filterMap (·.frame))).get? e with
  | none=>rfl
  | some ob=>have:=PySem.W.of_hideAll _ z;rw [hx.new] at this;cases this
 refine Fx (s:={ s with heap:=h2 }) (φ:=fun o=>o.dict=none) (base:=PySem.W.hideAll s.heap ((X.env :: X.outer).filterMap (·.frame))) (h:=s.heap) yw rfl hfr ((PySem.W.funFrames_hide FF hin).of_keeps fun b ob q _=>⟨ob,hx.keeps b ob q,rfl⟩) o.frm he st2 ne2 rfl rfl rfl fun h' fl up=>?_
 refine ⟨e,C,_,_,H,none,rfl,fl,⟨fun a ob q=>?_,fun b ob q n hb=>?_,fun b ob q n hb=>?_,fun b ob q n=>?_,fun b ob q hb=>?_,I.base.tups,I.base.frzs,I.base.tbls⟩,I.os,I.bare,hE⟩
 ·refine (I.hok a ob q).stay (fun b u hb g=>getB g fun z=>?_) (fun _ z=>z) fun _ _ z=>z
  have fz:=I.Wv b z;rcases hb with hb | hb
  ·rw [hb,q] at fz;cases fz
  ·rw [hb] at fz;cases fz
 ·exact getB (I.base.keep b ob q n hb (nox b)) (I.yd o q hb)
 ·obtain ⟨sl,e1⟩:=I.base.slot b ob q n hb (nox b);obtain ⟨sl',e2⟩:=up b _ (hx.keeps b _ e1) (fun vs=>I.yF hb e1 vs);exact ⟨sl',e2⟩
 ·exact I.base.free b ob q n (nox b)
 ·obtain ⟨o',e1⟩:=I.base.there b ob q (nox b);exact ⟨o',getB e1 (I.yd o q hb)⟩
theorem Zd3{M:Model}{E:XK}{E':Value→Shared→Prop}{e:Value}{s':Shared}(I:Inv X pins σ H s)(o:GZ X)(h:CXE X.prog X.w X.stack H s E e s') :
  wpAny M X.A (leaving X.env e) (fun _ s''=>CXE X.prog X.w X.outer X.H₀ X.s₀ E e s'') E' s':=by
 obtain ⟨ea,C,a0,B,H',d,rfl,fl,g,os,bare,hE⟩:=h;have hfr:X.A.frames=some (X.env :: X.outer):=o.stk ▸ I.ok.frames;have nox:∀b:Addr,b∉X.ex:=fun b z=>by rw [o.exs] at z;cases z
 have inS:∀{b:Addr},b∈X.fs→b∈L2.frs X.stack:=fun hb=>by rw [o.frs];exact List.mem_cons_of_mem _ hb
 rw [o.stk] at fl;refine Za1 yw hfr o.frm fl fun h' fl' up=>?_
 refine ⟨ea,C,a0,B,H',d,rfl,fl',⟨g.hok,fun b ob q n hb=>?_,fun b ob q n hb=>?_,fun b ob q n=>?_,fun b ob q hb=>?_,fun b xs q=>g.tups b xs (I.base.tups b xs q),fun b ob u q=>g.frzs b ob u (I.base.frzs b ob u q),fun b ps q=>?_⟩,os.trans I.os,bare,hE⟩
 ·exact g.keep b ob (I.base.keep b ob q n hb (nox b)) (I.base.free b ob q n (nox b)) (I.yd o q hb)
 ·obtain ⟨sl,e1⟩:=I.base.slot b ob q n hb (nox b);obtain ⟨sl',e2⟩:=g.slot b _ e1 (I.base.free b ob q n (nox b)) (inS hb);obtain ⟨sl'',e3⟩:=up b _ e2 (fun vs=>I.yF hb e1 vs);exact ⟨sl'',e3⟩
 ·obtain ⟨o',e1⟩:=I.base.there b ob q (nox b);exact g.free b o' e1 (I.base.free b ob q n (nox b))
 ·obtain ⟨o',e1⟩:=I.base.there b ob q (nox b);exact g.there b o' e1 (I.yd o q hb)
 ·obtain ⟨m1,e1⟩:=I.base.tbls b ps q;obtain ⟨m2,e2⟩:=g.tbls b _ e1;exact ⟨m1++m2,by rw [e2,Array.append_assoc]⟩
end
theorem ZdM{CX:CXT}{P:Program}{w:World}{K:Fg}{mg:Str→Option Value}{base:Heap}{N:List Str}{qual:Str}{sc:Scope}{f:Addr}{cd:Value}{A:Around}{outer:List Env}{s:Shared}{H:Hp}{E:XK} :
  GZ (cxOf CX P w K mg base N qual sc f cd A outer s H E):=⟨rfl,rfl,rfl⟩
def Lv(X:Cx)(E:XK):Prop:=GZ X∧(∀e s',wpAny (model X.prog X.w) X.A (leaving X.env e) (fun _ s''=>CXE X.prog X.w X.outer X.H₀ X.s₀ E e s'') (fun e' s''=>CXE X.prog X.w X.outer X.H₀ X.s₀ E e' s'') s'→X.xe e s')
theorem Zg_{P:Program}{w:World}{K:Fg}{mg:Str→Option Value}{base:Heap}{N:List Str}{qual:Str}{sc:Scope}{f:Addr}{cd:Value}{A:Around}{outer:List Env}{s:Shared}{H:Hp}{E:XK} :
  Lv (cxOf (CXE P w) P w K mg base N qual sc f cd A outer s H E) E:=⟨ZdM,fun _ _ h=>h⟩
theorem ZhL{CX:CXT}{P:Program}{w:World}{K:Fg}{mg:Str→Option Value}{base:Heap}{N:List Str}{qual:Str}{sc:Scope}{f:Addr}{cd:Value}{A:Around}{outer:List Env}{s:Shared}{H:Hp}{E:XK} :
  PassesOwn (model P w) (cxOf CX P w K mg base N qual sc f cd A outer s H E).A (cxOf CX P w K mg base N qual sc f cd A outer s H E).env (cxOf CX P w K mg base N qual sc f cd A outer s H E).xe:=PassesOwn.leaving
theorem Lv.pass{X:Cx}{E:XK}(l:Lv X E):Passes (CXE X.prog X.w) X E:=fun _ _ _ _ _ _ I h=>l.2 _ _ (Zd3 I l.1 h)
theorem ZR.okE{P:Program}{w:World}{K:Fg}{mg:Str→Option Value}{base:Heap}{x:Str}{st:Stmt}{N ps:List Str}{k:Nat}{sp:Sp}(F:ZR K mg x st ps)(S:Zu N ps (Ze st))(len:∀vs H Q E,sp vs H Q E→vs.length=ps.length)
  (hbody:∀(f:Addr) (cdv:Value) (A:Around) (outer:List Env) (s:Shared) (H:Hp) (vs:List V) (Q:VK) (E:XK),Room k (A.deeper (envOfC x (Ze st) s.heap.objs.size f cdv))→sp vs H Q E →
   ∃t,PSs (cxOf (CXE P w) P w K mg base N x (Ze st) f cdv A outer s H E) (YC st) t∧t { nx:=fun _ H'=>Q .non H',rt:=Q } (start N vs) H):FnC P w K mg base (CXE P w) (k+1) x ps sp:=by
 obtain ⟨f,fd,G,hm,hb⟩:=F.ex;obtain ⟨oc,od,kV,doc,pm,an,cdv,ct,osl,rfl,lk,hcd⟩:=G.ex;exact ⟨f,_,ZhP lk hcd S len fun A outer s H vs Q E hr hsp=>hbody f cdv A outer s H vs Q E hr hsp,hm,G.kp,hb⟩
structure ExcC (K:Fg) (mg:Str→Option Value) (x:Str) (C:Addr) (bmB:List Value) (newId:String):Prop where
 at_:mg x=some (.ref C)
 ok:PySem.W.excIn K C bmB newId=true
theorem uf{K:Fg}{h:Heap}{C:Addr}{bmB:List Value}{newId:String}(X:K.In h)(ok:PySem.W.excIn K C bmB newId=true) :
  ∃tl N nm q bs hdct sn sub ab col dd k0 k1 k2 k3 k5 mN,h.get? C=some (excClassObj nm q C N bs tl hdct sn sub ab col dd k0 k1 k2 k3 k5 newId)∧h.Ns N mN∧mN "__init__" = none∧OwnTail h bmB tl:=by
 unfold PySem.W.excIn at ok;split at ok
 ·rename_i dd cd sl lk;split at ok
  ·rename_i C1 tl s0 s1 s2 s3 nw s5 em es;simp only [Bool.and_eq_true,beq_iff_eq,Bool.not_eq_true'] at ok;obtain ⟨⟨⟨⟨⟨e1,e2⟩,nodel⟩,own⟩,isns⟩,noi⟩:=ok;subst e1 e2;obtain ⟨nm,bs,mro,ns,qn,hd,sn,sub,ab,col,del⟩:=cd;have em':mro=Value.ref C1 :: tl:=em;have nodel':del=false:=nodel;subst em' nodel';obtain ⟨sll⟩:=sl;have es':sll=[s0,s1,s2,s3,some (Value.builtin nw),s5]:=es;subst es';exact ⟨tl,ns,nm,qn,bs,hd,sn,sub,ab,col,dd,s0,s1,s2,s3,s5,_,X _ _ lk,Heap.Ns.of_isNs (PySem.W.isNs_of_in X isns),PySem.W.nsMap_none_of_in X isns noi,PySem.W.tail_of_in X own⟩
  ·exact absurd ok Bool.false_ne_true
 ·exact absurd ok Bool.false_ne_true
def Zbp(E:XK)(C:Addr)(te:TE):TS:=fun _ σ H=>te σ H fun x H1=>[x].length=1∧E (.ref C) none H1
theorem uT{X:Cx}{E:XK}{x:Str}{C:Addr}{B newId initId:String}{bmB:List Value}{np cpos pos:Pos}{e₀ : Expr}{te:TE}(l:Lv X E)(hc:X.calm=true)(hg:Gl X x)(c:ExcC X.K X.mg x C bmB newId)(FB:ExcBaseFacts B newId initId bmB)(he:PE X e₀ te)
  (hst:starEach [e₀] X.env=[(false,eval e₀ X.env)]:=by rfl) (hdb:(x == ("__debug__" : Str))=false:=by decide) :
  PS X (.Raise (some (.Call (.Name x np) [e₀] [] cpos)) none pos) (Zbp E C te):=by
 intro pins s σ H D I h;obtain ⟨tl,N,nm,q,bs,hdct,sn,sub,ab,col,dd,k0,k1,k2,k3,k5,mN,hC,hN,hni,T⟩:=uf I.mod.kin c.ok
 refine wpAny_Raise_call_subT (C:=C) (nm:=nm) (q:=q) (N:=N) (bs:=bs) (bm:=tl) (hdct:=hdct) (sn:=sn) (sub:=sub) (ab:=ab) (col:=col) (dd:=dd) (k0:=k0) (k1:=k1) (k2:=k2) (k3:=k3) (k5:=k5)
  FB (mN:=mN) (T.hasType FB.hasBase) (I.ok.hd hc) (by rw [hst];rfl) hni (qw I hg c.at_ ⟨rfl,?_⟩ hdb)
 have ha:PA X [e₀] (Zc te tNil):=Za he Zb (by rw [hst];rfl);have r:=ha cpos pins s σ H (fun vs H1=>vs.length=1∧E (.ref C) none H1) I h;rw [hst] at r ⊢;refine Calls.evalArgs_plain (wpAny_mono r (fun us s2 ⟨vs,H1,I2,rv,hl,hE⟩=>⟨rfl,by rw [← rv.length,hl];decide,I2.bk _ _ hC,hN.keeps I2.bk,T.keeps I2.bk,fun h' e hx=>l.2 _ _ (Za2 I2 l.1 hx hE)⟩) fun _ _ y=>y)
section
variable{M:Model}{A:Around}{E:Value→Shared→Prop}{h:Heap}{g:Array GenState}{d:Drawn}{t:Nat}{os:OsState}
theorem ug{nm q nm' q':Str}{C N D N':Addr}{bs tl bs' tl':List Value}{hd hd':Bool}{sn sn':List Str}{su su':List Value}{ab ab':Bool}{co co':Option Bool}{dd dd':Option Addr}{k0 k1 k2 k3 k5 j0 j1 j2 j3 j5:Option Value}{nw nw':String}
  {e:Addr} {oe:Obj} {Q:Bool→Shared→Prop}
  (hC:h.get? C=some (excClassObj nm q C N bs tl hd sn su ab co dd k0 k1 k2 k3 k5 nw)) (hD:h.get? D=some (excClassObj nm' q' D N' bs' tl' hd' sn' su' ab' co' dd' j0 j1 j2 j3 j5 nw'))
  (he:h.get? e=some oe) (hc:oe.cls = .ref C) (hb:tl'.contains (.type "BaseException")=true) (hs:(Value.ref C :: tl).contains (.ref D)=true)
  (hq:Q true ⟨h,g,d,t,os⟩):wpAny M A (excMatches (.ref e) (.ref D)) Q E ⟨h,g,d,t,os⟩:=by
 have hB:(Value.ref D :: tl').contains (.type "BaseException")=true:=by rw [List.contains_cons,hb,Bool.or_true]
 have nt:=tc_notTuple;unfold excMatches
 repeat (first
  | (with_reducible refine wpAny_loadPart_at he ?_;rw [hc])
  | with_reducible refine wpAny_loadPart_at hD ?_
  | with_reducible refine wpAny_loadPart_at hC ?_
  | (with_reducible refine wpAny_isSubtype_exc hD ?_;rw [hB])
  | (with_reducible refine wpAny_isSubtype_exc hC ?_;rw [hs])
  | wp_step)
 exact hq
end
theorem YQ.there{P:Program}{w:World}{H:Hp}{h:Heap}{a:Addr}{o:HO}(x:YQ P w H h a o):∃ob,h.get? a=some ob:=by
 cases o with
 | lst xs=>obtain ⟨_,_,_,_,e⟩:=x;exact ⟨_,e⟩
 | tup xs=>obtain ⟨_,_,_,ob,e,_⟩:=x;exact ⟨ob,e⟩
 | dK kvs=>obtain ⟨_,_,_,_,ob,_,_,e,_⟩:=x;exact ⟨ob,e⟩
 | dT kvs=>obtain ⟨_,_,_,_,ob,_,_,e,_⟩:=x;exact ⟨ob,e⟩
 | set S n=>obtain ⟨ob,_,_,_,e,_⟩:=x;exact ⟨ob,e⟩
 | ins C dx fs=>obtain ⟨_,_,_,e,_⟩:=x;exact ⟨_,e⟩
 | own y=>exact x
 | xd fs=>obtain ⟨_,⟨ob,_,_,e,_⟩,_⟩:=x;exact ⟨ob,e⟩
 | rng lo hi=>obtain ⟨_,_,_,e⟩:=x;exact ⟨_,e⟩
 | frz ob u=>obtain ⟨e,_⟩:=x;exact ⟨_,e⟩
 | tbl ps=>exact ⟨_,(show h.get? a=some _ from x)⟩
 | met f y=>exact ⟨_,(show h.get? a=some _ from x)⟩
 | ext φ=>obtain ⟨_,e,_⟩:=x;exact e
section
variable{X:Cx}{pins:List (Addr×Obj)}{σ : St}{H H':Hp}{s s':Shared}
theorem Inv.back{B h5:Heap}(I:Inv X pins σ H s)(o:GZ X)(g:Gone X.prog X.w X.stack H H' s.heap B s'.heap)(hos:s'.os=s.os)(bare:AllBare s'.gens)(st:B.StaysIn h5)(up:s'.heap.UpToSlots h5) :
  Inv X pins σ H' { s' with heap:=h5 }:=by
 obtain ⟨hh,g',d',t',os'⟩:=s';have e:os'=s.os:=hos;subst e;have inS:∀{b:Addr},b∈X.fs→b∈L2.frs X.stack:=fun hb=>by rw [o.frs];exact List.mem_cons_of_mem _ hb
 have inL:X.env.locals∈L2.frs X.stack:=by rw [o.frs];exact List.mem_cons_self
 have out:∀{b:Addr},b≠X.env.locals→b∉X.fs→b∉L2.frs X.stack:=fun h1 h2 z=>by
  rw [o.frs] at z;rcases List.mem_cons.mp z with z | z
  ·exact h1 z
  ·exact h2 z
 have nsL:∀m,s.heap.Ns X.env.locals m→h5.Ns X.env.locals m:=fun m hm=>by
  obtain ⟨ob,es,ep,ho,hd,r⟩:=hm;obtain ⟨sl,e1⟩:=g.slot _ ob ho I.free inL;obtain ⟨sl',e2⟩:=up _ _ e1 (fun vs z=>by have z':ob.data = .fields vs:=z;rw [hd] at z';cases z');exact ⟨_,es,ep,e2,hd,r⟩
 suffices r:Inv X pins σ H' { s with heap:=h5,gens:=g',drawn:=d',toks:=t' } from r
 refine I.step (ch:=[]) (fun _ z=>nomatch z) (fun b ob nl nf _ e n=>st b ob (g.keep b ob e n (out nl nf))) (fun b ob nl hb _ e n=>?_) (fun b ob _ e n=>g.free b ob e n) (fun b ob _ e=>?_) g.tups g.frzs g.tbls nsL (g.hok.kept st) bare
 ·obtain ⟨sl,e1⟩:=g.slot b ob e n (inS hb);obtain ⟨sl',e2⟩:=up b _ e1 (fun vs=>I.yF hb e vs);exact ⟨sl',e2⟩
 ·by_cases hb:b∈L2.frs X.stack
  ·have hb':=hb;rw [o.frs] at hb';rcases List.mem_cons.mp hb' with z | z
   ·obtain ⟨m,hn,_⟩:=I.loc;obtain ⟨o',_,_,ho',_⟩:=nsL m hn;exact ⟨o',by rw [z];exact ho'⟩
   ·obtain ⟨sl,e1⟩:=g.slot b ob e (I.Wv b hb) hb;obtain ⟨sl',e2⟩:=up b _ e1 (fun vs=>I.yF z e vs);exact ⟨_,e2⟩
  ·obtain ⟨o',e1⟩:=g.there b ob e hb;exact ⟨o',st b o' e1⟩
def excO(e C:Addr):HO:=.ext fun h=>∃oe,h.get? e=some oe∧oe.cls = .ref C
theorem Zgd{P:Program}{w:World}{h:Heap}{e C:Addr}{oe:Obj}(he:h.get? e=some oe)(hc:oe.cls = .ref C):YQ P w H h e (excO e C) :=
 ⟨⟨oe,he,hc⟩,⟨oe,he⟩,fun _ _ ⟨o,h1,h2⟩ k=>⟨o,k o h1,h2⟩⟩
def excD(e C dx:Addr):HO:=.ext fun h=>∃oe,h.get? e=some oe∧oe.cls = .ref C∧oe.dict=some dx∧PySem.W.notCls oe=true
theorem Zge{P:Program}{w:World}{h:Heap}{e C dx:Addr}{oe:Obj}(he:h.get? e=some oe)(hc:oe.cls = .ref C)(hd:oe.dict=some dx)(hn:PySem.W.notCls oe=true):YQ P w H h e (excD e C dx) :=
 ⟨⟨oe,he,hc,hd,hn⟩,⟨oe,he⟩,fun _ _ ⟨o,h1,h2⟩ k=>⟨o,k o h1,h2⟩⟩
@[reducible] def Zej (e C:Addr):Option Addr→HO
 | none=>excO e C
 | some dx=>excD e C dx
theorem Zei{P:Program}{w:World}{h:Heap}{e C:Addr}{oe:Obj}{d:Option Addr}(he:h.get? e=some oe)(hc:oe.cls = .ref C)(hd:oe.dict=d)(hn:PySem.W.notCls oe=true):YQ P w H h e (Zej e C d):=by
 cases d with
 | none=>exact Zgd he hc
 | some dx=>exact Zge he hc hd hn
def ExH(H:Hp)(e C:Addr):Prop:=∃d,H e=some (Zej e C d)
theorem ExH.of{e C:Addr}(h:H e=some (excO e C)):ExH H e C:=⟨none,h⟩
theorem Inv.track{e:Addr}{o:HO}(I:Inv X pins σ H s)(hn:H e=none)(h0:X.s₀.heap.get? e=none)(hL:e≠X.env.locals)(hc:∀x c,X.env.cells.lookup x=some c→c≠e)(hp:∀p∈X.pn++pins,p.1≠e)
  (ok:YQ X.prog X.w (upd H e o) s.heap e o):Inv X pins σ (upd H e o) s:=by
 have ne:∀b u,H b=some u→b≠e:=fun b u q z=>by rw [z,hn] at q;cases q
 refine ⟨I.ok,I.os,I.bare,⟨I.base.keep,I.base.slot,fun b ob q n hx=>?_,I.base.there,fun b xs q=>?_,fun b ob u q=>?_,fun b ps q=>?_⟩,I.loc,I.cell,?_,fun x c q=>?_,fun p hq=>?_,fun a u q=>?_,I.len⟩
 ·rw [ZD (fun z=>by rw [z,h0] at q;cases q)];exact I.base.free b ob q n hx
 ·have z:=I.base.tups b xs q;rw [ZD (ne _ _ z)];exact z
 ·have z:=I.base.frzs b ob u q;rw [ZD (ne _ _ z)];exact z
 ·obtain ⟨m,z⟩:=I.base.tbls b ps q;exact ⟨m,by rw [ZD (ne _ _ z)];exact z⟩
 ·rw [ZD (Ne.symm hL)];exact I.free
 ·rw [ZD (hc x c q)];exact I.freeC x c q
 ·obtain ⟨q1,q2,q3⟩:=I.pin p hq;exact ⟨q1,by rw [ZD (hp p hq)];exact q2,q3⟩
 ·by_cases z:a=e
  ·subst z;rw [Zh] at q;cases q;exact ok
  ·rw [ZD z] at q;exact (I.hok a u q).stay (fun _ _ _ r=>r) (fun b r=>by rw [ZD (ne _ _ r)];exact r) fun b xs r=>by rw [ZD (ne _ _ r)];exact r
theorem Zdg{M:Model}{A:Around}{E:Value→Shared→Prop}{i:Nat}{n:Str}{pos:Pos}{Q:Unit→Shared→Prop}(I:Inv X pins σ H s)(hN:X.N.Nodup)(hi:X.N[i]? = some n)(hk:X.env.scope.names.lookup n=some .local)
  (h:∀s',Inv X pins (σ.set i none) H s'→Q () s'):wpAny M A (do bindName X.env n .none;unbindBehindTheSuite X.env n pos) Q E s:=by
 have hcls:(X.env.scope.kind == .class || (X.env.scope.kind == .module && X.env.locals != X.env.globals))=false:=by rw [I.ok.kind];rfl
 have hiσ : i < σ.length:=by rw [I.len];exact (List.getElem?_eq_some_iff.mp hi).1
 refine wpAny_bind (wpAny_bindName (JX I hN hi (.inl hk) (v:=.non) rfl (fun s1 I1=>?_) (.inr hk)));obtain ⟨m,hn,hl⟩:=id I1.loc;obtain ⟨u,ru,lu⟩:=hl i n .non hi (by rw [List.getElem?_set_self hiσ]) (.inl hk)
 have hmn:m n=some u:=by
  rcases lu with ⟨_,z⟩ | ⟨z,_⟩
  ·exact z
  ·have k':X.env.kindOf n=some .local:=hk;rcases z with z | z <;> (rw [k'] at z;cases z)
 unfold unbindBehindTheSuite;refine wpAny_onRaise (wpAny_unbindName_local hk hn hmn hcls fun h' v hn' hs=>?_);have cne:=I1.cne;obtain ⟨oL,_,_,hoL,_⟩:=id hn
 have tracked:HOk X.prog X.w H h':=fun b ob e=>by
  refine (I1.hok b ob e).stay (fun c w' hc q=>(hs.2 c ?_).trans q) (fun _ q=>q) fun _ _ q=>q
  rintro rfl;have fr:=I1.free;rcases hc with hc | hc
  ·rw [hc] at fr;rw [fr] at e;cases e
  ·rw [fr] at hc;cases hc
 refine h _ ⟨I.ok,I1.os,I1.bare,⟨fun b ob e n hb hx=>?_,fun b ob e n hb hx=>?_,I1.base.free,fun b ob e hx=>?_,I1.base.tups,I1.base.frzs,I1.base.tbls⟩,⟨_,hn',fun j y v' e1 e2 e3=>?_⟩,fun y c e=>?_,I1.free,I1.freeC,fun p hp=>?_,tracked,by simpa using I.len⟩
 ·exact (hs.2 b (I.old_ne e)).trans (I1.base.keep b ob e n hb hx)
 ·obtain ⟨sl,e1⟩:=I1.base.slot b ob e n hb hx;exact ⟨sl,(hs.2 b (I.old_ne e)).trans e1⟩
 ·obtain ⟨o',e1⟩:=I1.base.there b ob e hx;exact ⟨o',(hs.2 b (I.old_ne e)).trans e1⟩
 ·by_cases hj:j=i
  ·subst hj;rw [List.getElem?_set_self hiσ] at e2;cases e2
  ·rw [List.getElem?_set_ne (Ne.symm hj)] at e2;obtain ⟨u',r',q⟩:=hl j y v' e1 (by rw [List.getElem?_set_ne (Ne.symm hj)];exact e2) e3;refine ⟨u',r',?_⟩;rcases q with ⟨k,e⟩ | ⟨k,c,e,z⟩
   ·refine .inl ⟨k,?_⟩;have ny:y≠n:=fun z=>hj (yu hN e1 (z ▸ hi))
    simp [ny,e]
   ·exact .inr ⟨k,c,e,z.sameBut hs (cne y c e)⟩
 ·obtain ⟨w',z⟩:=I1.cell y c e;exact ⟨w',z.sameBut hs (cne y c e)⟩
 ·obtain ⟨e,n',ne,nf,d⟩:=I1.pin p hp;exact ⟨(hs.2 p.1 ne).trans e,n',ne,nf,d⟩
abbrev Cx.marked(X:Cx)(e:Addr):Cx:={ X with A:=X.A.mark (some (.ref e)),calm:=false,xe:=fun _ _=>False }
theorem Inv.marked(I:Inv X pins σ H s)(e:Addr):Inv (X.marked e) pins σ H s :=
 ⟨⟨I.ok.mod,I.ok.kind,I.ok.glob,I.ok.blt,I.ok.above,I.ok.inj,I.ok.has,I.ok.cab,fun z=>Bool.noConfusion z,I.ok.frames,I.ok.stk,I.ok.exf,I.ok.bs,I.ok.bsz,I.ok.noex,I.ok.exfs,I.ok.funs,I.ok.frf⟩,
  I.os,I.bare,I.base,I.loc,I.cell,I.free,I.freeC,I.pin,I.hok,I.len⟩
theorem Inv.unmarked{e:Addr}(I0:X.Ok)(I:Inv (X.marked e) pins σ H s):Inv X pins σ H s:=⟨I0,I.os,I.bare,I.base,I.loc,I.cell,I.free,I.freeC,I.pin,I.hok,I.len⟩
end
structure ExcV (K:Fg) (mg:Str→Option Value) (x:Str) (D:Addr):Prop where
 at_:mg x=some (.ref D)
 ok:∃bmB newId,PySem.W.excIn K D bmB newId=true∧bmB.contains (.type "BaseException")=true
def Zh0(K:Fg)(C:Addr):Prop:=∀h:Heap,K.In h→∃tl N nm q bs hdct sn sub ab col dd k0 k1 k2 k3 k5 newId,h.get? C=some (excClassObj nm q C N bs tl hdct sn sub ab col dd k0 k1 k2 k3 k5 newId)
theorem Zek{K:Fg}{C:Addr}{bmB:List Value}{newId:String}(ok:PySem.W.excIn K C bmB newId=true):Zh0 K C:=fun h X=>by
 obtain ⟨tl,N,nm,q,bs,hdct,sn,sub,ab,col,dd,k0,k1,k2,k3,k5,mN,hC,_⟩:=uf X ok;exact ⟨tl,N,nm,q,bs,hdct,sn,sub,ab,col,dd,k0,k1,k2,k3,k5,newId,hC⟩
def SubC(K:Fg)(C D:Addr):Prop:=Zh0 K C∧PySem.W.mroIn K C (.ref D)=some true
theorem ZfE{K:Fg}{h:Heap}{C D N:Addr}{nm q:Str}{bs tl:List Value}{hd:Bool}{sn:List Str}{su:List Value}{ab:Bool}{co:Option Bool}{dd:Option Addr}{k0 k1 k2 k3 k5:Option Value}{nw:String}(X:K.In h)
  (hC:h.get? C=some (excClassObj nm q C N bs tl hd sn su ab co dd k0 k1 k2 k3 k5 nw)) (e:PySem.W.mroIn K C (.ref D)=some true):(Value.ref C :: tl).contains (.ref D)=true:=by
 obtain ⟨cd,a,b⟩:=Option.bind_eq_some_iff.mp e;unfold PySem.W.clsIn at a;split at a
 ·rename_i c1 d1 cd1 s1 lk;cases a;have z:=(X _ _ lk).symm.trans hC;unfold excClassObj at z;cases z;split at b
  ·cases b
  ·exact Option.some.inj b
 ·cases a
section
variable{X:Cx}{pins:List (Addr×Obj)}{σ : St}{H:Hp}{s s':Shared}
def Zc2(K:Fg)(Dv:Addr)(n y:Nat)(D:Ends)(σ : St):XK:=fun c d H2=>∃C,c = .ref C∧SubC K C Dv∧∀e,H2 e=none→D.nx (((σ.set n (some (.ref e))).set y (some (.ref e))).set n none) (upd H2 e (Zej e C d))
theorem caught{v:Str}{Dv:Addr}{n y:Nat}{xn xy:Str}{D:Ends}{vp p1 p2 p3 pos:Pos}{e:Value}(I:Inv X pins σ H s)(o:GZ X)(hg:Gl X v)(V:ExcV X.K X.mg v Dv)(hN:X.N.Nodup)(hn:X.N[n]? = some xn)(hy:X.N[y]? = some xy)
  (ln:X.env.scope.names.lookup xn=some .local) (ly:X.env.scope.names.lookup xy=some .local) (hnd:(xn == ("__debug__" : Str))=false) (hnc:(xn == ("__classdict__" : Str))=false)
  (hsw:swapsWith (.Name xn p2) (some (.Name xy p1)) p3.line X.env=pure false)
  (h:CXE X.prog X.w X.stack H s (Zc2 X.K Dv n y D σ) e s') (hdb:(v == ("__debug__" : Str))=false:=by decide) :
  wpAny (model X.prog X.w) X.A (noteFrame e X.env) (fun _ s₂=>wpAny (model X.prog X.w) X.A (setFlight e none) (fun _ s₃ =>
   wpAny (model X.prog X.w) X.A (handleBy e X.env [.ExceptHandler (some (.Name v vp)) (some xn) [.Assign [.Name xy p1] (.Name xn p2) p3] pos]) (SP X pins D) X.xe s₃) X.xe s₂) X.xe s':=by
 obtain ⟨ea,C,a0,B,H',d,rfl,fl,g,hos,bare,C',eC,⟨okC,mro⟩,k⟩:=h;cases eC;have hfr:X.A.frames=some (X.env :: X.outer):=o.stk ▸ I.ok.frames;rw [o.stk] at fl;have be:B.get? ea=none:=fl.1.2.1;refine Zb9 yw hfr o.frm fl fun h4 held4 at4 up4=>?_
 refine Zhf (s:={ s' with heap:=h4 }) held4 at4 fun h5 fl5 up5=>?_
 have up45:=up4.trans up5;have I5:Inv X pins σ H' { s' with heap:=h5 }:=I.back o g hos bare fl5.1.1 up45;obtain ⟨oe5,he5,hc5⟩:=fl5.1.there;have I5m:=I5.marked ea;refine wpAny_handleBy_cons (codeAny_handlers_test (qw (X:=X.marked ea) I5m hg V.at_ ?_ hdb)) (by intro q;cases q);obtain ⟨tl,N,nm,q,bs,hdct,sn,sub,ab,col,dd,k0,k1,k2,k3,k5,nwC,hC⟩:=okC _ I5.kIn;obtain ⟨bmV,nwV,okV,hbV⟩:=V.ok;obtain ⟨tl',N',nm',q',bs',hdct',sn',sub',ab',col',dd',j0,j1,j2,j3,j5,mN',hV,_,_,TV⟩:=uf I5.kIn okV;refine ug hC hV he5 hc5 (TV.hasType hbV) (ZfE I5.kIn hC mro) ?_;refine codeAny_handlers_suite_as ?_;refine Fy (s:={ s' with heap:=h5 }) fl5 fun h6 fl6 up6=>?_
 have I6:Inv X pins σ H' { s' with heap:=h6 }:=I.back o g hos bare fl6.1.1 (up45.trans up6);obtain ⟨oe,ws,he,hc,hdat,_⟩:=fl6.1.first
 have hdx:oe.dict=d:=by
  obtain ⟨o',q1,q2⟩:=fl6.2;cases he.symm.trans q1;exact q2
 have se:s.heap.get? ea=none:=by
  cases z:s.heap.get? ea with
  | none=>rfl
  | some ob =>
   by_cases hb:ea∈L2.frs X.stack
   ·rw [o.stk] at hb;obtain ⟨_,o2,ho2,d2⟩:=fl6.1.2.2.1.mem hb;rw [he] at ho2;cases ho2;exact absurd hdat (d2 _)
   ·obtain ⟨o',e1⟩:=g.there ea ob z hb;rw [be] at e1;cases e1
 have s0e:X.s₀.heap.get? ea=none:=by
  cases z:X.s₀.heap.get? ea with
  | none=>rfl
  | some ob =>
   obtain ⟨o',e1⟩:=I.base.there ea ob z (fun q=>by rw [o.exs] at q;cases q);rw [se] at e1;cases e1
 have hL:ea≠X.env.locals:=fun z=>by
  obtain ⟨m,⟨ob,_,_,ho,_⟩,_⟩:=I.loc;rw [← z,se] at ho;cases ho
 have hcl:∀x c,X.env.cells.lookup x=some c→c≠ea:=fun x c q z=>by
  obtain ⟨v',ob,ho,_⟩:=I.cell x c q;rw [z,se] at ho;cases ho
 have hpn:∀p∈X.pn++pins,p.1≠ea:=fun p hp z=>by
  have ho:=(I.pin p hp).1;rw [z,se] at ho;cases ho
 have hfree:H' ea=none:=by
  cases z:H' ea with
  | none=>rfl
  | some u =>
   obtain ⟨ob,e1⟩:=(g.hok ea u z).there;rw [be] at e1;cases e1
 have I7:Inv X pins σ (upd H' ea (Zej ea C d)) { s' with heap:=h6 }:=I6.track hfree s0e hL hcl hpn (Zei he hc hdx (by unfold PySem.W.notCls;rw [hdat]));refine JX (X:=X.marked ea) (I7.marked ea) hN hn (.inl ln) (v:=.ref ea) rfl (fun s8 I8=>?_) (.inr ln);have suite:PSs (X.marked ea) [.Assign [.Name xy p1] (.Name xn p2) p3] (tAsg (tVar n) (Zn y)):=Zg (Zt hN hy (.inl ly) (ZeJ hn (.inl ln) hnd hnc) hsw (.inr ly));have hiσ : n < σ.length:=by rw [I.len];exact (List.getElem?_eq_some_iff.mp hn).1
 refine wpAny_mono (suite pins s8 _ _ { nx:=fun σ9 H9=>D.nx (σ9.set n none) H9,rt:=fun _ _=>False } I8 ⟨.ref ea,List.getElem?_set_self hiσ,k ea hfree⟩) (fun f s9 q9=>?_) fun _ _ z=>z.elim
 cases f with
 | next =>
  obtain ⟨σ9,H9,I9,q⟩:=q9;exact Zdg (I9.unmarked I.ok) hN hn ln fun s10 I10=>⟨_,H9,I10,q⟩
 | ret u=>obtain ⟨_,_,_,_,_,z⟩:=q9;exact z.elim
 | brk=>obtain ⟨_,_,_,z⟩:=q9;exact z.elim
 | cont=>obtain ⟨_,_,_,z⟩:=q9;exact z.elim
end
section
variable{X:Cx}{es:List Expr}{t:TA}
end
section
variable{X:Cx}{k:Nat}{ps:List Str}{sp:Sp}{fx v xn xy xa:Str}{Dv:Addr}{n y i:Nat}{fp cp ap vp p0 p1 p2 p3 hp pos ep:Pos}{e:Expr}{es:List Expr}{t:TA}
theorem Zdi{pins:List (Addr×Obj)}{σ : St}{H:Hp}{s:Shared}{Q:VK}{D:Ends}(F:FnC X.prog X.w X.K X.mg X.base (CXE X.prog X.w) k fx ps sp)(hr:Room k X.A)(o:GZ X)(hgf:Gl X fx)(ha:PA X.nox (e :: es) t)
  (hg:Gl X v) (V:ExcV X.K X.mg v Dv) (hN:X.N.Nodup) (hn:X.N[n]? = some xn) (hy:X.N[y]? = some xy) (ln:X.env.scope.names.lookup xn=some .local) (ly:X.env.scope.names.lookup xy=some .local)
  (hnd:(xn == ("__debug__" : Str))=false) (hnc:(xn == ("__classdict__" : Str))=false) (hsw:swapsWith (.Name xn p2) (some (.Name xy p1)) p3.line X.env=pure false)
  (hvd:(v == ("__debug__" : Str))=false) (hfd:(fx == ("__debug__" : Str))=false) (he:starEach (e :: es) X.env=(false,eval e X.env) :: starEach es X.env) (hpl:(backTo cp (starEach es X.env)).any (·.1)=false)
  (I:Inv X pins σ H s) (h:t σ H fun vs H1=>sp (vs++[]) H1 Q (Zc2 X.K Dv n y D σ)) :
  wpAny (model X.prog X.w) X.A (eval (.Call (.Name fx fp) (e :: es) [] cp) X.env) (EP X pins σ Q)
   (fun e' s'=>wpAny (model X.prog X.w) X.A (noteFrame e' X.env) (fun _ s₂=>wpAny (model X.prog X.w) X.A (setFlight e' none) (fun _ s₃ =>
    wpAny (model X.prog X.w) X.A (handleBy e' X.env [.ExceptHandler (some (.Name v vp)) (some xn) [.Assign [.Name xy p1] (.Name xn p2) p3] hp]) (SP X pins D) X.xe s₃) X.xe s₂) X.xe s') s:=by
 obtain ⟨f,fd,G,hm,kp,hb⟩:=F.ex;refine wpAny_Call_Name_kw (qw I hgf hm ?_ hfd);refine PySem.W.callWith_K (h₀:=X.base) I.ok.mod.kin kp (wpAny_mono (ha cp pins s σ H _ (I.wish fun _ _=>False) h) (fun us s1 ⟨vs,H1,I1,r,q⟩=>⟨I1.kIn,?_⟩) fun _ _ z=>z.elim) he hpl;have J1:Inv X pins σ H1 s1:=I1.Um;have r2:Vals (vs++[]) (us++[]):=r.append .nil;have hl:(us++[]).length=ps.length:=by rw [← r2.length];exact G.len _ _ _ _ q
 refine wpAny_call (codeAny_mono (G.run X.A X.stack s1 H1 ⟨us,[]⟩ (us++[]) (vs++[]) Q _ hr J1.env0 (hb s1 us J1.kIn hl) r2 q) fun res s' hq=>?_);cases res with
 | error e'=>exact caught J1 o hg V hN hn hy ln ly hnd hnc hsw hq hvd
 | ok fl =>
  cases fl with
  | ret u=>exact J1.after hq
  | next=>exact False.elim hq
  | brk=>exact False.elim hq
  | cont=>exact False.elim hq
def Zgq(K:Fg)(sp:Sp)(Dv:Addr)(n y:Nat)(t:TA):TS:=fun D σ H=>t σ H fun vs H1=>sp (vs++[]) H1 (fun _ H2=>D.nx σ H2) (Zc2 K Dv n y D σ)
theorem Zfr(F:FnC X.prog X.w X.K X.mg X.base (CXE X.prog X.w) k fx ps sp)(hr:Room k X.A)(o:GZ X)(hgf:Gl X fx)(ha:PA X.nox (e :: es) t)
  (hg:Gl X v) (V:ExcV X.K X.mg v Dv) (hN:X.N.Nodup) (hn:X.N[n]? = some xn) (hy:X.N[y]? = some xy) (ln:X.env.scope.names.lookup xn=some .local) (ly:X.env.scope.names.lookup xy=some .local)
  (hnd:(xn == ("__debug__" : Str))=false:=by decide) (hnc:(xn == ("__classdict__" : Str))=false:=by decide) (hsw:swapsWith (.Name xn p2) (some (.Name xy p1)) p3.line X.env=pure false:=by rfl)
  (hvd:(v == ("__debug__" : Str))=false:=by decide) (hfd:(fx == ("__debug__" : Str))=false:=by decide) (he:starEach (e :: es) X.env=(false,eval e X.env) :: starEach es X.env:=by rfl) (hpl:(backTo cp (starEach es X.env)).any (·.1)=false:=by rfl)
  (hse:swapsWith (.Call (.Name fx fp) (e :: es) [] cp) none ap.line X.env=pure false:=by rfl) :
  PS X (.Try [.Expr (.Call (.Name fx fp) (e :: es) [] cp) ap] [.ExceptHandler (some (.Name v vp)) (some xn) [.Assign [.Name xy p1] (.Name xn p2) p3] hp] [] [] pos) (Zgq X.K sp Dv n y t):=by
 intro pins s σ H D I h;refine wpAny_Try_except (wpAny_execs_cons (wpAny_Expr_any (wpAny_mono (Zdi (D:=D) F hr o hgf ha hg V hN hn hy ln ly hnd hnc hsw hvd hfd he hpl I h) (fun u s1 ⟨x,H2,I2,r,q⟩=>?_) fun _ _ z=>z) I.quiet hse));exact wpAny_execs_nil (wpAny_execs_nil ⟨_,H2,I2,q⟩)
end
theorem ZgV{X:Cx}:Passes (CXE X.prog X.w) X E0:=fun _ _ _ _ _ _ _ h=>by
 obtain ⟨_,_,_,_,_,_,_,_,_,_,_,z⟩:=h;exact z.elim
end L2
namespace L2
open PySem PySem.Spec PyProof.Rows PySem.W Builtin Builtin.ObjectAttr Builtin.Getset_descriptor
structure ExcA (K:Fg) (C:Addr):Prop where
 ga:findIn K (.ref C) "__getattribute__" = some (some (.builtin "BaseException.__getattribute__"))
 hk:findIn K (.ref C) "__getattr__" = some none
 cl:findIn K (.ref C) "__class__" = some (some (.builtin "object.__class__"))
 gt:specialIn K (.builtin "object.__class__") "__get__" = some (some (.builtin "getset_descriptor.__get__"))
 tk:takesIn K (.builtin "object.__class__")=some true
 ob:mroIn K C (.type "object")=some true
 be:mroIn K C (.type "BaseException")=some true
section
variable{prog:Program}{w:World}{A:Around}{E:Value→Shared→Prop}{s:Shared}{K:Frag}{x C:Addr}{R:Result→Shared→Prop}
def TyLk(h:Heap)(x C:Addr):Prop:=∃o,h.get? x=some o∧o.cls = .ref C
theorem TyLk.look{h:Heap}(i:TyLk h x C)(M:Model):Looks M h (typeOf (.ref x)) (.ref C):=by
 obtain ⟨o,h1,h2⟩:=i;exact h2 ▸ (Looks.ld h1).andThen .now
theorem yH {tp:Value} (X:K.In s.heap) (i:TyLk s.heap x C) (hm:mroIn K C (.type "object")=some true) (h:R (.ok (.ret (.ref C))) s) :
  codeAny (model prog w) A (.call (.builtin "getset_descriptor.__get__") ⟨[.builtin "object.__class__",.ref x,tp],[]⟩) R s:=by
 obtain ⟨hh,g,dr,t,os⟩:=s;have L0:=i.look (model prog w);have L1:=looks_mroIn (M:=model prog w) X hm;refine codeAny_call_builtin KF.slot_gs.plain KF.entry_gs (KF.slot_gs.check _ _ _ _ _ _ _ _ KF.type_class (KF.args_gs _ _ _) ?_);unfold Builtin.«getset_descriptor.__get__» descrGet;rw [dga_obj];refine wpAny_bind (wpAny_pure ?_);unfold descrGetter descrCheckInstance descrNameAndClass isInstance;simp only [KF.owner_class]
 repeat lk
 refine ⟨Code.quiet_builtin _ (by decide +kernel),codeAny_builtin KF.entry_class ?_⟩;unfold Builtin.«object.__class__» shownTypeOf
 repeat lk
 exact h
end
end L2
namespace L2
open PySem PySem.Spec PyProof.Rows PySem.W Builtin Builtin.ObjectAttr Builtin.Getset_descriptor
section
variable{prog:Program}{w:World}{A:Around}{E:Value→Shared→Prop}{s:Shared}{K:Frag}{x C:Addr}
theorem Zc6 {M:Model} {rest:List Value} {Q:Unit→Shared→Prop} (X:K.In s.heap) (i:TyLk s.heap x C) (hb:mroIn K C (.type "BaseException")=some true) (ha:argsOk "BaseException.__getattribute__" ⟨.ref x :: rest,[]⟩) (hq:Q () s) :
  wpAny M A (checkBuiltinCall "BaseException.__getattribute__" ⟨.ref x :: rest,[]⟩) Q E s:=by
 obtain ⟨hh,g,d,t,os⟩:=s;have kd:builtinKind "BaseException.__getattribute__" = some .slot:=by decide +kernel
 have sp:splitId "BaseException.__getattribute__" = some ("BaseException","__getattribute__"):=by decide +kernel
 have LI:Looks M hh (isInstance (.ref x) (.type "BaseException")) true:=(i.look M).andThen (looks_mroIn X hb);simp only [checkBuiltinCall,kd,sp];refine wpAny_bind (LI.at ?_);simp only [Bool.not_true,Bool.false_eq_true,if_false];cases sg:Manifest.signature? "BaseException.__getattribute__" with
 | none=>exact wpAny_pure hq
 | some v =>
  simp only [argsOk,sg] at ha;have h2:Bind.checkArgs "BaseException.__getattribute__" v ⟨.ref x :: rest,[]⟩=pure ():=ha;show wpAny M A (Bind.checkArgs "BaseException.__getattribute__" v ⟨.ref x :: rest,[]⟩) Q E _;rw [h2];exact wpAny_pure hq
theorem Zeh {M:Model} {h:Heap} (X:K.In h) (a:ExcA K C):Looks M h (find (.ref x) (.ref C) "__class__") (.bind (.builtin "getset_descriptor.__get__") (.builtin "object.__class__")):=by
 have L1:=looks_findIn (M:=M) X a.cl;have L2:Looks M h (getOf (some (.builtin "object.__class__"))) (some (.builtin "getset_descriptor.__get__")):=looks_specialIn X a.gt;have L3:=looks_takesIn (M:=M) X a.tk;refine L1.andThen (L2.andThen ?_);exact (show Looks M h (dataDescriptor? (some (.builtin "object.__class__")) (some (.builtin "getset_descriptor.__get__"))) (some (.builtin "getset_descriptor.__get__",.builtin "object.__class__")) from L3.andThen .now).andThen (Looks.tag .now)
theorem ZhR{tk:Tok}{Q:Fin→Shared→Prop}(X:K.In s.heap)(i:TyLk s.heap x C)(a:ExcA K C)(h:Q (.done (.ret (.ref C))) s) :
  wpAny (model prog w) A (Builtin.«object.__getattribute__» ⟨[.ref x,.str "__class__" tk],[]⟩) Q E s:=by
 obtain ⟨hh,g,d,t,os⟩:=s;have L0:=i.look (model prog w);have L1:=Zeh (M:=model prog w) (x:=x) X a;unfold Builtin.«object.__getattribute__»
 repeat lk
 refine wpAny_run (yH X i a.ob ?_)
 repeat lk
 exact h
theorem ZcI {Q:Option Value→Shared→Prop} (X:K.In s.heap) (i:TyLk s.heap x C) (a:ExcA K C) (h:Q (some (.ref C)) { s with toks:=s.toks+1 }):wpAny (model prog w) A (getAttr? (.ref x) "__class__") Q E s:=by
 obtain ⟨hh,g,d,t,os⟩:=s;have L0:=i.look (model prog w);have L1:=looks_findIn (M:=model prog w) X a.ga;have L2:=looks_findIn (M:=model prog w) X a.hk;unfold getAttr? getAttrBy? getAttrBy;refine wpAny_bind (wpAny_mkText (wpAny_bind (wpAny_attempt (wpAny_holding (wpAny_bind (L0.at (wpAny_bind (L1.at ?_))))))));show wpAny _ _ (getAttrByItsOwn _ _ _ _ _ _) _ _ _;unfold getAttrByItsOwn hookBefore;refine wpAny_bind ?_;rw [if_pos (show onTheHeap (Value.ref C)=true from rfl)];refine L2.at ?_;refine wpAny_bind (wpAny_attempt (wpAny_holding ?_));unfold callGetattribute;rw [if_neg (by intro z;cases z)];unfold boundAndCalled;rw [F.excAttr_ValueError.ga.bind (.ref x)];refine wpAny_bind (wpAny_pure ?_);refine wpAny_call (codeAny_call_builtin F.excAttr_ValueError.ga.plain F.entry_bexc_ga (Zc6 X i a.be (F.args_bexc_ga _ _) (ZhR X i a ?_)));show wpAny (model prog w) A (handedOut (.ref C)) _ _ _;rw [handedOut_of (v:=.ref C) rfl];exact wpAny_pure (wpAny_pure h)
theorem qC{h:Heap}(X:K.In h)(a:ExcA K C):∃c d cd sl,h.get? C=some ⟨c,d,.cls cd,sl⟩:=by
 obtain ⟨cd,hc,_⟩:=Option.bind_eq_some_iff.mp a.ob;unfold clsIn at hc;split at hc
 ·rename_i c1 d1 cd1 s1 lk;exact ⟨c1,d1,cd1,s1,X _ _ lk⟩
 ·cases hc
theorem Zab(a:ExcA K C):KitX K (.ref x) (.ref C) (fun h=>TyLk h x C) where
 ty:=fun M h _ p=>p.look M
 it:=fun M h X _=>by
  obtain ⟨c1,d1,cd1,s1,ho⟩:=qC X a;intro A' Q' E' s' k q;unfold isType loadHead;exact wpAny_bind (wpAny_loadPart (k _ _ ho) (wpAny_pure q))
 ne:=fun h tp dd its n sl X htp=>by
  obtain ⟨c1,d1,cd1,s1,ho⟩:=qC X a;refine Bool.eq_false_iff.mpr fun q=>?_
  have e:C=tp:=Value.ref.inj (beq_iff_eq.mp q);subst e;have z:=ho.symm.trans htp;cases z
 ca:=fun X p k=>ZcI X p a k
end
def KitE(K:Frag)(C:Addr)(c:V)(b:Bool):Prop:=match c with
 | .ref D=>kitOne K (.ref C) (.ref D)=some b
 | .ty n=>kitOne K (.ref C) (.type n)=some b
 | _=>False
abbrev Zfp(K:Frag):List V→Hp→VK→Prop:=fun xs H Q=>∃e C c b,xs=[.ref e,c]∧ExH H e C∧ExcA K C∧KitE K C c b∧Q (.bl b) H
theorem Z4 {X:Cx}:Ul X (.builtin "isinstance") (Zfp X.K):=by
 intro pins s σ H xs us Q I r h;obtain ⟨e,C,c,b,rfl,he,a,k,q⟩:=h;obtain ⟨u,u',rfl,rx,ry⟩:=vals2 r;obtain rfl:u=Value.ref e:=rx
 have ty:TyLk s.heap e C:=by
  obtain ⟨d,he⟩:=he;cases d with
  | none=>exact (I.hok e _ he).1
  | some dx=>obtain ⟨oe,h1,h2,_⟩:=(I.hok e _ he).1;exact ⟨oe,h1,h2⟩
 have fin:∀tk,EP X pins σ Q (.bool b) { s with toks:=tk }:=fun tk=>⟨.bl b,H,I.tok tk,rfl,q⟩
 cases c with
 | ref D =>
  obtain rfl:u'=Value.ref D:=ry;exact kia_one (Zab a) I.kIn ty k (fun z=>nomatch z) fin
 | ty n =>
  obtain rfl:u'=Value.type n:=ry;exact kia_one (Zab a) I.kIn ty k (fun z=>nomatch z) fin
 | non=>exact k.elim
 | bl _=>exact k.elim
 | int _=>exact k.elim
 | str _=>exact k.elim
 | byt _=>exact k.elim
 | flt _=>exact k.elim
theorem Yy {K:Frag} {C D:Addr} {b:Bool} {cd:ClassData} (h:mroIn K C (.ref D)=some b) (hs:mroIn K C (.ref C)=some true) (ht:typeIn K (.ref D)=some (.type "type")) (hc:clsIn K D=some cd):KitE K C (.ref D) b:=by
 show kitOne K (.ref C) (.ref D)=some b;unfold kitOne;by_cases e:C=D
 ·subst e;rw [hs] at h;cases h;rw [if_pos (beq_self_eq_true _)]
 ·rw [if_neg (fun z=>e (Value.ref.inj (beq_iff_eq.mp z)))];unfold kitCls;dsimp only;rw [if_pos (show ((clsIn K D).isSome && typeIn K (.ref D) == some (.type "type"))=true by rw [hc,ht];rfl)];exact h
theorem ZfN{K:Frag}{C:Addr}{n:String}{b:Bool}(h:mroIn K C (.type n)=some b)(hm:kitMeta n=true):KitE K C (.ty n) b:=by
 show kitOne K (.ref C) (.type n)=some b;unfold kitOne;rw [if_neg (fun z=>by cases beq_iff_eq.mp z)];unfold kitCls;dsimp only;rw [if_pos hm];exact h
end L2
namespace L2
open PySem PySem.Spec PyProof.Rows
section
variable{prog:Program}{w:World}{A:Around}{E:Value→Shared→Prop}{h:Heap}{g:Array GenState}{d:Drawn}{t:Nat}{os:OsState}
variable{nm q:Str}{C N:Addr}{bs bm bmB:List Value}{hdct:Bool}{sn:List Str}{sub:List Value}{ab:Bool}{col:Option Bool}{dd:Option Addr}{k0 k1 k2 k3 k5:Option Value}{B newId initId:String}
end
end L2
namespace L2
open PySem PySem.Spec PyProof.Rows PySem.W
section
variable{prog:Program}{w:World}{A:Around}{E:Value→Shared→Prop}{h:Heap}{g:Array GenState}{d:Drawn}{t:Nat}{os:OsState}
variable{nm q:Str}{C N:Addr}{bs bm bmB:List Value}{hdct:Bool}{sn:List Str}{sub:List Value}{ab:Bool}{col:Option Bool}{dd:Option Addr}{k0 k1 k2 k3 k5:Option Value}{B newId initId:String}
end
section
variable{prog:Program}{w:World}{A:Around}{E:Value→Shared→Prop}{s:Shared}{K:Frag}{x C:Addr}{R:Result→Shared→Prop}{name:Str}{v:Value}
end
end L2
namespace L2
open PySem PySem.Spec PyProof.Rows PySem.W
section
variable{X:Cx}{pins:List (Addr×Obj)}{σ : St}{H:Hp}{s:Shared}
end
section
variable{M:Model}{A:Around}{E:Value→Shared→Prop}{env:Env}{s:Shared}{Q:Flow→Shared→Prop}
end
end L2
namespace L2
open PySem PySem.Spec PyProof.Rows PySem.W
section
variable{X:Cx}{o a value:Expr}{es:List Expr}{ta tv:TE}{t:TA}{f v:Str}{V:Addr}{vp apos pos pos':Pos}
end
end L2
namespace L2
open PySem PySem.Spec PyProof.Rows PySem.W
end L2
namespace L2
open PySem PySem.Spec PyProof.Rows
open PySem.W (Dat kqdP kqdPs kqdOk)
mutual
inductive Rep (K:Fg) (H:Hp):V→Dat→Prop
 | non:Rep K H .non .none
 | bl (b:Bool):Rep K H (.bl b) (.bool b)
 | int (i:Int):Rep K H (.int i) (.int i)
 | str (x:Str):Rep K H (.str x) (.str x)
 | tup {a:Addr} {xs:List V} {ds:List Dat}:SqT K H a xs→RepL K H xs ds→Rep K H (.ref a) (.tuple ds)
 | lst {a:Addr} {xs:List V} {ds:List Dat}:SqL K H a xs→RepL K H xs ds→Rep K H (.ref a) (.list ds)
inductive RepL (K:Fg) (H:Hp):List V→List Dat→Prop
 | nil:RepL K H [] []
 | cons {v:V} {d:Dat} {vs:List V} {ds:List Dat}:Rep K H v d→RepL K H vs ds→RepL K H (v :: vs) (d :: ds)
end
section
variable{K:Fg}{H H':Hp}
end
section
variable{X:Cx}{pins:List (Addr×Obj)}{σ : St}{H:Hp}{s:Shared}
mutual
theorem Rep.reads(I:Inv X pins σ H s):∀{v:V} {d:Dat} {u:Value},Rep X.K H v d→RelV v u→∃as,Reads s.heap u (kqdP d) as
 | _,_,u,.non,r=>by
  cases (show u=Value.none from r);exact ⟨_,Reads.none⟩
 | _,_,u,.bl b,r=>by
  cases (show u=Value.bool b from r);exact ⟨_,Reads.bool b⟩
 | _,_,u,.int i,r=>by
  obtain ⟨t,e⟩:=(show ∃t,u=Value.int i t from r)
  cases e;exact ⟨_,Reads.int i t⟩
 | _,_,u,.str x,r=>by
  obtain ⟨t,e⟩:=(show ∃t,u=Value.str x t from r)
  cases e;exact ⟨_,Reads.str x t⟩
 | _,_,u,@Rep.tup _ _ a xs ds h q,r=>by
  cases (show u=Value.ref a from r);obtain ⟨its,rv,⟨o,e,c,n,dd⟩,_⟩:=I.tuple h;obtain ⟨as,p⟩:=RepL.reads I q rv;rw [kqdP];exact ⟨_,Reads.tuple e c dd (by simpa using p)⟩
 | _,_,u,@Rep.lst _ _ a xs ds h q,r=>by
  cases (show u=Value.ref a from r);obtain ⟨its,rv,⟨o,n,e,c,_,dd⟩,_⟩:=I.list h;obtain ⟨as,p⟩:=RepL.reads I q rv;rw [kqdP];exact ⟨_,Reads.list e c dd (by simpa using p)⟩
theorem RepL.reads(I:Inv X pins σ H s):∀{vs:List V} {ds:List Dat} {us:List Value},RepL X.K H vs ds→Vals vs us→∃as,ReadsAll s.heap us (kqdPs ds) as
 | _,_,_,.nil,.nil=>by
  rw [kqdPs];exact ⟨_,ReadsAll.nil⟩
 | _,_,_,.cons h q,.cons r rr=>by
  obtain ⟨as,p⟩:=Rep.reads I h r;obtain ⟨bs,p'⟩:=RepL.reads I q rr;rw [kqdPs];exact ⟨_,ReadsAll.cons p p'⟩
end
open Classical in
theorem Zgf{d e:Dat}(hd:kqdOk 8 d=true)(he:kqdOk 8 e=true):PyData.eqv (kqdP d) (kqdP e)=decide (d=e):=by
 have q:=PySem.W.kqd_eqv 8 d e 8 hd he;by_cases z:d=e
 ·rw [decide_eq_true z];exact q.mpr z
 ·rw [decide_eq_false z];exact Bool.eq_false_iff.mpr fun y=>z (q.mp y)
theorem vB{d:Dat}(h:kqdOk 8 d=true):SeqAt.shaped (kqdP d)=true:=by
 have l:=PySem.W.kqd_lay 8 d h;unfold SeqAt.shaped;rw [l.1,Bool.true_and];exact decide_eq_true (Nat.le_trans l.2 (by decide))
open Classical in
def rEqD(K:Fg):R2:=fun x y H Q=>∃d e,Rep K H x d∧Rep K H y e∧kqdOk 8 d=true∧kqdOk 8 e=true∧Q (.bl (decide (d=e))) H
theorem Zg0(hu:X.A.units+64 < cLine):OpR X (compareOp .Eq) (rEqD X.K):=by
 intro pins s σ H x y v u Q I rx ry h;obtain ⟨d,e,hd,he,kd,ke,q⟩:=h;obtain ⟨as,ra⟩:=Rep.reads I hd rx;obtain ⟨bs,rb⟩:=Rep.reads I he ry;exact eq_dataH ra rb (vB kd) (vB ke) hu ⟨_,H,I,(by rw [Zgf kd ke];rfl),q⟩
open Classical in
theorem Zdb{ds:List Dat}{d:Dat}(ha:∀e∈ds,kqdOk 8 e=true)(hd:kqdOk 8 d=true):((kqdPs ds).any fun y=>PyData.eqv y (kqdP d))=decide (d∈ds):=by
 by_cases z:d∈ds
 ·rw [decide_eq_true z];exact (PySem.W.kqd_any ds d ha hd).mpr z
 ·rw [decide_eq_false z];exact Bool.eq_false_iff.mpr fun y=>z ((PySem.W.kqd_any ds d ha hd).mp y)
open Classical in
def rInD(K:Fg)(neg:Bool):R2:=fun x y H Q=>∃d ds,Rep K H x d∧Rep K H y (.list ds)∧(∀e∈ds,kqdOk 8 e=true)∧kqdOk 8 d=true∧Q (.bl (if neg then !decide (d∈ds) else decide (d∈ds))) H
theorem Zf6{A:Around}{ds:List Dat}{d:Dat}(hd:kqdOk 8 d=true)(hu:A.units+64 < cLine):A.units+1+min (PyData.depthAll (kqdPs ds)) (kqdP d).depth < cLine:=by
 have l:=(PySem.W.kqd_lay 8 d hd).2
 have:=Nat.min_le_right (PyData.depthAll (kqdPs ds)) (kqdP d).depth
 omega
theorem qm(hu:X.A.units+64 < cLine):OpR X (compareOp .NotIn) (rInD X.K true):=by
 intro pins s σ H x y v u Q I rx ry h;obtain ⟨d,ds,hd,he,ka,kd,q⟩:=h;obtain ⟨as,ra⟩:=Rep.reads I hd rx;obtain ⟨bs,rb⟩:=Rep.reads I he ry;rw [kqdP] at rb;exact SeqAt.notIn_list_reads rb ra (PySem.W.kqd_layL ka).1 (PySem.W.kqd_lay 8 d kd).1 (Zf6 kd hu) ⟨_,H,I,(by rw [Zdb ka kd];rfl),q⟩
end
end L2
namespace L2
open PySem PySem.Spec PyProof.Rows
def ZL(X:Cx)(ys M:List Str)(scope:Scope)(cl:List (Str×Addr))(C:Addr)(s:Shared)(H:Hp)(fp:List Addr)(pins:List (Addr×Obj)):Cx where
 prog:=X.prog
 w:=X.w
 K:=X.K
 mg:=X.mg
 base:=X.base
 A:=X.A
 N:=ys++M
 s₀:=s
 H₀:=H
 env:=compEnvC scope cl C X.env
 outer:=X.stack
 stack:=X.stack
 ex:=fp
 fn:=fun _=>false
 calm:=X.calm
 pn:=X.pn++pins
 xe:=fun _ _=>False
structure qL (X:Cx) (ys M:List Str) (scope:Scope) (cl:List (Str×Addr)):Prop where
 kind:scope.kind = .function
 nocell:∀y∈scope.names,y.2≠.cell
 names:∀y∈scope.names,y.2 = .local→scope.names.lookup y.1=some .local
 own:∀y∈ys,scope.names.lookup y=some .local
 clos:closureFor scope X.env=pure cl
 nd:(ys++M).Nodup
 len:M.length=X.N.length
 same:∀p∈M.zip X.N,p.1=p.2∨(relabel scope X.env).names.lookup p.1=none
 apart:∀y∈M,(relabel scope X.env).names.lookup y≠some .local
 cells:∀y c,cl.lookup y=some c→X.env.cells.lookup y=some c∧(X.env.scope.names.lookup y=some .cell∨X.env.scope.names.lookup y=some .free)
 has:∀y,((relabel scope X.env).names.lookup y=some .cell∨(relabel scope X.env).names.lookup y=some .free)→∃c,cl.lookup y=some c
section
variable{X:Cx}{ys M:List Str}{scope:Scope}{cl:List (Str×Addr)}{C:Addr}{s:Shared}{H:Hp}{fp:List Addr}{pins:List (Addr×Obj)}{σ : St}
theorem Zac{h1:Heap}{tk:Nat}{o:Obj}(I:Inv X pins σ H s)(c:qL X ys M scope cl)(eC:C=s.heap.objs.size)(hns:h1.Ns C (fun _=>none))(hsb:Heap.SameBut C (s.heap.push o) h1)
  (fk:∀b∈fp,FpOk X pins H b∧∃o,s.heap.get? b=some o):Inv (ZL X ys M scope cl C s H fp pins) [] (List.replicate ys.length none ++ σ) H { s with heap:=h1,toks:=tk }:=by
 have keep:∀b u,s.heap.get? b=some u→h1.get? b=some u:=fun b u e=>hsb.extBut b u (by rw [eC];exact Nat.ne_of_lt (Heap.lt_size e)) (Heap.get?_push_of_some _ e)
 have neC:∀b u,s.heap.get? b=some u→b≠C:=fun b u e=>by rw [eC];exact Nat.ne_of_lt (Heap.lt_size e)
 have out:∀{b:Addr},b≠X.env.locals→b∉X.fs→b∉frs X.stack:=fun h1 h2 z=>(List.mem_cons.mp (I.uK _ z)).elim h1 h2
 refine ⟨⟨I.ok.mod,c.kind,I.ok.glob,I.ok.blt,by rw [eC];exact Nat.le_refl _,fun y z a h1 h2=>I.ok.inj y z a (c.cells y a h1).1 (c.cells z a h2).1,c.has,fun y a z _=>Bool.noConfusion z,I.ok.hd,I.ok.frames,.inl rfl,fun b hb=>?_,I.bs,Nat.le_trans I.ok.bsz I.sz,fun b u e hb=>?_,fun b hb=>?_,I.stack,I.Wv⟩,
  rfl,I.bare,Un.kept keep,⟨_,hns,fun i y v e1 e2 e3=>?_⟩,fun y a e=>?_,I.hok.fresh (by rw [eC];exact Nat.le_refl _),fun y a e=>I.freeC y a (c.cells y a e).1,fun p hp=>?_,I.hok.kept keep,?_⟩
 ·obtain ⟨⟨_,_,_,_,f5,_⟩,u,e⟩:=fk b hb;exact ⟨neC b u e,fun y a q=>f5 y a (c.cells y a q).1⟩
 ·obtain ⟨⟨_,_,_,f4,_,_⟩,_⟩:=fk b hb;rcases f4 with z | z
  ·exact I.ok.noex b u e z
  ·exact absurd (Nat.lt_of_lt_of_le (Heap.lt_size (I.ok.bs b u e).1) z) (Nat.lt_irrefl _)
 ·obtain ⟨⟨_,f2,f3,_,_,_⟩,_⟩:=fk b hb;exact out f2 f3
 ·by_cases lt:i < ys.length
  ·have e2':(List.replicate ys.length (none:Option V) ++ σ)[i]? = some (some v):=e2;rw [List.getElem?_append_left (by simpa using lt),List.getElem?_replicate_of_lt lt] at e2';cases e2'
  ·have e0:M[i - ys.length]? = some y:=by
    have e1':(ys++M)[i]? = some y:=e1
    rwa [List.getElem?_append_right (by omega)] at e1'
   have e2' : σ[i - ys.length]? = some (some v):=by
    have e2':(List.replicate ys.length (none:Option V) ++ σ)[i]? = some (some v):=e2
    rwa [List.getElem?_append_right (by simpa using lt),List.length_replicate] at e2'
   have hy:y∈M:=List.mem_of_getElem? e0
   have vis0:(relabel scope X.env).names.lookup y≠none:=by
    rcases e3 with z | z | z <;> (intro q;have q':=(show (relabel scope X.env).names.lookup y=some _ from z).symm.trans q;cases q')
   have e1':X.N[i - ys.length]? = some y:=by
    have hlt:i - ys.length < X.N.length:=by rw [← c.len];exact (List.getElem?_eq_some_iff.mp e0).1
    have hz:(y,X.N[i - ys.length])∈M.zip X.N:=by
     refine List.mem_of_getElem? (i:=i - ys.length) ?_;rw [List.getElem?_zip_eq_some];exact ⟨e0,List.getElem?_eq_getElem hlt⟩
    rcases c.same _ hz with q | q
    ·rw [List.getElem?_eq_getElem hlt];exact congrArg some q.symm
    ·exact absurd q vis0
   have e3':(relabel scope X.env).names.lookup y=some .cell∨(relabel scope X.env).names.lookup y=some .free:=by
    rcases e3 with z | z | z
    ·exact absurd z (c.apart y hy)
    ·exact .inl z
    ·exact .inr z
   obtain ⟨a,ea⟩:=c.has y e3';obtain ⟨q1,q2⟩:=c.cells y a ea;obtain ⟨m,_,hl⟩:=I.loc;have vis:Vis X.env.scope y:=.inr q2;obtain ⟨u,ru,lu⟩:=hl (i - ys.length) y v e1' e2' vis;refine ⟨u,ru,.inr ⟨e3',a,ea,?_⟩⟩;rcases lu with ⟨z,_⟩ | ⟨_,a',ea',⟨oc,hoc,hd⟩⟩
   ·have z':X.env.scope.names.lookup y=some .local:=z;rcases q2 with q2 | q2 <;> (rw [z'] at q2;cases q2)
   ·rw [q1] at ea';cases ea';exact ⟨oc,keep _ _ hoc,hd⟩
 ·obtain ⟨v,oc,hoc,hd⟩:=I.cell y a (c.cells y a e).1;exact ⟨v,oc,keep _ _ hoc,hd⟩
 ·have hp':p∈X.pn++pins:=by simpa [ZL] using hp
  obtain ⟨q1,q2,q3,q4,q5⟩:=I.pin p hp';exact ⟨keep _ _ q1,q2,neC _ _ q1,out q3 q4,q5⟩
 ·show (List.replicate ys.length none ++ σ).length=(ys++M).length;rw [List.length_append,List.length_append,List.length_replicate,I.len,c.len]
theorem jB{pins':List (Addr×Obj)}{σ':St}{H':Hp}{s1:Shared}(I:Inv X pins σ H s)(fk:∀b∈fp,FpOk X pins H b∧∃o,s.heap.get? b=some o)(I':Inv (ZL X ys M scope cl C s H fp pins) pins' σ' H' s1):Inv X pins σ H' s1 :=
 I.call' (ch:=fp) I'.os I'.base I'.hok I'.bare fun b hb=>let ⟨⟨_,f2,_,f4,f5,f6⟩,_⟩:=fk b hb;⟨f4,f2,f5,f6⟩
def uF(J:It)(n:Nat)(g:TG)(te:TE)(σ : St)(Q:VK)(H1:Hp):Prop:=∀D,H1 D=none→∃W:Nat→Nat→Hp→Prop,(∃m,W 0 m (upd H1 D (.lst [])))∧∀i m H,W i m H →
 (J.stop i H∧Q (.ref D) H)∨(J.go i H∧∀v H',J.yld i H v H'→∀us:St,us.length=n→g v (us ++ σ) H' fun σ2 H2=>(∃us':St,us'.length=n∧σ2=us' ++ σ)∧te σ2 H2 fun y H3=>∃xs,H3 D=some (.lst xs)∧xs.length < sizeLine∧∃m',m' < m∧W (i+1) m' (upd H3 D (.lst (xs++[y]))))
def YX(wi:TI)(n:Nat)(g:TG)(te:TE):TE:=fun σ H Q=>wi σ H fun J H1=>uF J n g te σ Q H1
def YS(J:It)(te:TE)(σ : St)(Q:VK)(H1:Hp):Prop:=∀D,H1 D=none→∃W:Nat→Nat→Hp→Prop,(∃m,W 0 m (upd H1 D (.lst [])))∧∀i m H,W i m H →
 (J.stop i H∧Q (.ref D) H)∨(J.go i H∧∀v H',J.yld i H v H'→te (some v :: σ) H' fun y H2=>∃xs,H2 D=some (.lst xs)∧xs.length < sizeLine∧∃m',m' < m∧W (i+1) m' (upd H2 D (.lst (xs++[y]))))
def Y6(wi:TI)(te:TE):TE:=fun σ H Q=>wi σ H fun J H1=>YS J te σ Q H1
theorem Zap{J:It}{te:TE}{σ : St}{Q:VK}{H1:Hp}(h:YS J te σ Q H1):uF J 1 (Zn 0) te σ Q H1:=by
 intro D nD;obtain ⟨W,h0,hs⟩:=h D nD;refine ⟨W,h0,fun i m H w=>?_⟩;rcases hs i m H w with q | ⟨go,st⟩
 ·exact .inl q
 ·refine .inr ⟨go,fun v H' y us hu=>?_⟩;obtain ⟨u,rfl⟩:∃u,us=[u]:=List.length_eq_one_iff.mp hu;exact ⟨⟨[some v],rfl,rfl⟩,st v H' y⟩
theorem kI{prog:Program}{w:World}{A:Around}{R:Result→Shared→Prop}{s:Shared}{elt target iter:Expr}{scope:Scope}{pos:Pos}{it acc:Value}{env:Env}(I:Nat→Shared→Prop)
  (turn:∀n s,I n s→wpAny (model prog w) A (pyNext it) (fun r s1=>match r with
   | none=>R (.ok .next) s1
   | some v=>wpAny (model prog w) A (letOwnedTupleGo target it v) (fun _ s2=>wpAny (model prog w) A (assign target env v) (fun _ s3=>wpAny (model prog w) A (eval elt env) (fun x s4 =>
     wpAny (model prog w) A (call (.builtin "list.append") [acc,x]) (fun _ s5=>∃m,m < n∧I m s5) (fun _ _=>False) s4) (fun _ _=>False) s3) (fun _ _=>False) s2) (fun _ _=>False) s1) (fun _ _=>False) s) (n:Nat) (h:I n s) :
  codeAny (model prog w) A (.compLoop (.ListComp elt [⟨target,iter,[],0⟩] scope pos) 0 it acc env) R s:=by
 refine codeAny_loop rfl I (fun k s1 hI=>?_) n h;have no:∀{α : Type} {t:Sem α} {P : α→Shared→Prop} {E:Value→Shared→Prop} {z:Shared},wpAny (model prog w) A t P (fun _ _=>False) z→wpAny (model prog w) A t P E z:=fun q=>wpAny_mono q (fun _ _ z=>z) fun _ _ z=>z.elim
 show wpAny _ _ ((compTurn (.ListComp elt [⟨target,iter,[],0⟩] scope pos) 0 it acc env).onRaise _) _ _ s1;refine wpAny_noted ?_;rw [compTurn_list1];refine wpAny_bind (wpAny_standAt (wpAny_bind (no (wpAny_mono (turn k s1 hI) (fun r s2 h2=>?_) fun _ _ z=>z))));cases r with
 | none=>exact wpAny_pure h2
 | some v =>
  refine wpAny_bind (no (wpAny_mono h2 (fun _ s3 h3=>?_) fun _ _ z=>z));refine wpAny_bind (no (wpAny_mono h3 (fun _ s4 h4=>?_) fun _ _ z=>z));refine wpAny_bind (wpAny_bind (no (wpAny_mono h4 (fun x s5 h5=>?_) fun _ _ z=>z)));exact wpAny_bind (no (wpAny_mono h5 (fun _ s6 h6=>wpAny_pure (wpAny_pure ⟨rfl,h6⟩)) fun _ _ z=>z))
theorem kJ{elt iter tg:Expr}{pos:Pos}{g:TG}{te:TE}{tn:Nat→Heap→Prop}{it:Addr}{J:It}{E:Value→Shared→Prop}{QQ:Addr→Hp→Prop}{RR:Value→Addr→Result→Shared→Prop}(I:Inv X pins σ H s)(c:qL X ys M scope cl)(hc:X.calm=true)
  (hg:∀C s₀ H₀ fp pins,PG (ZL X ys M scope cl C s₀ H₀ fp pins) tg g) (he:∀C s₀ H₀ fp pins,PE (ZL X ys M scope cl C s₀ H₀ fp pins) elt te) (T:Turn X.prog X.w X.K tg J fp it tn) (st:tn 0 s.heap) (fk:∀b∈fp,FpOk X pins H b)
  (h:∀D,H D=none→∃W:Nat→Nat→Hp→Prop,(∃m,W 0 m (upd H D (.lst [])))∧∀i m H,W i m H →
   (J.stop i H∧QQ D H)∨(J.go i H∧∀v H',J.yld i H v H'→∀us:St,us.length=ys.length→g v (us ++ σ) H' fun σ2 H2=>(∃us':St,us'.length=ys.length∧σ2=us' ++ σ)∧te σ2 H2 fun y H3=>∃xs,H3 D=some (.lst xs)∧xs.length < sizeLine∧∃m',m' < m∧W (i+1) m' (upd H3 D (.lst (xs++[y])))))
  (fin:∀D C H' s',s.heap.objs.size≤C→s'.heap.get? C≠none→(∃m,s'.heap.Ns C m)→H' C=none→Inv X pins σ H' s'→QQ D H'→RR (.ref D) C (.ok .next) s') :
  wpAny (model X.prog X.w) X.A (newList []) (fun acc s₃=>wpAny (model X.prog X.w) X.A (newFunctionEnv scope X.env.globals cl [] X.env.qual none .none (some X.env)) (fun cenv s₄ =>
   codeAny (model X.prog X.w) X.A (.compStart (.ListComp elt [⟨tg,iter,[],0⟩] scope pos) 0 (.ref it) acc { cenv with scope:=relabel scope X.env }) (RR acc cenv.locals) s₄) E s₃) E s:=by
 refine wpAny_newObj_type (wpAny_newFunctionEnv c.nocell (by intro y hy;simp at hy) (fun h1 hns hsb=>?_) c.kind);dsimp only at hns hsb ⊢;have hf:H s.heap.objs.size=none:=I.hok.fresh (Nat.le_refl _)
 have I3:Inv X pins σ (upd H s.heap.objs.size (.lst [])) { s with heap:=s.heap.push { cls:=.type "list",dict:=none,data:=.seq ([]:List Value).toArray } } :=
  I.laid (t':=s.toks) (fun b u e=>Heap.get?_push_of_some _ e) (Nat.le_refl _) ⟨by decide,[],_,.nil,Heap.get?_push_size _ rfl⟩
 have eD:∀b u,s.heap.get? b=some u→b≠s.heap.objs.size:=fun b u e=>Nat.ne_of_lt (Heap.lt_size e)
 have fk3:∀b∈fp,FpOk X pins (upd H s.heap.objs.size (.lst [])) b∧∃o,(s.heap.push { cls:=.type "list",dict:=none,data:=.seq ([]:List Value).toArray }).get? b=some o:=fun b hb=>by
  obtain ⟨o,eo,_⟩:=T.obj 0 _ st b hb;obtain ⟨f1,f2⟩:=fk b hb;exact ⟨⟨by rw [ZD (eD b o eo)];exact f1,f2⟩,o,Heap.get?_push_of_some _ eo⟩
 have I4:=Zac (tk:=s.toks+([]:List (Str×Value)).length) I3 c rfl hns hsb fk3;obtain ⟨W,⟨m0,w0⟩,turn⟩:=h _ hf
 have st4:tn 0 h1:=T.keep 0 _ _ st fun b hb o e=>by
  have e2:=Heap.get?_push_of_some { cls:=.type "list",dict:=none,data:=.seq ([]:List Value).toArray } e;exact hsb.extBut b o (Nat.ne_of_lt (Heap.lt_size e2)) (Heap.get?_push_of_some _ e2)
 have stat:∀{H':Hp},(∀b∈fp,H' b=none)→∀b∈fp,FpOk (ZL X ys M scope cl (s.heap.push { cls:=.type "list",dict:=none,data:=.seq ([]:List Value).toArray }).objs.size { s with heap:=s.heap.push { cls:=.type "list",dict:=none,data:=.seq ([]:List Value).toArray } } (upd H s.heap.objs.size (.lst [])) fp pins) [] H' b :=
  fun hn b hb=>⟨hn b hb,(I4.ok.exf b hb).1,I4.ok.exfs b hb,.inl hb,(I4.ok.exf b hb).2,fun p hp=>(fk3 b hb).1.2.2.2.2.2 p (by simpa [ZL] using hp)⟩
 have loop:∀s4:Shared,s4 = { s with heap:=h1,toks:=s.toks+([]:List (Str×Value)).length } →
   codeAny (model X.prog X.w) X.A (.compLoop (.ListComp elt [⟨tg,iter,[],0⟩] scope pos) 0 (.ref it) (.ref s.heap.objs.size) (compEnvC scope cl (s.heap.push { cls:=.type "list",dict:=none,data:=.seq ([]:List Value).toArray }).objs.size X.env))
    (RR (.ref s.heap.objs.size) (s.heap.push { cls:=.type "list",dict:=none,data:=.seq ([]:List Value).toArray }).objs.size) s4:=by
  rintro s4 rfl
  refine kI (fun n s'=>∃(i:Nat) (us:St) (H':Hp),us.length=ys.length∧Inv (ZL X ys M scope cl (s.heap.push { cls:=.type "list",dict:=none,data:=.seq ([]:List Value).toArray }).objs.size { s with heap:=s.heap.push { cls:=.type "list",dict:=none,data:=.seq ([]:List Value).toArray } } (upd H s.heap.objs.size (.lst [])) fp pins) [] (us ++ σ) H' s'∧tn i s'.heap∧(∀b∈fp,H' b=none)∧W i n H')
   ?_ m0 ⟨0,_,_,List.length_replicate,I4,st4,fun b hb=>(fk3 b hb).1.1,w0⟩
  rintro n s5 ⟨i,us,H5,lu,I5,st5,fr5,w5⟩;rcases turn i n H5 w5 with ⟨stop,q⟩ | ⟨go,step⟩
  ·refine thn (T.done (ZL X ys M scope cl _ _ _ _ _) rfl rfl rfl hc i [] s5 _ H5 _ I5 (stat fr5) st5 stop) fun r s6 ⟨er,I6⟩=>?_
   subst er;obtain ⟨m,hn6,_⟩:=id I6.loc;obtain ⟨o6,_,_,ho6,_⟩:=id hn6;exact fin _ _ H5 s6 (by rw [Heap.size_push];exact Nat.le_succ _) (fun z=>by have z':=ho6.symm.trans z;cases z') ⟨m,hn6⟩ I6.free (jB I3 fk3 I6) q
  ·refine thn (T.item (ZL X ys M scope cl _ _ _ _ _) rfl rfl rfl hc i [] s5 _ H5 _ I5 (stat fr5) st5 go) fun r s6 ⟨u,er,h6⟩=>?_
   subst er;refine thn h6 fun _ s7 ⟨v',H7,I7,r7,y7,st7,fr7⟩=>?_
   have I7':=I7.pinned (stat fr7) (T.obj _ _ st7);refine wpAny_mono (hg _ _ _ _ _ _ s7 _ H7 v' u _ I7' r7 (step v' H7 y7 us lu)) (fun _ s8 ⟨σ8,H8,I8,⟨us',lu',e8⟩,q8⟩=>?_) fun _ _ z=>z.elim
   refine wpAny_mono (he _ _ _ _ _ _ s8 _ H8 _ I8 q8) (fun y s9 ⟨yv,H9,I9,ry,xs,hxs,hlen,m',hm,w9⟩=>?_) fun _ _ z=>z.elim
   refine wpAny_mono (Zy (X:=ZL X ys M scope cl _ _ _ _ _) _ s9 _ H9 (.ref s.heap.objs.size) [yv] (.ref s.heap.objs.size) [y] (fun _ H10=>H10=upd H9 s.heap.objs.size (.lst (xs++[yv]))) I9 rfl (.cons ry .nil) ⟨_,xs,yv,rfl,rfl,hxs,hlen,rfl⟩) (fun _ s10 ⟨z,H10,I10,rz,q10⟩=>?_) fun _ _ z=>z.elim
   subst q10;subst e8;refine ⟨m',hm,i+1,us',_,lu',I10.Jo (pins:=[]),T.keep _ _ _ st7 fun b hb o e=>(I10.pin (b,o) (List.mem_append_right _ (List.mem_append_right _ (Yc hb e)))).1,fun b hb=>?_,w9⟩;obtain ⟨o,e,_⟩:=T.obj _ _ st7 b hb;exact (I10.pin (b,o) (List.mem_append_right _ (List.mem_append_right _ (Yc hb e)))).2.1
 exact codeAny_compStart_list (loop _ rfl) (T.self _ 0 _ _ _ st4 (loop _ rfl))
end
section
variable{X:Cx}{ys M:List Str}{x:Str}{scope:Scope}{cl:List (Str×Addr)}
theorem uY{elt iter tg:Expr}{pos:Pos}{wi:TI}{g:TG}{te:TE}(c:qL X ys M scope cl)(hc:X.calm=true)(hi:PI X tg iter wi)(hg:∀C s₀ H₀ fp pins,PG (ZL X ys M scope cl C s₀ H₀ fp pins) tg g)(he:∀C s₀ H₀ fp pins,PE (ZL X ys M scope cl C s₀ H₀ fp pins) elt te)
  (hs:∀v,foldedSetIterable iter X.env v=pure v:=by intro _;rfl):PE X (.ListComp elt [⟨tg,iter,[],0⟩] scope pos) (YX wi ys.length g te):=by
 intro pins s σ H Q I h;rw [eval_ListComp];refine wpAny_comprehension_free (use:=none) rfl hs c.clos c.kind c.names (thn (hi pins s σ H _ I h) fun v s1 h1=>thn h1 fun itv s2 h2=>?_);obtain ⟨it,fp,tn,J,H2,rfl,I2,T,st2,fk2,h3⟩:=h2;refine kJ (E:=X.xe) (QQ:=fun D H'=>Q (.ref D) H') I2 c hc hg he T st2 fk2 h3 fun D C H' s' hC hl ns fr I' q=>?_
 obtain ⟨m,hn⟩:=ns;refine ⟨m,hn,fun h' hs'=>?_⟩;have sz:=I2.sz;exact ⟨.ref D,H',I'.turned (t':=s'.toks) (fun b o hb e=>(hs'.2 b hb).trans e) fr (I2.fpOk hC fr).2.1 (I2.fpOk hC fr).2.2.2.1 (I2.fpOk hC fr).2.2.2.2.1 (I2.fpOk hC fr).2.2.2.2.2,rfl,q⟩
theorem uR{elt iter tg:Expr}{pos py sp:Pos}{wi:TI}{g:TG}{te:TE}{i:Nat}{y:Str}(hy:X.N[i]? = some y)(ly:X.env.scope.names.lookup y=some .local)(c:qL X ys M scope cl)(hN:X.N.Nodup)(hc:X.calm=true)(hi:PI X tg iter wi)
  (hg:∀C s₀ H₀ fp pins,PG (ZL X ys M scope cl C s₀ H₀ fp pins) tg g) (he:∀C s₀ H₀ fp pins,PE (ZL X ys M scope cl C s₀ H₀ fp pins) elt te)
  (hsw:swapsWith (.ListComp elt [⟨tg,iter,[],0⟩] scope pos) (some (.Name y py)) sp.line X.env=pure true:=by rfl) (hs:∀v,foldedSetIterable iter X.env v=pure v:=by intro _;rfl) :
  PS X (.Assign [.Name y py] (.ListComp elt [⟨tg,iter,[],0⟩] scope pos) sp) (tAsg (YX wi ys.length g te) (Zn i)):=by
 intro pins s σ H D I h;rw [exec_Assign_Name_used _ _ _ _ hsw];refine wpAny_bind (wpAny_standAt (wpAny_bind ?_));show wpAny _ X.A (do let _ ← comprehension (.ListComp elt [⟨tg,iter,[],0⟩] scope pos) scope X.env _ (newList []) false (eval iter X.env) (some (assign (.Name y py) X.env))) _ _ s;refine wpAny_bind (wpAny_mono (wpAny_comprehension_free (use:=some (assign (.Name y py) X.env)) (Q:=fun _ s'=>SP X pins D .next s') rfl hs c.clos c.kind c.names (thn (hi pins s σ H _ I h) fun v s1 h1=>thn h1 fun itv s2 h2=>?_)) (fun _ s' hq=>wpAny_pure (wpAny_pure hq)) fun _ _ z=>z);obtain ⟨it,fp,tn,J,H2,rfl,I2,T,st2,fk2,h3⟩:=h2;refine kJ (E:=X.xe) (QQ:=fun Da H'=>D.nx (σ.set i (some (.ref Da))) H') I2 c hc hg he T st2 fk2 h3 fun Da C H' s' hC hl ns fr I' q=>?_
 obtain ⟨m,hn⟩:=ns;refine wpAny_assign_Name (Wu I' hN hy (.inl ly) (v:=.ref Da) rfl (fun s3 I3 ⟨a,hsa,ha⟩=>?_) (.inr ly))
 have nC:C≠a:=by
  rcases ha with z | z
  ·rw [z];exact (I2.fpOk hC fr).2.1
  ·exact fun w'=>(I2.fpOk hC fr).2.2.2.2.1 y a z w'.symm
 refine ⟨m,hn.sameBut hsa nC,fun h' hs'=>⟨_,H',I3.turned (t':=s3.toks) (fun b o hb e=>(hs'.2 b hb).trans e) fr (I2.fpOk hC fr).2.1 (I2.fpOk hC fr).2.2.2.1 (I2.fpOk hC fr).2.2.2.2.1 (I2.fpOk hC fr).2.2.2.2.2,q⟩⟩
theorem ZeK{px:Pos}(c:qL X [x] M scope cl)(C:Addr)(s₀ : Shared)(H₀ : Hp)(fp:List Addr)(pins:List (Addr×Obj)):PG (ZL X [x] M scope cl C s₀ H₀ fp pins) (.Name x px) (Zn 0):=by
 have hx:(relabel scope X.env).names.lookup x=some .local:=lookup_relabel_local (c.own x (by simp));exact Zw (X:=ZL X [x] M scope cl C s₀ H₀ fp pins) (i:=0) c.nd rfl (.inl hx) (.inr hx)
end
def relS(scope sc:Scope):List (Str×NameKind):=scope.names.map fun (n,k)=>if (k == .free && sc.kind == .function && sc.names.lookup n == some .cell) then (n,.cell) else (n,k)
def clOf(scope:Scope)(cells:List (Str×Addr)):List (Str×Addr):=((scope.names.filter fun n=>n.2 == .free).map fun n=>(n.1,(cells.lookup n.1).getD 0)).reverse
structure Z8 (sc:Scope) (N M ys:List Str) (scope:Scope):Prop where
 kind:scope.kind = .function
 nocell:∀y∈scope.names,y.2≠.cell
 names:∀y∈scope.names,y.2 = .local→scope.names.lookup y.1=some .local
 own:∀y∈ys,scope.names.lookup y=some .local
 nd:(ys++M).Nodup
 len:M.length=N.length
 same:∀p∈M.zip N,p.1=p.2∨(relS scope sc).lookup p.1=none
 apart:∀y∈M,(relS scope sc).lookup y≠some .local
 free:∀n∈scope.names,n.2 = .free→sc.names.lookup n.1=some .cell
theorem JT{g:Str→Addr}:∀{l:List (Str×Addr)} {y:Str},(∀n∈l,n.2=g n.1)→∀{c:Addr},l.lookup y=some c→c=g y∧∃n∈l,n.1=y
 | [],_,_,_,h=>by simp at h
 | (n,a) :: r,y,hg,c,h=>by
  by_cases e:y=n
  ·subst e;rw [List.lookup_cons,beq_self_eq_true] at h;have h':a=c:=Option.some.inj h;exact ⟨by rw [← h'];exact hg (y,a) List.mem_cons_self,_,List.mem_cons_self,rfl⟩
  ·have e':(y == n)=false:=beq_eq_false_iff_ne.mpr e;rw [List.lookup_cons,e'] at h;obtain ⟨h1,m,hm,h2⟩:=JT (fun n hn=>hg n (List.mem_cons_of_mem _ hn)) h;exact ⟨h1,m,List.mem_cons_of_mem _ hm,h2⟩
theorem lookup_mem{l:List (Str×Addr)}{y:Str}:(∃n∈l,n.1=y)→∃c,l.lookup y=some c:=by
 induction l with
 | nil=>rintro ⟨n,hn,_⟩;cases hn
 | cons a r ih =>
  rintro ⟨n,hn,e⟩;obtain ⟨m,b⟩:=a;by_cases e':y=m
  ·subst e';exact ⟨b,by rw [List.lookup_cons,beq_self_eq_true]⟩
  ·have e2:(y == m)=false:=beq_eq_false_iff_ne.mpr e';rw [List.lookup_cons,e2];refine ih ?_;rcases List.mem_cons.mp hn with z | z
   ·rw [z] at e;exact absurd e.symm e'
   ·exact ⟨n,z,e⟩
theorem Ju{scope:Scope}{cells:List (Str×Addr)}{n:Str×Addr}:n∈clOf scope cells↔∃m∈scope.names,m.2 = .free∧n=(m.1,(cells.lookup m.1).getD 0):=by
 unfold clOf;rw [List.mem_reverse,List.mem_map];constructor
 ·rintro ⟨m,hm,rfl⟩;rw [List.mem_filter] at hm;exact ⟨m,hm.1,beq_iff_eq.mp hm.2,rfl⟩
 ·rintro ⟨m,hm,hk,rfl⟩;exact ⟨m,List.mem_filter.mpr ⟨hm,beq_iff_eq.mpr hk⟩,rfl⟩
theorem Gq{env:Env}:∀(names:List (Str×NameKind)) (acc:List (Str×Addr)),(∀n∈names,n.2 = .free→∃c,env.cells.lookup n.1=some c) →
  (forIn names acc fun x r=>do
   let (name,kind):=x
   if kind == .free then do
    let c ← cellOf env name
    pure (ForInStep.yield ((name,c) :: r))
   else pure (ForInStep.yield r):Sem (List (Str×Addr)))=pure (((names.filter fun n=>n.2 == .free).map fun n=>(n.1,(env.cells.lookup n.1).getD 0)).reverse++acc)
 | [],acc,_=>rfl
 | (n,k) :: r,acc,h=>by
  have ih:=fun acc=>Gq r acc fun m hm=>h m (List.mem_cons_of_mem _ hm)
  rw [List.forIn_cons];by_cases hk:k = .free
  ·subst hk;obtain ⟨c,hc⟩:=h (n,.free) List.mem_cons_self rfl;have e1:cellOf env n=pure c:=by unfold cellOf;rw [hc]
   simp only [beq_self_eq_true,if_true,e1,pure_bind,List.filter_cons,List.map_cons,List.reverse_cons,List.append_assoc,List.singleton_append];rw [hc];exact ih _
  ·have hb:(k == NameKind.free)=false:=beq_eq_false_iff_ne.mpr hk;simp only [hb,Bool.false_eq_true,if_false,pure_bind,List.filter_cons];exact ih _
theorem Z8.sc{X:Cx}{ys M:List Str}{scope:Scope}(c:Z8 X.env.scope X.N M ys scope)(ok:X.Ok):qL X ys M scope (clOf scope X.env.cells):=by
 have hfc:∀n∈scope.names,n.2 = .free→∃a,X.env.cells.lookup n.1=some a:=fun n hn hk=>ok.has n.1 (.inl (c.free n hn hk))
 refine ⟨c.kind,c.nocell,c.names,c.own,?_,c.nd,c.len,c.same,c.apart,fun y a h=>?_,fun y h=>?_⟩
 ·have z:=Gq (env:=X.env) scope.names [] hfc;rw [List.append_nil] at z;exact (congrArg (fun m:Sem (List (Str×Addr))=>m >>= fun cs=>pure cs) z).trans rfl
 ·obtain ⟨h1,n,hn,e⟩:=JT (g:=fun z=>(X.env.cells.lookup z).getD 0) (fun n hn=>by obtain ⟨m,_,_,rfl⟩:=Ju.mp hn;rfl) h;obtain ⟨m,hm,hk,e2⟩:=Ju.mp hn;have ey:m.1=y:=by rw [← e,e2]
  obtain ⟨a',ha'⟩:=hfc m hm hk;rw [ey] at ha';refine ⟨?_,.inl (by rw [← ey];exact c.free m hm hk)⟩;rw [h1,ha'];rfl
 ·have hm:∃m∈scope.names,m.1=y∧m.2 = .free:=by
   have go:∀names:List (Str×NameKind),(∀z∈names,z.2≠.cell)→((names.map fun (n,k)=>if (k == .free && X.env.scope.kind == .function && X.env.kindOf n == some .cell) then (n,NameKind.cell) else (n,k)).lookup y=some .cell∨(names.map fun (n,k)=>if (k == .free && X.env.scope.kind == .function && X.env.kindOf n == some .cell) then (n,NameKind.cell) else (n,k)).lookup y=some .free)→∃m∈names,m.1=y∧m.2 = .free:=by
    intro names
    induction names with
    | nil=>intro _ h;simp at h
    | cons a r ih =>
     intro nc h;obtain ⟨n,k⟩:=a;by_cases e:y=n
     ·subst e;refine ⟨_,List.mem_cons_self,rfl,?_⟩;have nk:k≠.cell:=nc (y,k) List.mem_cons_self;by_cases hk:k = .free
      ·exact hk
      ·have hb:(k == NameKind.free)=false:=beq_eq_false_iff_ne.mpr hk;simp only [List.map_cons,hb,Bool.false_and,Bool.false_eq_true,if_false,List.lookup_cons,beq_self_eq_true] at h;rcases h with z | z
       ·exact absurd (Option.some.inj z) nk
       ·exact absurd (Option.some.inj z) hk
     ·have e':(y == n)=false:=beq_eq_false_iff_ne.mpr e
      have h':(r.map fun (n,k)=>if (k == .free && X.env.scope.kind == .function && X.env.kindOf n == some .cell) then (n,NameKind.cell) else (n,k)).lookup y=some .cell∨(r.map fun (n,k)=>if (k == .free && X.env.scope.kind == .function && X.env.kindOf n == some .cell) then (n,NameKind.cell) else (n,k)).lookup y=some .free:=by
       by_cases hb:(k == .free && X.env.scope.kind == .function && X.env.kindOf n == some .cell)=true
       ·simpa only [List.map_cons,hb,if_true,List.lookup_cons,e'] using h
       ·simpa only [List.map_cons,hb,Bool.false_eq_true,if_false,List.lookup_cons,e'] using h
      obtain ⟨m,hm,r1⟩:=ih (fun z hz=>nc z (List.mem_cons_of_mem _ hz)) h';exact ⟨m,List.mem_cons_of_mem _ hm,r1⟩
   exact go scope.names c.nocell h
  obtain ⟨m,hm,e,hk⟩:=hm;exact lookup_mem ⟨_,Ju.mpr ⟨m,hm,hk,rfl⟩,e⟩
section
variable{X:Cx}{x:Str}{ys M:List Str}{scope:Scope}
theorem ZgT{elt iter tg:Expr}{pos:Pos}{wi:TI}{g:TG}{te:TE}(c:Z8 X.env.scope X.N M ys scope)(hc:X.calm=true)(hi:PI X tg iter wi)(hg:∀C s₀ H₀ fp pins,PG (ZL X ys M scope (clOf scope X.env.cells) C s₀ H₀ fp pins) tg g)(he:∀C s₀ H₀ fp pins,PE (ZL X ys M scope (clOf scope X.env.cells) C s₀ H₀ fp pins) elt te)
  (hs:∀v,foldedSetIterable iter X.env v=pure v:=by intro _;rfl):PE X (.ListComp elt [⟨tg,iter,[],0⟩] scope pos) (YX wi ys.length g te):=fun pins s σ H Q I h=>uY (c.sc I.ok) hc hi hg he hs pins s σ H Q I h
theorem ZgN{elt iter tg:Expr}{pos py sp:Pos}{wi:TI}{g:TG}{te:TE}{i:Nat}{y:Str}(hN:X.N.Nodup)(hy:X.N[i]? = some y)(ly:X.env.scope.names.lookup y=some .local)(c:Z8 X.env.scope X.N M ys scope)(hc:X.calm=true)(hi:PI X tg iter wi)
  (hg:∀C s₀ H₀ fp pins,PG (ZL X ys M scope (clOf scope X.env.cells) C s₀ H₀ fp pins) tg g) (he:∀C s₀ H₀ fp pins,PE (ZL X ys M scope (clOf scope X.env.cells) C s₀ H₀ fp pins) elt te)
  (hsw:swapsWith (.ListComp elt [⟨tg,iter,[],0⟩] scope pos) (some (.Name y py)) sp.line X.env=pure true:=by rfl) (hs:∀v,foldedSetIterable iter X.env v=pure v:=by intro _;rfl) :
  PS X (.Assign [.Name y py] (.ListComp elt [⟨tg,iter,[],0⟩] scope pos) sp) (tAsg (YX wi ys.length g te) (Zn i)):=fun pins s σ H D I h=>uR hy ly (c.sc I.ok) hN hc hi hg he hsw hs pins s σ H D I h
theorem Jy{elt iter:Expr}{px pos:Pos}{wi:TI}{te:TE}(c:Z8 X.env.scope X.N M [x] scope)(hN:X.N.Nodup)(hc:X.calm=true)(hi:PI X (.Name x px) iter wi)(he:∀C s₀ H₀ fp pins,PE (ZL X [x] M scope (clOf scope X.env.cells) C s₀ H₀ fp pins) elt te)
  (hs:∀v,foldedSetIterable iter X.env v=pure v:=by intro _;rfl):PE X (.ListComp elt [⟨.Name x px,iter,[],0⟩] scope pos) (Y6 wi te):=by
 intro pins s σ H Q I h
 have hi':PI X (.Name x px) iter (fun σ H R=>∃R',(∀J H1,R' J H1→R J H1)∧wi σ H R'):=by
  intro pins s σ H R I ⟨R',hR,hw⟩;refine thn (hi pins s σ H R' I hw) fun v s1 h1=>thn h1 fun itv s2 ⟨it,fp,tn,J,H',e,I',T,t0,fk,r⟩=>⟨it,fp,tn,J,H',e,I',T,t0,fk,hR J H' r⟩
 exact uY (c.sc I.ok) hc hi' (fun C s₀ H₀ fp pins=>ZeK (c.sc I.ok) C s₀ H₀ fp pins) he hs pins s σ H Q I ⟨_,fun J H1 q=>Zap q,h⟩
theorem ZgP{elt iter:Expr}{px pos py sp:Pos}{wi:TI}{te:TE}{i:Nat}{y:Str}(hN:X.N.Nodup)(hy:X.N[i]? = some y)(ly:X.env.scope.names.lookup y=some .local)(c:Z8 X.env.scope X.N M [x] scope)(hc:X.calm=true)(hi:PI X (.Name x px) iter wi)(he:∀C s₀ H₀ fp pins,PE (ZL X [x] M scope (clOf scope X.env.cells) C s₀ H₀ fp pins) elt te)
  (hsw:swapsWith (.ListComp elt [⟨.Name x px,iter,[],0⟩] scope pos) (some (.Name y py)) sp.line X.env=pure true:=by rfl) (hs:∀v,foldedSetIterable iter X.env v=pure v:=by intro _;rfl) :
  PS X (.Assign [.Name y py] (.ListComp elt [⟨.Name x px,iter,[],0⟩] scope pos) sp) (tAsg (Y6 wi te) (Zn i)):=by
 intro pins s σ H D I h
 have hi':PI X (.Name x px) iter (fun σ H R=>∃R',(∀J H1,R' J H1→R J H1)∧wi σ H R'):=by
  intro pins s σ H R I ⟨R',hR,hw⟩;refine thn (hi pins s σ H R' I hw) fun v s1 h1=>thn h1 fun itv s2 ⟨it,fp,tn,J,H',e,I',T,t0,fk,r⟩=>⟨it,fp,tn,J,H',e,I',T,t0,fk,hR J H' r⟩
 exact uR hy ly (c.sc I.ok) hN hc hi' (fun C s₀ H₀ fp pins=>ZeK (c.sc I.ok) C s₀ H₀ fp pins) he hsw hs pins s σ H D I ⟨_,fun J H1 q=>Zap q,h⟩
end
def Push(D:Addr)(Pv:Hp→Prop):VK:=fun y H2=>∃xs,H2 D=some (.lst xs)∧xs.length < sizeLine∧Pv (upd H2 D (.lst (xs++[y])))
section
variable{K:Fg}{te:TE}{σ : St}{Q:VK}{H:Hp}
def EltK(D:Addr)(n i:Nat)(Pv:Nat→Hp→Prop):VK:=fun y H2=>∃xs,H2 D=some (.lst xs)∧xs.length < sizeLine∧∃m',m' < n - i∧m'=n - (i+1)∧i+1≤n∧Pv (i+1) (upd H2 D (.lst (xs++[y])))
def Elt(te:TE)(σ : St)(v:V)(H:Hp)(D:Addr)(n i:Nat)(Pv:Nat→Hp→Prop):Prop:=te (some v :: σ) H (EltK D n i Pv)
theorem pushed{D:Addr}{n i:Nat}{Pv:Nat→Hp→Prop}{y:V}{H2:Hp}(hi:i < n)(h:Push D (Pv (i+1)) y H2):EltK D n i Pv y H2:=by
 obtain ⟨xs,h1,h2,h3⟩:=h;exact ⟨xs,h1,h2,n - (i+1),by omega,rfl,hi,h3⟩
theorem YD{lo:Int}{n:Nat}(h:∀D,H D=none→∃Pv:Nat→Hp→Prop,Pv 0 (upd H D (.lst []))∧(∀i H2,i < n→Pv i H2→Elt te σ (.int (lo+i)) H2 D n i Pv)∧∀H2,Pv n H2→Q (.ref D) H2):YS (Itr lo n) te σ Q H:=by
 intro D nD;obtain ⟨Pv,h0,hs,hd⟩:=h D nD;refine ⟨fun i m H=>m=n - i∧i≤n∧Pv i H,⟨n,by simp,Nat.zero_le _,h0⟩,?_⟩;rintro i m H ⟨rfl,hi,p⟩;by_cases hlt:i < n
 ·refine .inr ⟨hlt,fun v H' y=>?_⟩;obtain ⟨e,y⟩:=y;subst e y;exact hs i _ hlt p
 ·have e:i=n:=by omega
  subst e;exact .inl ⟨Nat.le_refl _,hd H p⟩
theorem YL{a:Addr}{xs:List V}(h:∀D,H D=none→∃Pv:Nat→Hp→Prop,Pv 0 (upd H D (.lst []))∧(∀i H2,i≤xs.length→Pv i H2→SqL K H2 a xs)∧(∀i x H2,xs[i]? = some x→Pv i H2→Elt te σ x H2 D xs.length i Pv)∧∀H2,Pv xs.length H2→Q (.ref D) H2):YS (Itl K a) te σ Q H:=by
 intro D nD;obtain ⟨Pv,h0,hl,hs,hd⟩:=h D nD;refine ⟨fun i m H=>m=xs.length - i∧i≤xs.length∧Pv i H,⟨xs.length,by simp,Nat.zero_le _,h0⟩,?_⟩;rintro i m H ⟨rfl,hi,p⟩;have q:=hl i H hi p;by_cases hlt:i < xs.length
 ·refine .inr ⟨⟨xs,xs[i],q,by simp [hlt]⟩,fun v H' y=>?_⟩;obtain ⟨e,y⟩:=y;subst e;exact hs i v _ (y xs q) p
 ·have e:i=xs.length:=by omega
  subst e;exact .inl ⟨⟨xs,q,Nat.le_refl _⟩,hd H p⟩
theorem J2{a:Addr}{xs:List V}(h:∀D,H D=none→∃Pv:Nat→Hp→Prop,Pv 0 (upd H D (.lst []))∧(∀i H2,i≤xs.length→Pv i H2→SqT K H2 a xs)∧(∀i x H2,xs[i]? = some x→Pv i H2→Elt te σ x H2 D xs.length i Pv)∧∀H2,Pv xs.length H2→Q (.ref D) H2):YS (Itt K a) te σ Q H:=by
 intro D nD;obtain ⟨Pv,h0,hl,hs,hd⟩:=h D nD;refine ⟨fun i m H=>m=xs.length - i∧i≤xs.length∧Pv i H,⟨xs.length,by simp,Nat.zero_le _,h0⟩,?_⟩;rintro i m H ⟨rfl,hi,p⟩;have q:=hl i H hi p;by_cases hlt:i < xs.length
 ·refine .inr ⟨⟨xs,xs[i],q,by simp [hlt]⟩,fun v H' y=>?_⟩;obtain ⟨e,y⟩:=y;subst e;exact hs i v _ (y xs q) p
 ·have e:i=xs.length:=by omega
  subst e;exact .inl ⟨⟨xs,q,Nat.le_refl _⟩,hd H p⟩
end
end L2
namespace L2
open PySem PySem.Spec PyProof.Rows
open PySem.W (Dat kqdOk)
section
variable{K:Fg}{σ : St}{H:Hp}{Q:VK}{D:Ends}{ta tb tc te:TE}{t u:TS}{c:TT}{QB:Bool→Hp→Prop}{QA:List V→Hp→Prop}{QS:St→Hp→Prop}
theorem Zia(h:t { D with nx:=u D } σ H):tSeq t u D σ H:=h
theorem Zhx(h:D.nx σ H):Z9 D σ H:=h
theorem k_drop(h:te σ H fun _ H1=>D.nx σ H1):YT te D σ H:=h
theorem Zib(h:te σ H D.rt):tRet te D σ H:=h
theorem Zin(h:c σ H fun b H1=>if b=true then t D σ H1 else u D σ H1):tIfS c t u D σ H:=h
theorem Ziu{g:TG}(h:te σ H fun x H1=>g x σ H1 D.nx):tAsg te g D σ H:=h
theorem ZfZ{i:Nat}{v:V}(h:QS (σ.set i (some v)) H):Zn i v σ H QS:=h
theorem g8{i:Nat}{v:V}(e : σ[i]? = some (some v))(h:Q v H):tVar i σ H Q:=⟨v,e,h⟩
theorem k_c{v:V}(h:Q v H):tC v σ H Q:=h
theorem k_op{r:R2}(h:ta σ H fun x H1=>tb σ H1 fun y H2=>r x y H2 Q):tOp r ta tb σ H Q:=h
theorem k_un{r:V→Hp→VK→Prop}(h:ta σ H fun x H1=>r x H1 Q):tUn r ta σ H Q:=h
theorem k_rU{g:Int→V}{i:Int}(h:Q (g i) H):rU g (.int i) H Q:=⟨i,rfl,h⟩
theorem Zic{g:Int→Int→V}{i j:Int}(h:Q (g i j) H):rI0 g (.int i) (.int j) H Q:=⟨i,j,rfl,rfl,h⟩
theorem k_rI{C:Int→Int→Prop}{g:Int→Int→V}{i j:Int}(hc:C i j)(h:Q (g i j) H):rI C g (.int i) (.int j) H Q:=⟨i,j,rfl,rfl,hc,h⟩
theorem Ziq{i j:Int}(h:Q (.bl (decide (i=j))) H):rEq (.int i) (.int j) H Q:=⟨rfl,by
 have e:decide (V.int i=V.int j)=decide (i=j):=by
  by_cases z:i=j
  ·subst z;simp
  ·simp [z]
 rw [e];exact h⟩
theorem Zii{i j:Int}(h:Q (.bl (!decide (i=j))) H):rNe (.int i) (.int j) H Q:=⟨rfl,by
 have e:decide (V.int i=V.int j)=decide (i=j):=by
  by_cases z:i=j
  ·subst z;simp
  ·simp [z]
 rw [e];exact h⟩
theorem Zil{x:V}(h:Q (.bl (decide (x = .non))) H):rIsN x .non H Q:=⟨rfl,h⟩
theorem Zhw{x:V}(h:Q (.bl (!decide (x = .non))) H):Zfn x .non H Q:=⟨rfl,h⟩
theorem Zhp(h:te σ H fun x H'=>∃k,x = .bl k∧QB k H'):Z6 te σ H QB:=h
theorem k_tB(h:te σ H fun x H'=>∃k,x = .bl k∧QB k H'):tB te σ H QB:=h
theorem k_bl{P:Bool→Prop}{b:Bool}(h:P b):∃k,V.bl b = .bl k∧P k:=⟨b,rfl,h⟩
theorem k_not(h:c σ H fun b H1=>QB (!b) H1):tNot c σ H QB:=h
theorem Ziw{c':TT}(h:c σ H fun b H1=>if b=true then c' σ H1 QB else QB false H1):tAnd c c' σ H QB:=h
theorem k_or{c':TT}(h:c σ H fun b H1=>if b=true then QB true H1 else c' σ H1 QB):tOr c c' σ H QB:=h
theorem ZhH(h:ta σ H fun x H1=>∃k,x = .bl k∧if k=true then tb σ H1 Q else Q (.bl false) H1):vd ta tb σ H Q:=h
theorem Zih(h:ta σ H fun x H1=>∃k,x = .bl k∧if k=true then Q (.bl true) H1 else tb σ H1 Q):tOrV ta tb σ H Q:=h
theorem Zhv(h:ta σ H fun x H1=>∃k,x = .bl k∧Q (.bl (!k)) H1):Zdm ta σ H Q:=h
theorem k_if(h:c σ H fun b H1=>if b=true then ta σ H1 Q else tb σ H1 Q):tIf c ta tb σ H Q:=h
theorem Zf4{r r':R2}(h:ta σ H fun x H1=>tb σ H1 fun y H2=>r x y H2 fun z H3=>∃k,z = .bl k∧(if k=true then tc σ H3 fun w' H4=>r' y w' H4 Q else Q (.bl false) H3)):Zbr r r' ta tb tc σ H Q:=h
theorem ZfP(h:QA [] H):tNil σ H QA:=h
theorem ZhE{tr:TA}(h:ta σ H fun x H1=>tr σ H1 fun xs H2=>QA (x :: xs) H2):Zc ta tr σ H QA:=h
theorem ZhG{sp:Sp}{dvs:List V}{E:XK}{ts:TA}(h:ts σ H fun vs H1=>sp (vs++dvs) H1 Q E):ZG sp dvs E ts σ H Q:=h
theorem k_cB{r:List V→Hp→VK→Prop}{ts:TA}(h:ts σ H fun vs H1=>r vs H1 Q):tCB r ts σ H Q:=h
theorem Zh_{ts:TA}(h:ts σ H fun xs H1=>xs.length≤sizeLine∧∀p,H1 p=none→Q (.ref p) (upd H1 p (.tup xs))):tTup ts σ H Q:=h
theorem Zij{ts:TA}(h:ts σ H fun xs H1=>xs.length≤sizeLine∧∀p,H1 p=none→Q (.ref p) (upd H1 p (.lst xs))):tLst ts σ H Q:=h
theorem k_sl{r:V→Option Int→Option Int→Hp→VK→Prop}{tl th:TO}(h:te σ H fun x H1=>tl σ H1 fun l H2=>th σ H2 fun u H3=>r x l u H3 Q):tSl r te tl th σ H Q:=h
theorem Zd_{QO:Option Int→Hp→Prop}(h:QO none H):Ge σ H QO:=h
theorem Zhu{QO:Option Int→Hp→Prop}(h:te σ H fun x H1=>∃i,x = .int i∧QO (some i) H1):yZ te σ H QO:=h
theorem Zim{P:Int→Prop}{i:Int}(h:P i):∃j,V.int i = .int j∧P j:=⟨i,rfl,h⟩
theorem Yi{p:Prop}[Decidable p]{A B:Prop}(h1:p→A)(h2 : ¬ p→B):if decide p=true then A else B:=iteD h1 h2
theorem FT{p:Prop}[Decidable p]{A B:Prop}(h1 : ¬ p→A)(h2:p→B):if (!decide p)=true then A else B:=by
 by_cases h:p
 ·rw [decide_eq_true h];exact iteF (h2 h)
 ·rw [decide_eq_false h];exact iteT (h1 h)
theorem ZfT{A B:Prop}(h:A):if (!false)=true then A else B:=iteT h
theorem ZfS{A B:Prop}(h:B):if (!true)=true then A else B:=iteF h
theorem ZfU{b:Bool}{A B:Prop}(e:b=true)(h:A):if b=true then A else B:=by rw [if_pos e];exact h
theorem ZfV{b:Bool}{A B:Prop}(e:b=false)(h:B):if b=true then A else B:=by rw [if_neg (by rw [e];exact Bool.false_ne_true)];exact h
def FAt(J:It)(g:TG)(tb:TS)(D:Ends)(σ : St)(H1:Hp):Prop:=∃W:Nat→Nat→St→Hp→Prop,(∃m,W 0 m σ H1)∧∀i m σ H,W i m σ H →
 (J.stop i H∧D.nx σ H)∨(J.go i H∧∃N:St→Hp→Prop,(∀σ' H',N σ' H'→∃m',m' < m∧W (i+1) m' σ' H')∧∀x H',J.yld i H x H'→g x σ H' fun σ2 H2=>tb { D with nx:=N,ct:=N,bk:=D.nx } σ2 H2)
theorem Zio{wi:TI}{g:TG}{tb:TS}(h:wi σ H fun J H1=>FAt J g tb D σ H1):tFor wi g tb D σ H:=h
theorem ZhF{wi:TI}(h:wi σ H fun J H1=>YS J te σ Q H1):Y6 wi te σ H Q:=h
theorem Zhs{ts:TA}{R:It→Hp→Prop}(h:ts σ H fun vs H1=>∃j:Int,vs=[.int j]∧-(2 ^ 62)≤j∧j < 2 ^ 62∧R (Itr 0 j.toNat) H1):Js ts σ H R:=h
theorem Zhr{ts:TA}{R:It→Hp→Prop}(h:ts σ H fun vs H1=>∃i j:Int,vs=[.int i,.int j]∧(-(2 ^ 62)≤i∧i < 2 ^ 62∧-(2 ^ 62)≤j∧j < 2 ^ 62)∧R (Itr i (j - i).toNat) H1):Zea ts σ H R:=h
theorem Zif{g:TG}{tb:TS}{j:Int}(h0 : -(2 ^ 62)≤j∧j < 2 ^ 62)(h:FAt (Itr 0 j.toNat) g tb D σ H):∃i:Int,[V.int j]=[.int i]∧-(2 ^ 62)≤i∧i < 2 ^ 62∧FAt (Itr 0 i.toNat) g tb D σ H:=⟨j,rfl,h0.1,h0.2,h⟩
theorem Zig{j:Int}(h0 : -(2 ^ 62)≤j∧j < 2 ^ 62)(h:YS (Itr 0 j.toNat) te σ Q H):∃i:Int,[V.int j]=[.int i]∧-(2 ^ 62)≤i∧i < 2 ^ 62∧YS (Itr 0 i.toNat) te σ Q H:=⟨j,rfl,h0.1,h0.2,h⟩
theorem Zid{g:TG}{tb:TS}{i j:Int}(h0 : -(2 ^ 62)≤i∧i < 2 ^ 62∧-(2 ^ 62)≤j∧j < 2 ^ 62)(h:FAt (Itr i (j - i).toNat) g tb D σ H):∃i' j':Int,[V.int i,V.int j]=[.int i',.int j']∧(-(2 ^ 62)≤i'∧i' < 2 ^ 62∧-(2 ^ 62)≤j'∧j' < 2 ^ 62)∧FAt (Itr i' (j' - i').toNat) g tb D σ H:=⟨i,j,rfl,h0,h⟩
theorem Zie{i j:Int}(h0 : -(2 ^ 62)≤i∧i < 2 ^ 62∧-(2 ^ 62)≤j∧j < 2 ^ 62)(h:YS (Itr i (j - i).toNat) te σ Q H):∃i' j':Int,[V.int i,V.int j]=[.int i',.int j']∧(-(2 ^ 62)≤i'∧i' < 2 ^ 62∧-(2 ^ 62)≤j'∧j' < 2 ^ 62)∧YS (Itr i' (j' - i').toNat) te σ Q H:=⟨i,j,rfl,h0,h⟩
theorem ZfY{R:It→Hp→Prop}(h:te σ H fun x H1=>∃a,x = .ref a∧(∃xs,SqL K H1 a xs)∧R (Itl K a) H1):U9 K te σ H R:=h
theorem ZhA{R:It→Hp→Prop}(h:te σ H fun x H1=>∃a,x = .ref a∧(∃xs,SqT K H1 a xs)∧R (Itt K a) H1):iTup K te σ H R:=h
theorem Zd7{g:TG}{tb:TS}{a:Addr}{xs:List V}(e:SqL K H a xs)(h:FAt (Itl K a) g tb D σ H):∃b,V.ref a = .ref b∧(∃xs,SqL K H b xs)∧FAt (Itl K b) g tb D σ H:=⟨a,rfl,⟨xs,e⟩,h⟩
theorem FN{a:Addr}{xs:List V}(e:SqL K H a xs)(h:YS (Itl K a) te σ Q H):∃b,V.ref a = .ref b∧(∃xs,SqL K H b xs)∧YS (Itl K b) te σ Q H:=⟨a,rfl,⟨xs,e⟩,h⟩
theorem Zhq{g:TG}{tb:TS}{a:Addr}{xs:List V}(e:SqT K H a xs)(h:FAt (Itt K a) g tb D σ H):∃b,V.ref a = .ref b∧(∃xs,SqT K H b xs)∧FAt (Itt K b) g tb D σ H:=⟨a,rfl,⟨xs,e⟩,h⟩
theorem Zcq{a:Addr}{xs:List V}(e:SqT K H a xs)(h:YS (Itt K a) te σ Q H):∃b,V.ref a = .ref b∧(∃xs,SqT K H b xs)∧YS (Itt K b) te σ Q H:=⟨a,rfl,⟨xs,e⟩,h⟩
theorem YK{lo:Int}{n:Nat}{g:TG}{tb:TS}(Pv:Nat→St→Hp→Prop)(h0:Pv 0 σ H)
  (hs:∀i σ H,i < n→Pv i σ H→g (.int (lo+i)) σ H fun σ2 H2=>tb { D with nx:=Pv (i+1),ct:=Pv (i+1),bk:=D.nx } σ2 H2) (hd:∀σ H,Pv n σ H→D.nx σ H):FAt (Itr lo n) g tb D σ H:=ZcG Pv h0 hs hd
theorem Wa{a:Addr}{xs:List V}{g:TG}{tb:TS}(Pv:Nat→St→Hp→Prop)(h0:Pv 0 σ H)(hl:∀i σ H,i≤xs.length→Pv i σ H→SqL K H a xs)
  (hs:∀i x σ H,xs[i]? = some x→Pv i σ H→g x σ H fun σ2 H2=>tb { D with nx:=Pv (i+1),ct:=Pv (i+1),bk:=D.nx } σ2 H2) (hd:∀σ H,Pv xs.length σ H→D.nx σ H):FAt (Itl K a) g tb D σ H:=Zef Pv h0 hl hs hd
theorem ZcH{a:Addr}{xs:List V}{g:TG}{tb:TS}(Pv:Nat→St→Hp→Prop)(h0:Pv 0 σ H)(hl:∀i σ H,i≤xs.length→Pv i σ H→SqT K H a xs)
  (hs:∀i x σ H,xs[i]? = some x→Pv i σ H→g x σ H fun σ2 H2=>tb { D with nx:=Pv (i+1),ct:=Pv (i+1),bk:=D.nx } σ2 H2) (hd:∀σ H,Pv xs.length σ H→D.nx σ H):FAt (Itt K a) g tb D σ H:=Zgb Pv h0 hl hs hd
theorem Zis{v:V}{D:Addr}{n i:Nat}{Pv:Nat→Hp→Prop}(h:te (some v :: σ) H (EltK D n i Pv)):Elt te σ v H D n i Pv:=h
theorem Y5{n:Nat}{ts:TGs}{a:Addr}{xs:List V}(e:SqT K H a xs)(l:xs.length=n)(h:ts xs σ H QS):gTup K n ts (.ref a) σ H QS:=⟨a,xs,rfl,e,l,h⟩
theorem Zf0{tg:TG}{ts:TGs}{v:V}{r:List V}(h:tg v σ H fun σ' H'=>ts r σ' H' QS):Yg tg ts (v :: r) σ H QS:=⟨v,r,rfl,h⟩
theorem ZhC(h:QS σ H):gNil [] σ H QS:=⟨rfl,h⟩
theorem Yu{p:Addr}{xs:List V}(e:SqL K H p xs)(h:Q (.int xs.length) H):Yh K [.ref p] H Q:=⟨p,xs,rfl,.inl e,h⟩
theorem Jx{p:Addr}{xs:List V}(e:SqT K H p xs)(h:Q (.int xs.length) H):Yh K [.ref p] H Q:=⟨p,xs,rfl,.inr e,h⟩
theorem Jm{p:Addr}{xs:List V}{i:Int}{v:V}(e:SqL K H p xs)(a:atI xs i=some v)(h:Q v H):rIxL K (.ref p) (.int i) H Q:=⟨p,xs,i,v,rfl,rfl,e,a,h⟩
theorem Z_{p:Addr}{xs:List V}{i:Int}{v:V}(e:SqT K H p xs)(a:atI xs i=some v)(h:Q v H):rIxT K (.ref p) (.int i) H Q:=⟨p,xs,i,v,rfl,rfl,e,a,h⟩
theorem Zik{z:Str}{i:Int}{c:Nat}(e:z.length≤sizeLine)(a:atI z.cps.toList i=some c)(h:Q (.str ⟨#[c]⟩) H):rIxS (.str z) (.int i) H Q:=⟨z,i,c,rfl,rfl,e,a,h⟩
theorem jy{p:Addr}{xs:List V}(e:SqL K H p xs)(h:∀l,H l=none→Q (.ref l) (upd H l (.tup xs))):GJ K [.ref p] H Q:=⟨p,xs,rfl,.inl ⟨e,h⟩⟩
theorem g_{p:Addr}{xs:List V}(e:SqL K H p xs)(h:∀l,H l=none→Q (.ref l) (upd H l (.lst xs))):Gi K [.ref p] H Q:=⟨p,xs,rfl,.inl e,h⟩
theorem ZfQ{p:Addr}{xs:List V}(e:SqT K H p xs)(h:∀l,H l=none→Q (.ref l) (upd H l (.lst xs))):Gi K [.ref p] H Q:=⟨p,xs,rfl,.inr e,h⟩
theorem k_bm{T:String}{r:V→List V→Hp→VK→Prop}{to:TE}{ts:TA}(h:to σ H fun x H1=>tyV K T x H1∧ts σ H1 fun xs H2=>r x xs H2 Q):tBM K T r to ts σ H Q:=h
theorem Zit{T:String}{r:V→List V→Hp→VK→Prop}{to:TE}(h:to σ H fun x H1=>tyV K T x H1∧r x [] H1 Q):tBM0 K T r to σ H Q:=h
theorem Zd5 {p:Addr} {xs:List V} (e:H p=some (.lst xs)):tyV K "list" (.ref p) H:=.inl ⟨rfl,xs,SqL.of e⟩
theorem Zf3{l:Addr}{xs:List V}(e:H l=some (.lst xs))(h:Q .non (upd H l (.lst []))):ZbM (.ref l) [] H Q:=⟨l,xs,rfl,rfl,e,h⟩
theorem Zhz{b:Bool}(h:Q (.int (if b then 1 else 0)) H):ZgG [.bl b] H Q:=.inr ⟨b,rfl,h⟩
theorem Zix{i:Int}(h:Q (.int (if i < 0 then -i else i)) H):rAbs [.int i] H Q:=⟨i,rfl,h⟩
theorem ZfW{x:V}{n:String}{ty:Value}{b:Bool}(e:TyOf K H x ty)(k:PySem.W.kitOne K ty (.type n)=some b)(h:Q (.bl b) H):rIsi K [x,.ty n] H Q:=⟨x,n,ty,b,rfl,e,k,h⟩
theorem ZeN{i j:Str}(n:i.length+j.length≤sizeLine)(h:Q (.str (i++j)) H):Zfq (.str i) (.str j) H Q:=⟨i,j,rfl,rfl,n,h⟩
end
mutual
inductive Rp (K:Fg) (S:Addr→Prop) (H:Hp):V→Dat→Prop
 | non:Rp K S H .non .none
 | bl (b:Bool):Rp K S H (.bl b) (.bool b)
 | int (i:Int):Rp K S H (.int i) (.int i)
 | str (x:Str):Rp K S H (.str x) (.str x)
 | tup {a:Addr} {xs:List V} {ds:List Dat}:H a=some (.tup xs)→RpL K S H xs ds→Rp K S H (.ref a) (.tuple ds)
 | lst {a:Addr} {xs:List V} {ds:List Dat}:S a→H a=some (.lst xs)→RpL K S H xs ds→Rp K S H (.ref a) (.list ds)
inductive RpL (K:Fg) (S:Addr→Prop) (H:Hp):List V→List Dat→Prop
 | nil:RpL K S H [] []
 | cons {v:V} {d:Dat} {vs:List V} {ds:List Dat}:Rp K S H v d→RpL K S H vs ds→RpL K S H (v :: vs) (d :: ds)
end
structure Agr (S:Addr→Prop) (H H':Hp):Prop where
 tup:∀a xs,H a=some (.tup xs)→H' a=some (.tup xs)
 lst:∀a xs,S a→H a=some (.lst xs)→H' a=some (.lst xs)
section
variable{K:Fg}{S S':Addr→Prop}{H H':Hp}
theorem Agr.of_same(e:Same H H'):Agr S H H':=⟨fun a xs h=>e _ _ h,fun a xs _ h=>e _ _ h⟩
theorem Agr.Fe{l:Addr}{ys:List V}{o:HO}(hl:H l=some (.lst ys))(ns : ¬ S l):Agr S H (upd H l o):=by
 refine ⟨fun a xs h=>?_,fun a xs s h=>?_⟩
 ·have ne:a≠l:=by
   rintro rfl;rw [hl] at h;cases h
  rw [ZD ne];exact h
 ·have ne:a≠l:=by
   rintro rfl;exact ns s
  rw [ZD ne];exact h
mutual
theorem Rp.agr(e:Agr S H H'):∀{v:V} {d:Dat},Rp K S H v d→Rp K S H' v d
 | _,_,.non=>.non
 | _,_,.bl b=>.bl b
 | _,_,.int i=>.int i
 | _,_,.str x=>.str x
 | _,_,.tup h r=>.tup (e.tup _ _ h) (RpL.agr e r)
 | _,_,.lst s h r=>.lst s (e.lst _ _ s h) (RpL.agr e r)
theorem RpL.agr(e:Agr S H H'):∀{vs:List V} {ds:List Dat},RpL K S H vs ds→RpL K S H' vs ds
 | _,_,.nil=>.nil
 | _,_,.cons h r=>.cons (Rp.agr e h) (RpL.agr e r)
end
mutual
theorem Rp.mono(e:∀a,S a→S' a):∀{v:V} {d:Dat},Rp K S H v d→Rp K S' H v d
 | _,_,.non=>.non
 | _,_,.bl b=>.bl b
 | _,_,.int i=>.int i
 | _,_,.str x=>.str x
 | _,_,.tup h r=>.tup h (RpL.mono e r)
 | _,_,.lst s h r=>.lst (e _ s) h (RpL.mono e r)
theorem RpL.mono(e:∀a,S a→S' a):∀{vs:List V} {ds:List Dat},RpL K S H vs ds→RpL K S' H vs ds
 | _,_,.nil=>.nil
 | _,_,.cons h r=>.cons (Rp.mono e h) (RpL.mono e r)
end
mutual
theorem Rp.rep:∀{v:V} {d:Dat},Rp K S H v d→Rep K H v d
 | _,_,.non=>.non
 | _,_,.bl b=>.bl b
 | _,_,.int i=>.int i
 | _,_,.str x=>.str x
 | _,_,.tup h r=>.tup (SqT.of h) (RpL.rep r)
 | _,_,.lst _ h r=>.lst (SqL.of h) (RpL.rep r)
theorem RpL.rep:∀{vs:List V} {ds:List Dat},RpL K S H vs ds→RepL K H vs ds
 | _,_,.nil=>.nil
 | _,_,.cons h r=>.cons (Rp.rep h) (RpL.rep r)
end
theorem Rp.same(e:Same H H'){v:V}{d:Dat}(h:Rp K S H v d):Rp K S H' v d:=h.agr (Agr.of_same e)
theorem RpL.same(e:Same H H'){vs:List V}{ds:List Dat}(h:RpL K S H vs ds):RpL K S H' vs ds:=h.agr (Agr.of_same e)
theorem RpL.length:∀{vs:List V} {ds:List Dat},RpL K S H vs ds→vs.length=ds.length
 | _,_,.nil=>rfl
 | _,_,.cons _ r=>congrArg (· + 1) (RpL.length r)
theorem RpL.get:∀{vs:List V} {ds:List Dat} {i:Nat} {v:V},RpL K S H vs ds→vs[i]? = some v→∃d,ds[i]? = some d∧Rp K S H v d
 | _,_,_,_,.nil,e=>by simp at e
 | _,_,0,_,.cons h _,e=>by simp at e;subst e;exact ⟨_,rfl,h⟩
 | _,_,i+1,v,.cons _ r,e=>by
  obtain ⟨d,h1,h2⟩:=RpL.get (i:=i) (v:=v) r (by simpa using e);exact ⟨d,by simpa using h1,h2⟩
theorem RpL.get':∀{vs:List V} {ds:List Dat} {i:Nat} {d:Dat},RpL K S H vs ds→ds[i]? = some d→∃v,vs[i]? = some v∧Rp K S H v d
 | _,_,_,_,.nil,e=>by simp at e
 | _,_,0,_,.cons h _,e=>by simp at e;subst e;exact ⟨_,rfl,h⟩
 | _,_,i+1,v,.cons _ r,e=>by
  obtain ⟨d,h1,h2⟩:=RpL.get' (i:=i) (d:=v) r (by simpa using e);exact ⟨d,by simpa using h1,h2⟩
theorem RpL.append:∀{vs ws:List V} {ds es:List Dat},RpL K S H vs ds→RpL K S H ws es→RpL K S H (vs++ws) (ds++es)
 | _,_,_,_,.nil,s=>s
 | _,_,_,_,.cons h r,s=>.cons h (RpL.append r s)
theorem RpL.ints:∀ns:List Int,RpL K S H (ns.map V.int) (ns.map Dat.int)
 | []=>.nil
 | n :: ns=>.cons (.int n) (RpL.ints ns)
theorem RpL.strs:∀ns:List Str,RpL K S H (ns.map V.str) (ns.map Dat.str)
 | []=>.nil
 | n :: ns=>.cons (.str n) (RpL.strs ns)
theorem RpL.ints_of:∀{vs:List V} {ns:List Int},RpL K S H vs (ns.map Dat.int)→vs=ns.map V.int
 | _,[],.nil=>rfl
 | _,n :: ns,.cons h r=>by cases h;rw [RpL.ints_of r];rfl
theorem RpL.Zbs:∀{vs:List V} {ns:List Str},RpL K S H vs (ns.map Dat.str)→vs=ns.map V.str
 | _,[],.nil=>rfl
 | _,n :: ns,.cons h r=>by cases h;rw [RpL.Zbs r];rfl
theorem Rp.Zgp{v:V}{ds:List Dat}(h:Rp K S H v (.tuple ds)):∃a xs,v = .ref a∧SqT K H a xs∧RpL K S H xs ds:=by
 cases h with
 | tup h r=>exact ⟨_,_,rfl,SqT.of h,r⟩
theorem Rp.Yz{v:V}{ds:List Dat}(h:Rp K S H v (.tuple ds)):∃a xs,v = .ref a∧H a=some (.tup xs)∧RpL K S H xs ds:=by
 cases h with
 | tup h r=>exact ⟨_,_,rfl,h,r⟩
theorem Rp.Zha{v:V}{ds:List Dat}(h:Rp K S H v (.list ds)):∃a xs,v = .ref a∧S a∧H a=some (.lst xs)∧RpL K S H xs ds:=by
 cases h with
 | lst s h r=>exact ⟨_,_,rfl,s,h,r⟩
end
def F0:Addr→Prop:=fun _=>False
abbrev Rz(K:Fg)(H:Hp):V→Dat→Prop:=Rp K F0 H
abbrev RzL(K:Fg)(H:Hp):List V→List Dat→Prop:=RpL K F0 H
section
variable{K:Fg}{S:Addr→Prop}{H H':Hp}
theorem RpL.z{vs:List V}{ds:List Dat}(h:RzL K H vs ds):RpL K S H vs ds:=h.mono fun _ z=>z.elim
theorem Rz.upd{l:Addr}{ys:List V}{o:HO}{v:V}{d:Dat}(h:Rz K H v d)(hl:H l=some (.lst ys)):Rz K (L2.upd H l o) v d:=h.agr (Agr.Fe hl fun z=>z)
theorem RzL.upd{l:Addr}{ys:List V}{o:HO}{v:List V}{d:List Dat}(h:RzL K H v d)(hl:H l=some (.lst ys)):RzL K (L2.upd H l o) v d:=h.agr (Agr.Fe hl fun z=>z)
end
structure Acc (K:Fg) (H0:Hp) (l:Addr) (H:Hp) (ds:List Dat):Prop where
 same:Same H0 H
 new:H0 l=none
 at_:∃xs,H l=some (.lst xs)∧RpL K (fun a=>H0 a=none∧a≠l) H xs ds
section
variable{K:Fg}{H0 H H':Hp}{l:Addr}{ds:List Dat}
theorem Acc.start(n:H0 l=none):Acc K H0 l (upd H0 l (.lst [])) []:=⟨Zi n _,n,[],Zh,.nil⟩
theorem Acc.on(A:Acc K H0 l H ds)(e:Same H H'):Acc K H0 l H' ds:=by
 obtain ⟨xs,h1,h2⟩:=A.at_;exact ⟨A.same.trans e,A.new,xs,e _ _ h1,h2.same e⟩
theorem Acc.push(A:Acc K H0 l H ds){S:Addr→Prop}{y:V}{d:Dat}(r:Rp K S H y d)(hS:∀a,S a→H0 a=none∧a≠l):∃xs,H l=some (.lst xs)∧xs.length=ds.length∧Acc K H0 l (upd H l (.lst (xs++[y]))) (ds++[d]):=by
 obtain ⟨xs,h1,h2⟩:=A.at_;refine ⟨xs,h1,h2.length,⟨fun b o q=>?_,A.new,xs++[y],Zh,?_⟩⟩
 ·rw [ZD (Zz q A.new)];exact A.same b o q
 ·exact (h2.append (.cons (r.mono hS) .nil)).agr (Agr.Fe h1 fun z=>z.2 rfl)
theorem Acc.ZgI(A:Acc K H0 l H ds)(e:Same H H'){y:V}{d:Dat}(r:Rp K (fun a=>H a=none) H' y d):∃xs,H' l=some (.lst xs)∧xs.length=ds.length∧Acc K H0 l (upd H' l (.lst (xs++[y]))) (ds++[d]) :=
 (A.on e).push r fun a z=>⟨A.same.free z,fun q=>by obtain ⟨xs,h1,_⟩:=A.at_;rw [q,h1] at z;cases z⟩
theorem Acc.Yv(A:Acc K H0 l H ds)(e:Same H H'){y:V}{d:Dat}(r:Rp K (fun a=>H a=none) H' y d)(n:ds.length < sizeLine){Pv:Hp→Prop}(h:∀H2,Acc K H0 l H2 (ds++[d])→Pv H2):Push l Pv y H':=by
 obtain ⟨xs,h1,h2,h3⟩:=A.ZgI e r;exact ⟨xs,h1,by rw [h2];exact n,h _ h3⟩
end
theorem Acc.ty {K:Fg} {H0 H:Hp} {l:Addr} {ds:List Dat} (A:Acc K H0 l H ds):tyV K "list" (.ref l) H:=by
 obtain ⟨xs,h1,_⟩:=A.at_;exact Zd5 h1
structure AccZ (K:Fg) (H0:Hp) (l:Addr) (H:Hp) (ds:List Dat):Prop where
 same:Same H0 H
 new:H0 l=none
 at_:∃xs,H l=some (.lst xs)∧RzL K H xs ds
section
variable{K:Fg}{H0 H H':Hp}{l m:Addr}{ds:List Dat}
theorem AccZ.start(e:Same H0 H)(n:H l=none):AccZ K H0 l (upd H l (.lst [])) []:=⟨e.trans (Zi n _),e.free n,[],Zh,.nil⟩
theorem AccZ.on(A:AccZ K H0 l H ds)(e:Same H H'):AccZ K H0 l H' ds:=by
 obtain ⟨xs,h1,h2⟩:=A.at_;exact ⟨A.same.trans e,A.new,xs,e _ _ h1,h2.same e⟩
theorem AccZ.ref(A:AccZ K H0 l H ds):Rp K (fun a=>H0 a=none) H (.ref l) (.list ds):=by
 obtain ⟨xs,h1,h2⟩:=A.at_;exact .lst A.new h1 h2.z
theorem AccZ.rep(A:AccZ K H0 l H ds):Rep K H (.ref l) (.list ds):=A.ref.rep
theorem AccZ.ty (A:AccZ K H0 l H ds):tyV K "list" (.ref l) H:=by
 obtain ⟨xs,h1,_⟩:=A.at_;exact Zd5 h1
theorem AccZ.sq(A:AccZ K H0 l H ds):∃xs,SqL K H l xs∧xs.length=ds.length∧RzL K H xs ds:=by
 obtain ⟨xs,h1,h2⟩:=A.at_;exact ⟨xs,SqL.of h1,h2.length,h2⟩
theorem AccZ.Zh(A:AccZ K H0 l H ds){o:HO}:Same H0 (L2.upd H l o):=fun b u q=>by
 rw [L2.ZD (Zz q A.new)];exact A.same b u q
theorem AccZ.other(A:AccZ K H0 l H ds){ys:List V}{o:HO}(ne:l≠m)(n:H0 m=none)(h:H m=some (.lst ys)):AccZ K H0 l (upd H m o) ds:=by
 obtain ⟨xs,h1,h2⟩:=A.at_;refine ⟨fun b u q=>?_,A.new,xs,by rw [ZD ne];exact h1,h2.upd h⟩;rw [ZD (Zz q n)];exact A.same b u q
end
theorem U8{K:Fg}{H0 H:Hp}{l:Addr}{ds:List Dat}{Q:VK}(A:AccZ K H0 l H ds){y:V}{d:Dat}(r:Rz K H y d)(n:ds.length < sizeLine)
  (h:∀H2,AccZ K H0 l H2 (ds++[d])→(∀{v:V} {e:Dat},Rz K H v e→Rz K H2 v e)→(∀b,b≠l→H2 b=H b)→(∀{m:Addr} {es:List Dat},m≠l→AccZ K H0 m H es→AccZ K H0 m H2 es)→Q .non H2):Z5 (.ref l) [y] H Q:=by
 obtain ⟨xs,h1,h2⟩:=A.at_;refine ⟨l,xs,y,rfl,rfl,h1,by rw [h2.length];exact n,h _ ⟨A.Zh,A.new,xs++[y],Zh,?_⟩ (fun q=>Rz.upd q h1) (fun b nb=>ZD nb) fun ne B=>B.other ne A.new h1⟩;exact RzL.upd (h2.append (.cons r .nil)) h1
section
variable{K:Fg}{H:Hp}{Q:VK}{x y:V}{d e:Dat}{ds:List Dat}
open Classical in
theorem yE(hd:Rep K H x d)(he:Rep K H y (.list ds))(ka:∀e∈ds,kqdOk 8 e=true)(kd:kqdOk 8 d=true)(h1:d∉ds→Q (.bl true) H)(h2:d∈ds→Q (.bl false) H):rInD K true x y H Q:=by
 refine ⟨d,ds,hd,he,ka,kd,?_⟩;by_cases z:d∈ds
 ·have q:=h2 z;simpa [z] using q
 ·have q:=h1 z;simpa [z] using q
open Classical in
theorem Zir(hd:Rep K H x d)(he:Rep K H y e)(kd:kqdOk 8 d=true)(ke:kqdOk 8 e=true)(h1:d=e→Q (.bl true) H)(h2:d≠e→Q (.bl false) H):rEqD K x y H Q:=by
 refine ⟨d,e,hd,he,kd,ke,?_⟩;by_cases z:d=e
 ·have q:=h1 z;rw [decide_eq_true z];exact q
 ·have q:=h2 z;rw [decide_eq_false z];exact q
end
end L2
namespace L2
open PySem PySem.Spec PyProof.Rows
def hiN(n:Nat):Option Int→Nat
 | none=>n
 | some j=>min j.toNat n
def hiL(l:List Nat):Option Int→List Nat
 | none=>l
 | some j=>l.take j.toNat
theorem ZeO(n:Nat)(hi:Option Int):hiN n hi≤n:=by
 cases hi with
 | none=>exact Nat.le_refl _
 | some j=>exact Nat.min_le_right _ _
def scut(z:Str)(lo hi:Option Int):Str:=⟨((hiL z.cps.toList hi).drop (lo.getD 0).toNat).toArray⟩
def NN:Option Int→Prop
 | none=>True
 | some i=>0≤i
theorem sidx{lo hi:Option Int}(n:Nat)(hl:NN lo)(hh:NN hi):Builtin.Str.strSliceIndices lo hi 1 n=(List.range (hiN n hi - min (lo.getD 0).toNat n)).map (fun k=>min (lo.getD 0).toNat n+k):=by
 have core:∀(a b:Nat),a≤n→b≤n→sliceRange (a:Int) (b:Int) 1=(List.range (b - a)).map (fun k=>a+k):=by
  intro a b ha hb;simp only [sliceRange,show ((1:Int) > 0)=True from by simp,if_true];by_cases hlt:(a:Int) < b
  ·have e3:(((b:Int) - a+1 - 1) / 1).toNat=b - a:=by rw [Int.ediv_one];omega
   simp only [hlt,if_true,e3];refine List.map_congr_left fun k _=>?_
   omega
  ·have:b - a=0:=by omega
   simp [hlt,this]
 have clip:∀i:Int,0≤i→max (0:Int) (min (if i < 0 then i+n else i) n)=((min i.toNat n:Nat):Int):=by
  intro i hi;rw [if_neg (by omega)];omega
 cases lo with
 | none =>
  cases hi with
  | none =>
   have:=core 0 n (by omega) (by omega)
   simpa [Builtin.Str.strSliceIndices,hiN] using this
  | some j =>
   have:=core 0 (min j.toNat n) (by omega) (by omega)
   simp only [Builtin.Str.strSliceIndices,show ((1:Int) > 0)=True from by simp,if_true];rw [clip j hh];simpa [hiN] using this
 | some i =>
  cases hi with
  | none =>
   have:=core (min i.toNat n) n (by omega) (by omega)
   simp only [Builtin.Str.strSliceIndices,show ((1:Int) > 0)=True from by simp,if_true];rw [clip i hl];simpa [hiN] using this
  | some j =>
   have:=core (min i.toNat n) (min j.toNat n) (by omega) (by omega)
   simp only [Builtin.Str.strSliceIndices,show ((1:Int) > 0)=True from by simp,if_true];rw [clip i hl,clip j hh];simpa [hiN] using this
theorem Zdo(z:Str){lo hi:Option Int}(hl:NN lo)(hh:NN hi):Txt.slice z lo hi=scut z lo hi:=by
 have len:z.cps.toList.length=z.length:=by simp [Str.length]
 have e:=sidx z.length hl hh;have p:=StrLaws.picks z.cps.toList (hiN z.length hi - min (lo.getD 0).toNat z.length) (min (lo.getD 0).toNat z.length) (by have:=ZeO z.length hi;rw [len];omega)
 have q:(z.cps.toList.drop (min (lo.getD 0).toNat z.length)).take (hiN z.length hi - min (lo.getD 0).toNat z.length)=(hiL z.cps.toList hi).drop (lo.getD 0).toNat:=by
  generalize (lo.getD 0).toNat=a;cases hi with
  | none =>
   show List.take (z.length - min a z.length) (List.drop (min a z.length) z.cps.toList)=List.drop a z.cps.toList;by_cases ha:a≤z.length
   ·rw [Nat.min_eq_left ha,List.take_of_length_le (by rw [List.length_drop,len];exact Nat.le_refl _)]
   ·rw [Nat.min_eq_right (by omega),List.drop_of_length_le (by rw [len];exact Nat.le_refl _),List.drop_of_length_le (by rw [len];omega)];simp
  | some j =>
   show List.take (min j.toNat z.length - min a z.length) (List.drop (min a z.length) z.cps.toList)=List.drop a (z.cps.toList.take j.toNat);rw [List.drop_take];generalize j.toNat=b;by_cases ha:a≤z.length
   ·rw [Nat.min_eq_left ha];by_cases hb:b≤z.length
    ·rw [Nat.min_eq_left hb]
    ·rw [Nat.min_eq_right (by omega),List.take_of_length_le (by rw [List.length_drop,len];exact Nat.le_refl _),List.take_of_length_le (by rw [List.length_drop,len];omega)]
   ·rw [Nat.min_eq_right (by omega:z.length≤a),List.drop_of_length_le (by rw [len];exact Nat.le_refl _),List.drop_of_length_le (by rw [len];omega)];simp
 have r:(Builtin.Str.strSliceIndices lo hi 1 z.length).filterMap (z.cps[·]?)=(hiL z.cps.toList hi).drop (lo.getD 0).toNat:=by
  rw [← q,← p,e];simp
 unfold Txt.slice scut;split
 ·rename_i c;have c':(Builtin.Str.strSliceIndices lo hi 1 z.length).length=z.length:=by simpa using c
  rw [e,List.length_map,List.length_range] at c'
  have w:(z.cps.toList.drop (min (lo.getD 0).toNat z.length)).take (hiN z.length hi - min (lo.getD 0).toNat z.length)=z.cps.toList:=by
   have b:=ZeO z.length hi;by_cases h0:z.length=0
   ·have:z.cps.toList=[]:=List.length_eq_zero_iff.mp (by rw [len];exact h0)
    rw [this];simp
   ·have a0:min (lo.getD 0).toNat z.length=0:=by omega
    rw [a0,List.drop_zero,List.take_of_length_le (by rw [len];omega)]
  rw [← q,w]
 ·rw [r]
def rSlS:V→Option Int→Option Int→Hp→VK→Prop:=fun x lo hi H Q=>∃z,x = .str z∧z.length≤sizeLine∧NN lo∧NN hi∧Q (.str (scut z lo hi)) H
section
variable{X:Cx}
theorem Zgx:SlR X rSlS:=by
 intro pins s σ H x v vl vu lo hi sl Q I rx hs pl pu h;obtain ⟨z,rfl,hz,hl,hh,q⟩:=h;obtain ⟨t,rfl⟩:=rx;refine ⟨"str",_,F.slot_str_getitem.lookup,typeIs_str _ _ _,?_⟩
 have fin:∀(l u:Option (Int×Tok)),l.map (·.1)=lo→u.map (·.1)=hi→(sliceMade z t l u none).post (EP X pins σ Q) s:=by
  intro l u el eu
  have e:sliceMade z t l u none=if ((1:Int) == 1 && (Builtin.Str.strSliceIndices lo hi 1 z.length).length == z.length)=true then Made.val (.str z t) else .str ⟨((Builtin.Str.strSliceIndices lo hi 1 z.length).filterMap (z.cps[·]?)).toArray⟩:=by
   unfold sliceMade slicePicked;rw [el,eu];rfl
  rw [e];have lt:=Txt.slice_le z lo hi;have eq:=Zdo z hl hh;unfold Txt.slice at lt eq;refine post_val_or_str ⟨Nat.le_trans lt hz,fun t' k=>⟨.str (scut z lo hi),H,I.tok k,⟨t',?_⟩,q⟩⟩;rw [eq]
 cases pl with
 | none =>
  cases pu with
  | none=>exact wpAny_getItem_str_slice (l:=none) (u:=none) (st:=none) hs rfl (fin none none rfl rfl)
  | int j tj=>exact wpAny_getItem_str_slice (l:=none) (u:=some (j,tj)) (st:=none) hs rfl (fin none (some (j,tj)) rfl rfl)
 | int i ti =>
  cases pu with
  | none=>exact wpAny_getItem_str_slice (l:=some (i,ti)) (u:=none) (st:=none) hs rfl (fin (some (i,ti)) none rfl rfl)
  | int j tj=>exact wpAny_getItem_str_slice (l:=some (i,ti)) (u:=some (j,tj)) (st:=none) hs rfl (fin (some (i,ti)) (some (j,tj)) rfl rfl)
end
section
variable{prog:Program}{w:World}{A:Around}{E:Value→Shared→Prop}{s:Shared}{d it:Addr}{es:Array DictEntry}{ep i:Nat}
end
section
variable{X:Cx}{pins:List (Addr×Obj)}{σ : St}{H:Hp}{s:Shared}{h':Heap}
theorem Inv.Ga{t':Nat}{fp:List Addr}(I:Inv X pins σ H s)(k:∀b o,b∉fp→s.heap.get? b=some o→h'.get? b=some o)(hf:∀b∈fp,FpOk X pins H b):Inv X pins σ H { s with heap:=h',toks:=t' }:=by
 have nit:∀b u,H b=some u→b∉fp:=fun b u e z=>by
  have q:=(hf b z).1;rw [q] at e;cases e
 refine I.step (g':=s.gens) (d':=s.drawn) (ch:=fp) (fun b hb=>⟨(hf b hb).2.2.2.1,(hf b hb).2.1,(hf b hb).2.2.2.2.1,(hf b hb).2.2.2.2.2⟩) (fun b o _ _ hc e _=>k b o hc e) (fun b o _ _ hc e _=>⟨o.slots,k b o hc e⟩) (fun _ _ _ _ n=>n)
  (fun b o hc e=>⟨o,k b o hc e⟩) (fun _ _ e=>e) (fun _ _ _ e=>e) (fun b ps e=>⟨#[],by rw [e,Array.append_empty]⟩) (fun m hm=>?_) (fun b u e=>?_) I.bare
 ·obtain ⟨o,es,ep,ho,r⟩:=hm;exact ⟨o,es,ep,k _ o (fun z=>(hf _ z).2.1 rfl) ho,r⟩
 ·refine (I.hok b u e).stay (fun c v hc q=>k c v ?_ q) (fun _ q=>q) fun _ _ q=>q
  rcases hc with z | z
  ·rw [z];exact nit b u e
  ·exact nit c _ z
end
structure Drw (prog:Program) (w:World) (it l:Addr) (xs:Array Value) (St:Nat→Heap→Prop):Prop where
 keep:∀k h h',St k h→(∀b,b=it∨b=l→∀o,h.get? b=some o→h'.get? b=some o)→St k h'
 there:∀k h,St k h→it < h.objs.size∧∃o,h.get? it=some o∧∀v,o.data≠.cell v
 item:∀(A:Around) (E:Value→Shared→Prop) (s:Shared) (k:Nat) (x:Value) (Q:Value→Shared→Prop),St k s.heap→xs[k]? = some x→(∀h',St (k+1) h'→Heap.SameBut it s.heap h'→Q x { s with heap:=h' })→wpAny (model prog w) A (Builtin.SmallTypes.nextOf (.ref it)) Q E s
 fin:∀(A:Around) (E:Value→Shared→Prop) (s:Shared) (k:Nat) (Q:Value→Shared→Prop),A.handled=none→St k s.heap→xs[k]? = none →
  (∀h' e,Heap.ExtBut it s.heap h'→(∃o,h'.get? e=some o∧o.cls = .type "StopIteration")→E (.ref e) { s with heap:=h' })→wpAny (model prog w) A (Builtin.SmallTypes.nextOf (.ref it)) Q E s
section
variable{prog:Program}{w:World}{A:Around}{E:Value→Shared→Prop}{s:Shared}
theorem Zeo(it l:Addr)(ne:l≠it)(xs:Array Value):Drw prog w it l xs (fun k h=>h.IsListIter it l k∧h.IsList l xs) where
 keep:=fun k h h' st hk=>⟨st.1.at fun o e=>hk it (.inl rfl) o e,st.2.at fun o e=>hk l (.inr rfl) o e⟩
 there:=fun k h ⟨⟨o,e,_,d⟩,_⟩=>⟨Heap.lt_size e,o,e,fun v z=>by rw [d] at z;cases z⟩
 item:=fun A E s k x Q st hx q=>wpAny_nextOf_list_item st.1 st.2 hx fun h' a b=>q h' ⟨a,st.2.at fun o e=>b.extBut l o ne e⟩ b
 fin:=fun A E s k Q hh st hx q=>wpAny_nextOf_list_end hh st.1 st.2 hx q
theorem Zgi(it l:Addr)(ne:l≠it)(xs:Array Value):Drw prog w it l xs (fun k h=>h.IsTupleIter it l k∧h.IsTuple l xs) where
 keep:=fun k h h' st hk=>⟨st.1.at fun o e=>hk it (.inl rfl) o e,by obtain ⟨o,e,r⟩:=st.2;exact ⟨o,hk l (.inr rfl) o e,r⟩⟩
 there:=fun k h ⟨⟨o,e,_,d⟩,_⟩=>⟨Heap.lt_size e,o,e,fun v z=>by rw [d] at z;cases z⟩
 item:=fun A E s k x Q st hx q=>by
  obtain ⟨o,ho,oc,od⟩:=id st.1;obtain ⟨ol,hl,_,nl,dl⟩:=id st.2;unfold Builtin.SmallTypes.nextOf;refine wpAny_bind (wpAny_callSpecial?_slot (name:=Str.ofString "__next__") st.1.typeIs F.slot_tuple_iterator_next (wpAny_call_entry F.slot_tuple_iterator_next st.1.typeIs F.entry_tuple_iterator_next ?_ (F.args_tuple_iterator_next_1 _)));show wpAny _ _ (field (.ref it) 0 >>= _) _ _ s;refine wpAny_bind (wpAny_field ho od (x:=.ref l) rfl ?_);show wpAny _ _ (if (Value.ref l == Value.none)=true then _ else _) _ _ s;rw [if_neg (show ¬ ((Value.ref l == Value.none)=true) from Bool.false_ne_true)];show wpAny _ _ (field (.ref it) 1 >>= _) _ _ s;refine wpAny_bind (wpAny_field ho od (x:=.int k 0) rfl ?_);show wpAny _ _ (seqItems? (.ref l) >>= _) _ _ s;refine wpAny_bind (wpAny_seqItems hl dl ?_);simp only [Int.toNat_natCast,hx];have k2:(s.heap.update it (Obj.mapFields (·.setIfInBounds 1 (rawInt ((k:Int)+1))))).IsTupleIter it l (k+1):=⟨_,Heap.get?_update_self _ ho (Obj.isFreed_of_fields (Obj.data_mapFields od _)),(Obj.cls_mapFields ..).trans oc,by rw [Obj.data_mapFields od];simp [rawInt]⟩
  exact wpAny_bind (wpAny_setField ho od (by simp) (wpAny_pure ⟨x,rfl,wpAny_pure (q _ ⟨k2,⟨ol,(Heap.SameBut.update ..).extBut l ol ne hl,by assumption,nl,dl⟩⟩ (Heap.SameBut.update ..))⟩))
 fin:=fun A E s k Q hh st hx q=>by
  obtain ⟨o,ho,oc,od⟩:=id st.1;obtain ⟨ol,hl,_,nl,dl⟩:=id st.2;unfold Builtin.SmallTypes.nextOf;refine wpAny_bind (wpAny_callSpecial?_slot (name:=Str.ofString "__next__") st.1.typeIs F.slot_tuple_iterator_next (wpAny_call_entry F.slot_tuple_iterator_next st.1.typeIs F.entry_tuple_iterator_next ?_ (F.args_tuple_iterator_next_1 _)));show wpAny _ _ (field (.ref it) 0 >>= _) _ _ s;refine wpAny_bind (wpAny_field ho od (x:=.ref l) rfl ?_);show wpAny _ _ (if (Value.ref l == Value.none)=true then _ else _) _ _ s;rw [if_neg (show ¬ ((Value.ref l == Value.none)=true) from Bool.false_ne_true)];show wpAny _ _ (field (.ref it) 1 >>= _) _ _ s;refine wpAny_bind (wpAny_field ho od (x:=.int k 0) rfl ?_);show wpAny _ _ (seqItems? (.ref l) >>= _) _ _ s;refine wpAny_bind (wpAny_seqItems hl dl ?_);simp only [Int.toNat_natCast,hx];refine wpAny_bind (wpAny_rule (wpAny_bind (wpAny_setField ho od (by simp) ?_)));show wpAny _ _ (newExc (.type "StopIteration") [] >>= _) _ _ _;refine wpAny_bind ?_;simp only [newExc,newTuple];refine wpAny_bind (wpAny_newObj_type ?_ (by size_fits));refine wpAny_bind (m:=firstArgMember _ _) (wpAny_of_eq (a:=Value.none) (by simp only [firstArgMember];rfl) ?_);refine wpAny_newObj_type ?_ (by size_fits);simp only [raiseNew];refine wpAny_bind (wpAny_handled ?_);rw [show A.in1.handled=none from hh];exact wpAny_bind (wpAny_pure (wpAny_throw (q _ _ (((Heap.SameBut.update ..).extBut.push _).push _) ⟨_,Heap.get?_push_size _ rfl,rfl⟩)))
end
structure ZAp (z TI TO i1 i2 l1 l2:Addr):Prop where
 a:i1 < i2
 b:i2 < TI
 c:TI < TO
 d:TO < z
 e:l1 < i1
 f:l2 < i1
theorem Za_{z TI TO i1 i2 l1 l2:Nat}(a:i1 < i2)(b:i2 < TI)(c:TI < TO)(d:TO < z)(e:l1 < i1)(f:l2 < i1) :
  i1≠z∧i2≠z∧TO≠i1∧TO≠i2∧TO≠z∧TI≠z∧TI≠TO∧TI≠i1∧TI≠i2∧i1≠i2∧l1≠z∧l1≠TO∧l1≠i2∧l2≠z∧l2≠TO∧l2≠i1:=by
 have iT:=Nat.lt_trans b c;have iz:=Nat.lt_trans iT d;have jI:=Nat.lt_trans a b;have jT:=Nat.lt_trans a iT;have jz:=Nat.lt_trans a iz;have tz:=Nat.lt_trans c d;exact ⟨Nat.ne_of_lt jz,Nat.ne_of_lt iz,Nat.ne_of_gt jT,Nat.ne_of_gt iT,Nat.ne_of_lt d,Nat.ne_of_lt tz,Nat.ne_of_lt c,Nat.ne_of_gt jI,Nat.ne_of_gt b,Nat.ne_of_lt a,Nat.ne_of_lt (Nat.lt_trans e jz),Nat.ne_of_lt (Nat.lt_trans e jT),Nat.ne_of_lt (Nat.lt_trans e a),Nat.ne_of_lt (Nat.lt_trans f jz),Nat.ne_of_lt (Nat.lt_trans f jT),Nat.ne_of_lt f⟩
section
variable{prog:Program}{w:World}{A:Around}{E:Value→Shared→Prop}{s:Shared}{z TI TO i1 i2 l1 l2:Addr}{xs ys:Array Value}{S1 S2:Nat→Heap→Prop}{k:Nat}
structure ZAt (z TI TO i1 i2:Addr) (S1 S2:Nat→Heap→Prop) (k:Nat) (h:Heap):Prop where
 z:IsZip h z TI TO .none
 i:IsPair h TI (.ref i1) (.ref i2)
 o:∃a b,IsPair h TO a b
 s1:S1 k h
 s2:S2 k h
theorem zu {T:Addr} {a b x:Value} {j:Nat} {Q:Unit→Shared→Prop} (hT:IsPair s.heap T a b) (q:∀h',h'.get? T=some { cls:=.type "tuple",data:=.seq ((#[a,b]:Array Value).setIfInBounds j x) }→Heap.SameBut T s.heap h'→Q () { s with heap:=h' }) :
  wpAny (model prog w) A (updateSeq T (·.setIfInBounds j x)) Q E s:=wpAny_updateSeq_pair hT q
theorem Zey(D:ZAp z TI TO i1 i2 l1 l2)(W1:Drw prog w i1 l1 xs S1)(W2:Drw prog w i2 l2 ys S2)(st:ZAt z TI TO i1 i2 S1 S2 k s.heap){Q:Option Value→Shared→Prop} :
  (∀x y,xs[k]? = some x→ys[k]? = some y→(∀h',IsZip h' z TI TO (rawInt s.heap.objs.size)→IsPair h' TI (.ref i1) (.ref i2)→(∃a b,IsPair h' TO a b)→S1 (k+1) h'→S2 (k+1) h'→IsPair h' s.heap.objs.size x y →
   (∀c o,c∉[z,TI,TO,i1,i2]→s.heap.get? c=some o→h'.get? c=some o)→Q (some (.ref s.heap.objs.size)) { s with heap:=h' })→wpAny (model prog w) A (pyNext (.ref z)) Q E s) ∧
  (A.handled=none→(xs[k]? = none∨ys[k]? = none)→(∀h',(∀c o,c∉[z,TI,TO,i1,i2]→s.heap.get? c=some o→h'.get? c=some o)→Q none { s with heap:=h' })→wpAny (model prog w) A (pyNext (.ref z)) Q E s):=by
 obtain ⟨d1,d2,d3,d4,d5,d6⟩:=D;obtain ⟨hz,hI,⟨a,b,hO⟩,t1,t2⟩:=st;have ty:s.TypeIs (.ref z) "zip":=⟨_,hz,rfl⟩
 obtain ⟨n1,n2,nO1,nO2,nOz,nIz,nIO,nI1,nI2,n12,q1,q2,q3,q4,q5,q6⟩:=Za_ d1 d2 d3 d4 d5 d6
 have m1:∀{c h h':_},c∈[z,TO,i2]→Heap.ExtBut c h h'→∀k,S1 k h→S1 k h':=fun {c h h'} hc x k t=>W1.keep k h h' t fun b hb o e=>x b o (by
  rcases hb with rfl | rfl <;> (simp only [List.mem_cons,List.not_mem_nil,or_false] at hc;rcases hc with rfl | rfl | rfl <;> first | assumption | (apply Ne.symm;assumption))) e
 have m2:∀{c h h':_},c∈[z,TO,i1]→Heap.ExtBut c h h'→∀k,S2 k h→S2 k h':=fun {c h h'} hc x k t=>W2.keep k h h' t fun b hb o e=>x b o (by
  rcases hb with rfl | rfl <;> (simp only [List.mem_cons,List.not_mem_nil,or_false] at hc;rcases hc with rfl | rfl | rfl <;> first | assumption | (apply Ne.symm;assumption))) e
 constructor
 ·intro x y hx hy q;unfold pyNext;refine wpAny_bind (wpAny_attempt (wpAny_callSpecial?_slot (name:=Str.ofString "__next__") ty F.slot_zip_next (wpAny_call_entry F.slot_zip_next ty F.entry_zip_next ?_ (F.args_zip_next_1 _))));show wpAny _ _ (field (.ref z) 2 >>= _) _ _ _;refine wpAny_bind (wpAny_field hz rfl (x:=.bool false) rfl ?_);show wpAny _ _ (field (.ref z) 3 >>= _) _ _ _;refine wpAny_bind (wpAny_field hz rfl (x:=.ref TI) rfl (wpAny_bind (wpAny_seqItems hI rfl ?_)));show wpAny _ _ (Builtin.SmallTypes.ownedTupleIsFree (.ref z) >>= _) _ _ _;refine wpAny_bind ?_;unfold Builtin.SmallTypes.ownedTupleIsFree;refine wpAny_bind (wpAny_field hz rfl (x:=.none) rfl (wpAny_pure ?_));simp only [if_true];refine wpAny_bind (wpAny_rule (wpAny_bind (wpAny_field hz rfl (x:=.ref TO) rfl (wpAny_bind (wpAny_setField_rec hz (by simp) fun h1 hz1 hs1=>?_)))));replace hz1:IsZip h1 z TI TO .ellipsis:=hz1;refine wpAny_bind ?_;simp only [List.zipIdx_cons,List.zipIdx_nil,List.forIn_cons,List.forIn_nil];refine wpAny_bind (wpAny_bind (wpAny_onRaise ?_));show wpAny _ _ (Builtin.SmallTypes.nextOf (.ref i1) >>= _) _ _ _;refine wpAny_bind (W1.item _ _ _ k x _ (m1 (by simp) hs1.extBut k t1) hx fun h2 t12 hs2=>wpAny_pure ?_);have hO2:IsPair h2 TO a b:=hs2.extBut _ _ nO1 (hs1.extBut _ _ nOz hO);refine wpAny_bind (wpAny_seqItems hO2 rfl (wpAny_bind (zu hO2 fun h3 hO3 hs3=>?_)));replace hO3:IsPair h3 TO x b:=hO3;refine wpAny_bind (wpAny_letGo (wpAny_pure (wpAny_bind (wpAny_bind (wpAny_onRaise ?_)))));show wpAny _ _ (Builtin.SmallTypes.nextOf (.ref i2) >>= _) _ _ _;refine wpAny_bind (W2.item _ _ _ k y _ (m2 (by simp) hs3.extBut k (m2 (by simp) hs2.extBut k (m2 (by simp) hs1.extBut k t2))) hy fun h4 t24 hs4=>wpAny_pure ?_);have hO4:IsPair h4 TO x b:=hs4.extBut _ _ nO2 hO3;refine wpAny_bind (wpAny_seqItems hO4 rfl (wpAny_bind (zu hO4 fun h5 hO5 hs5=>?_)));replace hO5:IsPair h5 TO x y:=hO5;refine wpAny_bind (wpAny_letGo (wpAny_pure (wpAny_pure (wpAny_bind (wpAny_seqItems hO5 rfl (wpAny_bind (wpAny_newTuple ?_)))))));have sz:h5.objs.size=s.heap.objs.size:=by rw [hs5.1,hs4.1,hs3.1,hs2.1,hs1.1]
  have hz5:IsZip h5 z TI TO .ellipsis:=hs5.extBut _ _ nOz.symm (hs4.extBut _ _ n2.symm (hs3.extBut _ _ nOz.symm (hs2.extBut _ _ n1.symm hz1)))
  have all5:∀c o,c∉[z,TI,TO,i1,i2]→s.heap.get? c=some o→h5.get? c=some o:=fun c o hc e=>by
   simp only [List.mem_cons,List.not_mem_nil,or_false,not_or] at hc;exact hs5.extBut _ _ hc.2.2.1 (hs4.extBut _ _ hc.2.2.2.2 (hs3.extBut _ _ hc.2.2.1 (hs2.extBut _ _ hc.2.2.2.1 (hs1.extBut _ _ hc.1 e))))
  have hI5:IsPair h5 TI (.ref i1) (.ref i2):=hs5.extBut _ _ nIO (hs4.extBut _ _ nI2 (hs3.extBut _ _ nIO (hs2.extBut _ _ nI1 (hs1.extBut _ _ nIz hI))));have zlt:z < h5.objs.size:=Heap.lt_size hz5;show wpAny _ _ (Builtin.SmallTypes.ownedTupleHandOut (.ref z) (.ref h5.objs.size) >>= _) _ _ _;refine wpAny_bind ?_;unfold Builtin.SmallTypes.ownedTupleHandOut;have hz6:IsZip (h5.push { cls:=.type "tuple",data:=.seq #[x,y] }) z TI TO .ellipsis:=Heap.get?_push_of_some _ hz5;refine wpAny_bind (wpAny_setField_rec hz6 (by simp) fun h7 hz7 hs7=>?_);replace hz7:IsZip h7 z TI TO (rawInt h5.objs.size):=hz7;refine wpAny_setField_rec hz7 (by simp) fun h8 hz8 hs8=>?_;replace hz8:IsZip h8 z TI TO (rawInt h5.objs.size):=hz8
  have up:∀c o,c≠z→h5.get? c=some o→h8.get? c=some o:=fun c o c1 e=>hs8.extBut _ _ c1 (hs7.extBut _ _ c1 (Heap.get?_push_of_some _ e))
  have hT:IsPair h8 h5.objs.size x y:=hs8.extBut _ _ (Nat.ne_of_gt zlt) (hs7.extBut _ _ (Nat.ne_of_gt zlt) (Heap.get?_push_size _ rfl));have t1':S1 (k+1) h8:=W1.keep _ _ _ (m1 (by simp) hs5.extBut _ (m1 (by simp) hs4.extBut _ (m1 (by simp) hs3.extBut _ t12))) fun c hc o e=>up c o (by rcases hc with rfl | rfl <;> first | assumption | (apply Ne.symm;assumption)) e
  have t2':S2 (k+1) h8:=W2.keep _ _ _ (m2 (by simp) hs5.extBut _ t24) fun c hc o e=>up c o (by rcases hc with rfl | rfl <;> first | assumption | (apply Ne.symm;assumption)) e
  rw [sz] at hz8 hT;refine wpAny_pure ⟨_,rfl,?_⟩;show wpAny _ _ (pure (some (Value.ref h5.objs.size))) _ _ _;rw [sz];exact wpAny_pure (q h8 hz8 (up _ _ nIz hI5) ⟨_,_,up _ _ nOz hO5⟩ t1' t2' hT fun c o hc e=>up c o (fun x=>hc (by simp [x])) (all5 c o hc e))
 ·intro hh hend q
  have stop:∀(h9:Heap) (e:Addr),(∀c o,c∉[z,TI,TO,i1,i2]→s.heap.get? c=some o→h9.get? c=some o)→(∃o,h9.get? e=some o∧o.cls = .type "StopIteration") →
    wpAny (model prog w) A (isInstance (.ref e) (.type "StopIteration") >>= fun b=>if b=true then pure none else throw (.ref e)) Q E { s with heap:=h9 }:=fun h9 e kp ⟨o,ho,oc⟩ =>
   wpAny_bind (wpAny_isInstance (T:="StopIteration") (b:=true) ⟨o,ho,oc⟩ isSubtype_stop (wpAny_pure (q _ kp)))
  unfold pyNext;refine wpAny_bind (wpAny_attempt (wpAny_callSpecial?_slot (name:=Str.ofString "__next__") ty F.slot_zip_next (wpAny_call_entry F.slot_zip_next ty F.entry_zip_next ?_ (F.args_zip_next_1 _))));show wpAny _ _ (field (.ref z) 2 >>= _) _ _ _;refine wpAny_bind (wpAny_field hz rfl (x:=.bool false) rfl ?_);show wpAny _ _ (field (.ref z) 3 >>= _) _ _ _;refine wpAny_bind (wpAny_field hz rfl (x:=.ref TI) rfl (wpAny_bind (wpAny_seqItems hI rfl ?_)));show wpAny _ _ (Builtin.SmallTypes.ownedTupleIsFree (.ref z) >>= _) _ _ _;refine wpAny_bind ?_;unfold Builtin.SmallTypes.ownedTupleIsFree;refine wpAny_bind (wpAny_field hz rfl (x:=.none) rfl (wpAny_pure ?_));simp only [if_true];refine wpAny_bind (wpAny_rule (wpAny_bind (wpAny_field hz rfl (x:=.ref TO) rfl (wpAny_bind (wpAny_setField_rec hz (by simp) fun h1 hz1 hs1=>?_)))));replace hz1:IsZip h1 z TI TO .ellipsis:=hz1;refine wpAny_bind ?_;simp only [List.zipIdx_cons,List.zipIdx_nil,List.forIn_cons,List.forIn_nil];refine wpAny_bind (wpAny_bind (wpAny_onRaise ?_));show wpAny _ _ (Builtin.SmallTypes.nextOf (.ref i1) >>= _) _ _ _;cases hx:xs[k]? with
  | none =>
   refine wpAny_bind (W1.fin _ _ _ k _ hh (m1 (by simp) hs1.extBut k t1) hx fun h2 e hs2 ⟨oe,hoe,hce⟩=>?_);have hz2:IsZip h2 z TI TO .ellipsis:=hs2 _ _ n1.symm hz1;have ez:e≠z:=fun x=>by subst x;rw [hz2] at hoe;cases hoe;simp at hce
   refine wpAny_setField_rec hz2 (by simp) fun h3 _ hs3=>stop h3 e (fun c o hc u=>?_) ⟨oe,hs3.extBut _ _ ez hoe,hce⟩
   simp only [List.mem_cons,List.not_mem_nil,or_false,not_or] at hc;exact hs3.extBut _ _ hc.1 (hs2 _ _ hc.2.2.2.1 (hs1.extBut _ _ hc.1 u))
  | some x =>
   have hy:ys[k]? = none:=by rcases hend with u | u;rw [hx] at u;cases u;exact u
   refine wpAny_bind (W1.item _ _ _ k x _ (m1 (by simp) hs1.extBut k t1) hx fun h2 t12 hs2=>wpAny_pure ?_);have hO2:IsPair h2 TO a b:=hs2.extBut _ _ nO1 (hs1.extBut _ _ nOz hO);refine wpAny_bind (wpAny_seqItems hO2 rfl (wpAny_bind (zu hO2 fun h3 hO3 hs3=>?_)));refine wpAny_bind (wpAny_letGo (wpAny_pure (wpAny_bind (wpAny_bind (wpAny_onRaise ?_)))));show wpAny _ _ (Builtin.SmallTypes.nextOf (.ref i2) >>= _) _ _ _;refine wpAny_bind (W2.fin _ _ _ k _ hh (m2 (by simp) hs3.extBut k (m2 (by simp) hs2.extBut k (m2 (by simp) hs1.extBut k t2))) hy fun h4 e hs4 ⟨oe,hoe,hce⟩=>?_);have hz4:IsZip h4 z TI TO .ellipsis:=hs4 _ _ n2.symm (hs3.extBut _ _ nOz.symm (hs2.extBut _ _ n1.symm hz1));have ez:e≠z:=fun x=>by subst x;rw [hz4] at hoe;cases hoe;simp at hce
   refine wpAny_setField_rec hz4 (by simp) fun h5 _ hs5=>stop h5 e (fun c o hc u=>?_) ⟨oe,hs5.extBut _ _ ez hoe,hce⟩
   simp only [List.mem_cons,List.not_mem_nil,or_false,not_or] at hc;exact hs5.extBut _ _ hc.1 (hs4 _ _ hc.2.2.2.2 (hs3.extBut _ _ hc.2.2.1 (hs2.extBut _ _ hc.2.2.2.1 (hs1.extBut _ _ hc.1 u))))
end
inductive Kn | L | T
def Kn.sq(k:Kn)(K:Fg)(H:Hp)(a:Addr)(xs:List V):Prop:=match k with
 | .L=>SqL K H a xs
 | .T=>SqT K H a xs
def Kn.it(k:Kn)(h:Heap)(i l:Addr)(j:Nat):Prop:=match k with
 | .L=>h.IsListIter i l j
 | .T=>h.IsTupleIter i l j
def Kn.seq(k:Kn)(h:Heap)(l:Addr)(xs:Array Value):Prop:=match k with
 | .L=>h.IsList l xs
 | .T=>h.IsTuple l xs
def Kn.obj(k:Kn)(l:Addr):Obj:=match k with
 | .L=>{ cls:=.type "list_iterator",data:=.fields #[.ref l,.int 0 0] }
 | .T=>{ cls:=.type "tuple_iterator",data:=.fields #[.ref l,.int 0 0] }
section
variable{prog:Program}{w:World}{A:Around}{E:Value→Shared→Prop}{s:Shared}
theorem Kn.drw(k:Kn)(it l:Addr)(ne:l≠it)(xs:Array Value):Drw prog w it l xs (fun j h=>k.it h it l j∧k.seq h l xs):=by
 cases k
 ·exact Zeo it l ne xs
 ·exact Zgi it l ne xs
theorem Kn.itAt(k:Kn){h h':Heap}{it l:Addr}{j:Nat}(t:k.it h it l j)(e:∀o,h.get? it=some o→h'.get? it=some o):k.it h' it l j:=by
 cases k
 ·exact Heap.IsListIter.at t e
 ·exact Heap.IsTupleIter.at t e
theorem Kn.je(k:Kn){h:Heap}{it l:Addr}{j:Nat}(t:k.it h it l j):∃o,h.get? it=some o∧∀v,o.data≠.cell v:=by
 cases k <;> (obtain ⟨o,e,_,d⟩:=t;exact ⟨o,e,fun v z=>by rw [d] at z;cases z⟩)
theorem Kn.Zfa(k:Kn){h h':Heap}{l:Addr}{xs:Array Value}(t:k.seq h l xs)(e:∀o,h.get? l=some o→h'.get? l=some o):k.seq h' l xs:=by
 cases k
 ·exact Heap.IsList.at t e
 ·obtain ⟨o,a,b⟩:=t;exact ⟨o,e o a,b⟩
theorem Kn.lt(k:Kn){h:Heap}{l:Addr}{xs:Array Value}(t:k.seq h l xs):l < h.objs.size:=by
 cases k <;> (obtain ⟨o,a,_⟩:=t;exact Heap.lt_size a)
theorem Kn.inv{X:Cx}{pins:List (Addr×Obj)}{σ : St}{H:Hp}{s:Shared}(k:Kn)(I:Inv X pins σ H s){a:Addr}{xs:List V}(q:k.sq X.K H a xs):∃its:List Value,Vals xs its∧k.seq s.heap a its.toArray:=by
 cases k
 ·obtain ⟨its,r,p,_⟩:=I.list q;exact ⟨its,r,p.isList⟩
 ·obtain ⟨its,r,p,_⟩:=I.tuple q;exact ⟨its,r,p⟩
theorem Kn.inj{X:Cx}{pins:List (Addr×Obj)}{σ : St}{H:Hp}{s:Shared}(k:Kn)(I:Inv X pins σ H s){a:Addr}{xs ys:List V}(q:k.sq X.K H a xs)(r:k.sq X.K H a ys):xs=ys:=by
 cases k
 ·exact I.yC q r
 ·exact I.yX q r
theorem Kn.it0(k:Kn)(h:Heap)(l:Addr):k.it (h.push (k.obj l)) h.objs.size l 0:=by
 cases k <;> exact ⟨_,Heap.get?_push_size _ rfl,rfl,rfl⟩
def zh (h:Heap) (k1 k2:Kn) (l1 l2:Addr):Heap:=(((((h.push (k1.obj l1)).push (k2.obj l2)).push { cls:=.type "tuple",data:=.seq #[.ref h.objs.size,.ref (h.push (k1.obj l1)).objs.size] }).push { cls:=.type "tuple",data:=.seq #[.none,.none] }).push
 { cls:=.type "zip",data:=.fields #[.none,.bool false,.bool false,.ref ((h.push (k1.obj l1)).push (k2.obj l2)).objs.size,.ref (((h.push (k1.obj l1)).push (k2.obj l2)).push { cls:=.type "tuple",data:=.seq #[.ref h.objs.size,.ref (h.push (k1.obj l1)).objs.size] }).objs.size] })
theorem ZeZ (k1 k2:Kn) (l1 l2:Addr) (xs ys:Array Value):Meets (Builtin.«zip.__new__» ⟨[.type "zip",.ref l1,.ref l2],[]⟩) (fun _ R s=>k1.seq s.heap l1 xs∧k2.seq s.heap l2 ys ∧
  R (.ok (.ret (.ref ((((s.heap.push (k1.obj l1)).push (k2.obj l2)).push { cls:=.type "tuple",data:=.seq #[.ref s.heap.objs.size,.ref (s.heap.push (k1.obj l1)).objs.size] }).push { cls:=.type "tuple",data:=.seq #[.none,.none] }).objs.size))) { s with heap:=zh s.heap k1 k2 l1 l2 }) :=
 .of_wp fun prog w A R s h=>by
  obtain ⟨hp,g,d,tk,os⟩:=s;obtain ⟨a1,a2,h⟩:=h;have hsub:=sub_zip;have b2:k2.seq (hp.push (k1.obj l1)) l2 ys:=k2.Zfa a2 fun o e=>Heap.get?_push_of_some _ e
  cases k1 with
  | L =>
   have c1:Heap.IsList (Shared.heap ⟨hp,g,d,tk,os⟩) l1 xs:=a1;cases k2 with
   | L =>
    have c2:Heap.IsList (Shared.heap ⟨hp.push { cls:=.type "list_iterator",data:=.fields #[.ref l1,.int 0 0] },g,d,tk,os⟩) l2 ys:=b2;wp_walk using wpAny_pyIter_list c1,wpAny_pyIter_list c2;exact ⟨_,rfl,h⟩
   | T =>
    have c2:Heap.IsTuple (Shared.heap ⟨hp.push { cls:=.type "list_iterator",data:=.fields #[.ref l1,.int 0 0] },g,d,tk,os⟩) l2 ys:=b2;wp_walk using wpAny_pyIter_list c1,wpAny_pyIter_tuple c2;exact ⟨_,rfl,h⟩
  | T =>
   have c1:Heap.IsTuple (Shared.heap ⟨hp,g,d,tk,os⟩) l1 xs:=a1;cases k2 with
   | L =>
    have c2:Heap.IsList (Shared.heap ⟨hp.push { cls:=.type "tuple_iterator",data:=.fields #[.ref l1,.int 0 0] },g,d,tk,os⟩) l2 ys:=b2;wp_walk using wpAny_pyIter_tuple c1,wpAny_pyIter_list c2;exact ⟨_,rfl,h⟩
   | T =>
    have c2:Heap.IsTuple (Shared.heap ⟨hp.push { cls:=.type "tuple_iterator",data:=.fields #[.ref l1,.int 0 0] },g,d,tk,os⟩) l2 ys:=b2;wp_walk using wpAny_pyIter_tuple c1,wpAny_pyIter_tuple c2;exact ⟨_,rfl,h⟩
theorem Zgn{k1 k2:Kn}{l1 l2:Addr}{xs ys:Array Value}{Q:Value→Shared→Prop}(a1:k1.seq s.heap l1 xs)(a2:k2.seq s.heap l2 ys)
  (q:∀h' (z TI TO i1 i2:Addr),ZAp z TI TO i1 i2 l1 l2→s.heap.objs.size≤i1→IsZip h' z TI TO .none→IsPair h' TI (.ref i1) (.ref i2)→(∃a b,IsPair h' TO a b)→k1.it h' i1 l1 0→k2.it h' i2 l2 0→(∀c o,s.heap.get? c=some o→h'.get? c=some o)→Q (.ref z) { s with heap:=h' }) :
  wpAny (model prog w) A (call (.type "zip") [.ref l1,.ref l2]) Q E s:=by
 refine callType_new F.called_zip (by decide) (F.typeCall_zip_2 _ _) (F.newCall_zip_2 _ _) (fun obj=>F.args_object_init_3 obj _ _) F.entry_zip_new (ZeZ k1 k2 l1 l2 xs ys) ⟨a1,a2,?_⟩;have lt1:=k1.lt a1;have lt2:=k2.lt a2;have g5:(zh s.heap k1 k2 l1 l2).get? _=some _:=Heap.get?_push_size ((((s.heap.push (k1.obj l1)).push (k2.obj l2)).push { cls:=.type "tuple",data:=.seq #[.ref s.heap.objs.size,.ref (s.heap.push (k1.obj l1)).objs.size] }).push { cls:=.type "tuple",data:=.seq #[.none,.none] }) (o:={ cls:=.type "zip",data:=.fields #[.none,.bool false,.bool false,.ref ((s.heap.push (k1.obj l1)).push (k2.obj l2)).objs.size,.ref (((s.heap.push (k1.obj l1)).push (k2.obj l2)).push { cls:=.type "tuple",data:=.seq #[.ref s.heap.objs.size,.ref (s.heap.push (k1.obj l1)).objs.size] }).objs.size] }) rfl;have g4:(zh s.heap k1 k2 l1 l2).get? _=some _:=Heap.get?_push_of_some _ (Heap.get?_push_size (((s.heap.push (k1.obj l1)).push (k2.obj l2)).push { cls:=.type "tuple",data:=.seq #[.ref s.heap.objs.size,.ref (s.heap.push (k1.obj l1)).objs.size] }) (o:={ cls:=.type "tuple",data:=.seq #[.none,.none] }) rfl);have g3:(zh s.heap k1 k2 l1 l2).get? _=some _:=Heap.get?_push_of_some _ (Heap.get?_push_of_some _ (Heap.get?_push_size ((s.heap.push (k1.obj l1)).push (k2.obj l2)) (o:={ cls:=.type "tuple",data:=.seq #[.ref s.heap.objs.size,.ref (s.heap.push (k1.obj l1)).objs.size] }) rfl));have g2:k2.it (zh s.heap k1 k2 l1 l2) (s.heap.push (k1.obj l1)).objs.size l2 0:=k2.itAt (k2.it0 _ l2) fun o e=>Heap.get?_push_of_some _ (Heap.get?_push_of_some _ (Heap.get?_push_of_some _ e))
 have g1:k1.it (zh s.heap k1 k2 l1 l2) s.heap.objs.size l1 0:=k1.itAt (k1.it0 _ l1) fun o e=>Heap.get?_push_of_some _ (Heap.get?_push_of_some _ (Heap.get?_push_of_some _ (Heap.get?_push_of_some _ e)))
 show _∧_;refine ⟨⟨_,g5,rfl⟩,q _ _ _ _ _ _ ⟨?_,?_,?_,?_,lt1,lt2⟩ (Nat.le_refl _) g5 g3 ⟨_,_,g4⟩ g1 g2 fun c o x=>Heap.get?_push_of_some _ (Heap.get?_push_of_some _ (Heap.get?_push_of_some _ (Heap.get?_push_of_some _ (Heap.get?_push_of_some _ x))))⟩ <;>
 ·simp only [Heap.size_push];exact Nat.lt_succ_self _
end
def Itz(K:Fg)(k1 k2:Kn)(a b:Addr):It :=
 ⟨fun i H=>∃xs ys,k1.sq K H a xs∧k2.sq K H b ys∧i < xs.length∧i < ys.length,fun i H v H'=>∃T x y,H T=none∧v = .ref T∧H'=upd H T (.tup [x,y])∧(∀xs,k1.sq K H a xs→xs[i]? = some x)∧(∀ys,k2.sq K H b ys→ys[i]? = some y),
  fun i H=>∃xs ys,k1.sq K H a xs∧k2.sq K H b ys∧(xs.length≤i∨ys.length≤i)⟩
theorem Zdh{P:Program}{w:World}{K:Fg}{elts:List Expr}{x1}{pos:Pos}{k1 k2:Kn}{a b z TI TO i1 i2:Addr}(D:ZAp z TI TO i1 i2 a b) :
  Turn P w K (.Tuple elts x1 pos) (Itz K k1 k2 a b) [z,TI,TO,i1,i2] z (fun i h=>IsZip h z TI TO .none∧IsPair h TI (.ref i1) (.ref i2)∧(∃x y,IsPair h TO x y)∧k1.it h i1 a i∧k2.it h i2 b i) where
 mem:=by simp
 obj:=fun i h ⟨hz,hI,⟨x,y,hO⟩,t1,t2⟩ c hc=>by
  simp only [List.mem_cons,List.not_mem_nil,or_false] at hc;rcases hc with rfl | rfl | rfl | rfl | rfl
  ·exact ⟨_,hz,fun v q=>by cases (show Data.fields _=Data.cell v from q)⟩
  ·exact ⟨_,hI,fun v q=>by cases (show Data.seq _ _=Data.cell v from q)⟩
  ·exact ⟨_,hO,fun v q=>by cases (show Data.seq _ _=Data.cell v from q)⟩
  ·exact k1.je t1
  ·exact k2.je t2
 keep:=fun i h h' ⟨hz,hI,⟨x,y,hO⟩,t1,t2⟩ kp=>⟨kp z (by simp) _ hz,kp TI (by simp) _ hI,⟨x,y,kp TO (by simp) _ hO⟩,k1.itAt t1 fun o e=>kp i1 (by simp) o e,k2.itAt t2 fun o e=>kp i2 (by simp) o e⟩
 item:=by
  intro X hP hw hK hc i pins s σ H E I hf ⟨hz,hI,hO,t1,t2⟩ hg;subst hP hw hK;obtain ⟨xs,ys,q1,q2,l1,l2⟩:=hg;obtain ⟨v1,r1,p1⟩:=k1.inv I q1;obtain ⟨v2,r2,p2⟩:=k2.inv I q2;obtain ⟨u1,e1,ru1⟩:=r1.get (List.getElem?_eq_getElem l1);obtain ⟨u2,e2,ru2⟩:=r2.get (List.getElem?_eq_getElem l2);obtain ⟨n1,n2,nO1,nO2,nOz,nIz,nIO,nI1,nI2,n12,c1,c2,c3,c4,c5,c6⟩:=Za_ D.a D.b D.c D.d D.e D.f;refine (Zey D (k1.drw i1 a (Nat.ne_of_lt D.e) v1.toArray) (k2.drw i2 b (Nat.ne_of_lt (Nat.lt_trans D.f D.a)) v2.toArray) ⟨hz,hI,hO,⟨t1,p1⟩,⟨t2,p2⟩⟩).1 u1 u2 (by simpa using e1) (by simpa using e2) fun h' hz' hI' hO' s1' s2' hT all=>⟨_,rfl,?_⟩
  refine wpAny_letOwnedTupleGo_zip hz' fun h2 hz2 sb=>?_
  have nT:∀c∈[z,TI,TO,i1,i2],c≠s.heap.objs.size:=fun c hc'=>by
   simp only [List.mem_cons,List.not_mem_nil,or_false] at hc';rcases hc' with rfl | rfl | rfl | rfl | rfl
   ·exact Nat.ne_of_lt (Heap.lt_size hz)
   ·exact Nat.ne_of_lt (Heap.lt_size hI)
   ·obtain ⟨_,_,q⟩:=hO;exact Nat.ne_of_lt (Heap.lt_size q)
   ·obtain ⟨_,q,_⟩:=k1.je t1;exact Nat.ne_of_lt (Heap.lt_size q)
   ·obtain ⟨_,q,_⟩:=k2.je t2;exact Nat.ne_of_lt (Heap.lt_size q)
  have hfr:H s.heap.objs.size=none:=I.hok.fresh (Nat.le_refl _)
  have I1:Inv X pins σ (upd H s.heap.objs.size (.tup [xs[i],ys[i]])) { s with heap:=s.heap.push { cls:=.type "tuple",data:=.seq #[u1,u2] } } :=
   I.laid (t':=s.toks) (fun b u e=>Heap.get?_push_of_some _ e) (Nat.le_refl _) ⟨by show 2≤sizeLine;decide,[u1,u2],.cons ru1 (.cons ru2 .nil),⟨_,Heap.get?_push_size _ rfl,rfl,_,rfl⟩⟩
  have zT:s.heap.objs.size≠z:=(nT z (by simp)).symm
  have I2:Inv X pins σ (upd H s.heap.objs.size (.tup [xs[i],ys[i]])) { s with heap:=h2 }:=Inv.Ga (s:={ s with heap:=s.heap.push { cls:=.type "tuple",data:=.seq #[u1,u2] } }) (t':=s.toks) (fp:=[z,TI,TO,i1,i2]) I1 (fun c o hc' e=>by
   have hcz:c≠z:=fun x=>hc' (by simp [x])
   rcases Heap.get?_push_cases e with ⟨ec,eo⟩ | e
   ·rw [ec,eo];exact sb.extBut _ _ zT hT
   ·exact sb.extBut _ _ hcz (all c o hc' e)) fun c hc'=>⟨by rw [ZD (nT c hc')];exact (hf c hc').1,(hf c hc').2⟩
  refine ⟨.ref s.heap.objs.size,_,I2,rfl,⟨s.heap.objs.size,xs[i],ys[i],hfr,rfl,rfl,fun zs hz=>?_,fun zs hz=>?_⟩,⟨hz2,sb.extBut _ _ nIz hI',?_,k1.itAt s1'.1 fun o e=>sb.extBut _ _ n1 e,k2.itAt s2'.1 fun o e=>sb.extBut _ _ n2 e⟩,fun c hc'=>by rw [ZD (nT c hc')];exact (hf c hc').1⟩
  ·rw [k1.inj I hz q1,List.getElem?_eq_getElem l1]
  ·rw [k2.inj I hz q2,List.getElem?_eq_getElem l2]
  ·obtain ⟨x,y,q⟩:=hO';exact ⟨x,y,sb.extBut _ _ nOz q⟩
 done:=by
  intro X hP hw hK hc i pins s σ H E I hf ⟨hz,hI,hO,t1,t2⟩ hg;subst hP hw hK;obtain ⟨xs,ys,q1,q2,le⟩:=hg;obtain ⟨v1,r1,p1⟩:=k1.inv I q1;obtain ⟨v2,r2,p2⟩:=k2.inv I q2;have e1:=r1.length;have e2:=r2.length
  refine (Zey D (k1.drw i1 a (Nat.ne_of_lt D.e) v1.toArray) (k2.drw i2 b (Nat.ne_of_lt (Nat.lt_trans D.f D.a)) v2.toArray) ⟨hz,hI,hO,⟨t1,p1⟩,⟨t2,p2⟩⟩).2 (I.ok.hd hc) (by
   rcases le with q | q
   ·exact .inl (by simp;omega)
   ·exact .inr (by simp;omega)) fun h' all=>⟨rfl,I.Ga (t':=s.toks) (fun c o hc' e=>all c o hc' e) hf⟩
 self:=fun _ _ _ _ _ st q=>wpAny_pyIter_zip st.1 q
section
variable{X:Cx}
def iZip(K:Fg)(k1 k2:Kn)(ta:TA):TI:=fun σ H R=>ta σ H fun vs H1=>∃a b xs ys,vs=[.ref a,.ref b]∧k1.sq K H1 a xs∧k2.sq K H1 b ys∧R (Itz K k1 k2 a b) H1
theorem ZeW:bootBuiltins "zip" = some (.type "zip"):=by decide +kernel
theorem U4 {k1 k2:Kn} {x y:Expr} {ta:TA} {elts:List Expr} {x1} {p pos tp:Pos} (hg:Gl X "zip") (hm:X.mg "zip" = none) (ha:PA X [x,y] ta) (hs:starEach [x,y] X.env=[(false,eval x X.env),(false,eval y X.env)]:=by rfl) (hs2:starEach [y] X.env=[(false,eval y X.env)]:=by rfl) :
  PI X (.Tuple elts x1 tp) (.Call (.Name "zip" p) [x,y] [] pos) (iZip X.K k1 k2 ta):=by
 intro pins s σ H R I h;refine Call_ (Jl I hg hm ZeW (PyProof.Rows.callWith_type1 (thn (ha pos pins s σ H _ I h) fun us s1 ⟨vs,H1,I1,r1,q1⟩=>?_) (by rw [hs,hs2]) (by rw [hs2];rfl)));obtain ⟨a,b,xs,ys,e,s1q,s2q,q⟩:=q1;subst e;obtain ⟨u1,u2,rfl,ra,rb⟩:=vals2 r1;cases ra;cases rb;obtain ⟨v1,w1,p1⟩:=k1.inv I1 s1q;obtain ⟨v2,w2,p2⟩:=k2.inv I1 s2q;refine Zgn p1 p2 fun h' z TI TO i1 i2 D le hz hI hO t1 t2 kp=>?_
 refine wpAny_pyIter_zip (s:={ s1 with heap:=h' }) hz ?_;refine ⟨z,[z,TI,TO,i1,i2],_,_,H1,rfl,I1.kept (t':=s1.toks) kp,Zdh D,⟨hz,hI,hO,t1,t2⟩,fun c hc=>?_,q⟩
 have le2:s1.heap.objs.size≤c:=by
  have d1:=D.a;have d2:=D.b;have d3:=D.c;have d4:=D.d;simp only [List.mem_cons,List.not_mem_nil,or_false] at hc;rcases hc with rfl | rfl | rfl | rfl | rfl
  ·exact Nat.le_of_lt (Nat.lt_of_le_of_lt le (Nat.lt_trans d1 (Nat.lt_trans d2 (Nat.lt_trans d3 d4))))
  ·exact Nat.le_of_lt (Nat.lt_of_le_of_lt le (Nat.lt_trans d1 d2))
  ·exact Nat.le_of_lt (Nat.lt_of_le_of_lt le (Nat.lt_trans d1 (Nat.lt_trans d2 d3)))
  ·exact le
  ·exact Nat.le_of_lt (Nat.lt_of_le_of_lt le d1)
 exact I1.fpOk le2 (I1.hok.fresh le2)
end
section
variable{K:Fg}{te:TE}{σ : St}{Q:VK}{H:Hp}
def EltG(g:TG)(n:Nat)(te:TE)(σ : St)(v:V)(H:Hp)(D:Addr)(m i:Nat)(Pv:Nat→Hp→Prop):Prop:=∀us:St,us.length=n→g v (us ++ σ) H fun σ2 H2=>(∃us':St,us'.length=n∧σ2=us' ++ σ)∧te σ2 H2 (EltK D m i Pv)
theorem U_{k1 k2:Kn}{a b:Addr}{xs ys:List V}{n:Nat}{g:TG}(h:∀D,H D=none→∃Pv:Nat→Hp→Prop,Pv 0 (upd H D (.lst []))∧(∀i H2,i≤min xs.length ys.length→Pv i H2→k1.sq K H2 a xs∧k2.sq K H2 b ys) ∧
  (∀i x y H2 T,xs[i]? = some x→ys[i]? = some y→Pv i H2→H2 T=none→EltG g n te σ (.ref T) (upd H2 T (.tup [x,y])) D (min xs.length ys.length) i Pv)∧∀H2,Pv (min xs.length ys.length) H2→Q (.ref D) H2):uF (Itz K k1 k2 a b) n g te σ Q H:=by
 intro D nD;obtain ⟨Pv,h0,hl,hs,hd⟩:=h D nD;refine ⟨fun i m H=>m=min xs.length ys.length - i∧i≤min xs.length ys.length∧Pv i H,⟨_,rfl,Nat.zero_le _,h0⟩,?_⟩;rintro i m H ⟨rfl,hi,p⟩;obtain ⟨q1,q2⟩:=hl i H hi p;by_cases hlt:i < min xs.length ys.length
 ·refine .inr ⟨⟨xs,ys,q1,q2,by omega,by omega⟩,fun v H' y us hu=>?_⟩;obtain ⟨T,x,y,nT,rfl,rfl,z1,z2⟩:=y;exact hs i x y H T (z1 xs q1) (z2 ys q2) p nT us hu
 ·have e:i=min xs.length ys.length:=by omega
  subst e;refine .inl ⟨⟨xs,ys,q1,q2,?_⟩,hd H p⟩;rcases Nat.le_total xs.length ys.length with q | q
  ·exact .inl (by rw [Nat.min_eq_left q];exact Nat.le_refl _)
  ·exact .inr (by rw [Nat.min_eq_right q];exact Nat.le_refl _)
end
section
variable{prog:Program}{w:World}{A:Around}{E:Value→Shared→Prop}{s:Shared}
end
section
variable{X:Cx}{e k:Expr}{te tk:TE}{p2 pos:Pos}
end
end L2
namespace L2
open PySem PySem.Spec PyProof.Rows
open PySem.W (Dat kqdOk)
theorem AccZ.Yv{K:Fg}{H0 H:Hp}{l:Addr}{ds:List Dat}(A:AccZ K H0 l H ds){y:V}{d:Dat}(r:Rz K H y d)(n:ds.length < sizeLine){Pv:Hp→Prop}(h:∀H2,AccZ K H0 l H2 (ds++[d])→Pv H2):Push l Pv y H:=by
 obtain ⟨xs,h1,h2⟩:=A.at_;refine ⟨xs,h1,by rw [h2.length];exact n,h _ ⟨A.Zh,A.new,xs++[y],L2.Zh,?_⟩⟩;exact RzL.upd (h2.append (.cons r .nil)) h1
end L2
namespace L2
open PySem
section
variable{K:Fg}{σ : St}{H:Hp}{Q:VK}{te:TE}
theorem Zf1{wi:TI}{n:Nat}{g:TG}(h:wi σ H fun J H1=>uF J n g te σ Q H1):YX wi n g te σ H Q:=h
theorem Zh9{k1 k2:Kn}{ta:TA}{R:It→Hp→Prop}(h:ta σ H fun vs H1=>∃a b xs ys,vs=[.ref a,.ref b]∧k1.sq K H1 a xs∧k2.sq K H1 b ys∧R (Itz K k1 k2 a b) H1):iZip K k1 k2 ta σ H R:=h
end
end L2
namespace L2
open PySem
section
variable{K:Fg}{σ : St}{H:Hp}{Q:VK}{D:Ends}{td ty tv te tk:TE}
end
end L2
namespace L2
open PySem PySem.Spec PyProof.Rows
section
variable{X:Cx}{scope:Scope}
theorem jt{elt iter tg:Expr}{pos:Pos}{wi:TI}{g:TG}{te:TE}{n:Nat}(ys M:List Str)(c:Z8 X.env.scope X.N M ys scope)(hc:X.calm=true)(hi:PI X tg iter wi)(hg:∀C s₀ H₀ fp pins,PG (ZL X ys M scope (clOf scope X.env.cells) C s₀ H₀ fp pins) tg g)(he:∀C s₀ H₀ fp pins,PE (ZL X ys M scope (clOf scope X.env.cells) C s₀ H₀ fp pins) elt te)
  (hn:ys.length=n:=by rfl) (hs:∀v,foldedSetIterable iter X.env v=pure v:=by intro _;rfl):PE X (.ListComp elt [⟨tg,iter,[],0⟩] scope pos) (YX wi n g te):=by
 subst hn;exact ZgT c hc hi hg he hs
theorem ZgM{elt iter tg:Expr}{pos py sp:Pos}{wi:TI}{g:TG}{te:TE}{i n:Nat}{y:Str}(ys M:List Str)(hN:X.N.Nodup)(hy:X.N[i]? = some y)(ly:X.env.scope.names.lookup y=some .local)(c:Z8 X.env.scope X.N M ys scope)(hc:X.calm=true)(hi:PI X tg iter wi)
  (hg:∀C s₀ H₀ fp pins,PG (ZL X ys M scope (clOf scope X.env.cells) C s₀ H₀ fp pins) tg g) (he:∀C s₀ H₀ fp pins,PE (ZL X ys M scope (clOf scope X.env.cells) C s₀ H₀ fp pins) elt te) (hn:ys.length=n:=by rfl)
  (hsw:swapsWith (.ListComp elt [⟨tg,iter,[],0⟩] scope pos) (some (.Name y py)) sp.line X.env=pure true:=by rfl) (hs:∀v,foldedSetIterable iter X.env v=pure v:=by intro _;rfl) :
  PS X (.Assign [.Name y py] (.ListComp elt [⟨tg,iter,[],0⟩] scope pos) sp) (tAsg (YX wi n g te) (Zn i)):=by
 subst hn;exact ZgN hN hy ly c hc hi hg he hsw hs
end
section
variable{X:Cx}
def rAll(K:Fg):List V→Hp→VK→Prop:=fun xs H Q=>∃(a:Addr) (bs:List Bool),xs=[.ref a]∧SqL K H a (bs.map V.bl)∧Q (.bl (bs.all id)) H
def rAny(K:Fg):List V→Hp→VK→Prop:=fun xs H Q=>∃(a:Addr) (bs:List Bool),xs=[.ref a]∧SqL K H a (bs.map V.bl)∧Q (.bl (bs.any id)) H
theorem kZ:∀{bs:List Bool} {us:List Value},Vals (bs.map V.bl) us→LSm.BoolsAre us bs
 | [],_,.nil=>.nil
 | b :: bs,_,.cons r rr=>by
  cases (show _=Value.bool b from r);exact .cons b (kZ rr)
theorem jj{M:Model}{A:Around}{E:Value→Shared→Prop}{s:Shared}{pins:List (Addr×Obj)}{σ : St}{H:Hp}{a:Addr}{bs:List Bool}(d:Bool)(I:Inv X pins σ H s)(q1:SqL X.K H a (bs.map V.bl))(hh:A.handled=none)(hM:M=model X.prog X.w)
  {Qr:Bool→Value→Shared→Prop} {f:(Nat→Bool)→Nat→Bool} {r:Bool} (hf:f (fun i=>(bs[i]?).getD d) bs.length=r) (q:∀h' tk,Inv X pins σ H { s with heap:=h',toks:=tk }→Qr r (.bool r) { s with heap:=h',toks:=tk }) :
  wpAny M A (pyIter (.ref a)) (fun it s₂=>∃I fp wr n P St tr,it = .ref I∧Walks X.prog X.w A I fp wr n P St∧St 0 s₂.heap∧TruthOf X.prog X.w A P tr∧∀h' tk,(∀b o,b∉wr→s₂.heap.get? b=some o→h'.get? b=some o)→Qr r (.bool (f tr n)) { s₂ with heap:=h',toks:=tk }) E s:=by
 subst hM;obtain ⟨its,rv,p,_⟩:=I.list q1;have hl:s.heap.IsList a its.toArray:=p.isList;have hb:=kZ rv;have hlt:a < s.heap.objs.size:=by obtain ⟨_,e,_⟩:=hl;exact Heap.lt_size e
 refine wpAny_pyIter_list hl ⟨s.heap.objs.size,[s.heap.objs.size,a],[s.heap.objs.size],its.toArray.size,_,_,fun i=>(bs[i]?).getD d,rfl,Walks.list hh _ a (Nat.ne_of_lt hlt) its.toArray,⟨⟨_,Heap.get?_push_size _ rfl,rfl,rfl⟩,hl.push _⟩,fun i v s' Q' E' hP hQ=>?_,fun h' tk hk=>?_⟩
 ·obtain ⟨b,e,rfl⟩:=hb.get i v (by simpa using hP);dsimp only at hQ;rw [e] at hQ;exact wpAny_truthy_bool hQ
 ·rw [List.size_toArray,hb.length,hf];exact q h' tk (I.kept (t':=tk) fun b o e=>hk b o (fun z=>absurd (Heap.lt_size e) (by rw [List.mem_singleton.mp z];exact Nat.lt_irrefl _)) (Heap.get?_push_of_some _ e))
theorem Wb (hc:X.calm=true):Ul X (.builtin "all") (rAll X.K):=by
 intro pins s σ H xs us Q I r h;obtain ⟨a,bs,rfl,q1,q⟩:=h;obtain ⟨u,rfl,ru⟩:=vals1 r;cases ru;refine call_all_walk (jj (f:=fun tr n=>(List.range n).all tr) (r:=bs.all id) true I q1 (by have:=I.ok.hd hc;simpa using this) rfl (LSm.range_all bs) (Qr:=fun _ v s'=>EP X pins σ Q v s') fun h' tk I2=>⟨.bl _,H,I2,rfl,q⟩)
theorem Zet (hc:X.calm=true):Ul X (.builtin "any") (rAny X.K):=by
 intro pins s σ H xs us Q I r h;obtain ⟨a,bs,rfl,q1,q⟩:=h;obtain ⟨u,rfl,ru⟩:=vals1 r;cases ru;refine call_any_walk (jj (f:=fun tr n=>(List.range n).any tr) (r:=bs.any id) false I q1 (by have:=I.ok.hd hc;simpa using this) rfl (LSm.range_any bs) (Qr:=fun _ v s'=>EP X pins σ Q v s') fun h' tk I2=>⟨.bl _,H,I2,rfl,q⟩)
theorem Zau:bootBuiltins "all" = some (.builtin "all"):=by decide +kernel
theorem ZhV:bootBuiltins "any" = some (.builtin "any"):=by decide +kernel
end
def yS(J:It)(n:Nat)(g:TG)(tc:TT)(te:TE)(σ : St)(Q:VK)(H1:Hp):Prop:=∀D,H1 D=none→∃W:Nat→Nat→Hp→Prop,(∃m,W 0 m (upd H1 D (.lst [])))∧∀i m H,W i m H →
 (J.stop i H∧Q (.ref D) H)∨(J.go i H∧∀v H',J.yld i H v H'→∀us:St,us.length=n→g v (us ++ σ) H' fun σ2 H2=>(∃us':St,us'.length=n∧σ2=us' ++ σ)∧tc σ2 H2 fun b H3 =>
  if b=true then te σ2 H3 fun y H4=>∃xs,H4 D=some (.lst xs)∧xs.length < sizeLine∧∃m',m' < m∧W (i+1) m' (upd H4 D (.lst (xs++[y]))) else ∃m',m' < m∧W (i+1) m' H3)
def Gr(wi:TI)(n:Nat)(g:TG)(tc:TT)(te:TE):TE:=fun σ H Q=>wi σ H fun J H1=>yS J n g tc te σ Q H1
section
variable{X:Cx}{ys M:List Str}{scope:Scope}{cl:List (Str×Addr)}{C:Addr}{s:Shared}{H:Hp}{fp:List Addr}{pins:List (Addr×Obj)}{σ : St}
theorem Za5{prog:Program}{w:World}{A:Around}{R:Result→Shared→Prop}{s:Shared}{elt target iter c:Expr}{scope:Scope}{pos:Pos}{it acc:Value}{env:Env}(I:Nat→Shared→Prop)
  (turn:∀n s,I n s→wpAny (model prog w) A (pyNext it) (fun r s1=>match r with
   | none=>R (.ok .next) s1
   | some v=>wpAny (model prog w) A (letOwnedTupleGo target it v) (fun _ s2=>wpAny (model prog w) A (assign target env v) (fun _ s3=>wpAny (model prog w) A (isTrue c env (eval c env)) (fun ok s4 =>
     if ok=true then wpAny (model prog w) A (eval elt env) (fun x s5=>wpAny (model prog w) A (call (.builtin "list.append") [acc,x]) (fun _ s6=>∃m,m < n∧I m s6) (fun _ _=>False) s5) (fun _ _=>False) s4
     else ∃m,m < n∧I m s4) (fun _ _=>False) s3) (fun _ _=>False) s2) (fun _ _=>False) s1) (fun _ _=>False) s) (n:Nat) (h:I n s) :
  codeAny (model prog w) A (.compLoop (.ListComp elt [⟨target,iter,[c],0⟩] scope pos) 0 it acc env) R s:=by
 refine codeAny_loop rfl I (fun k s1 hI=>?_) n h;have no:∀{α : Type} {t:Sem α} {P : α→Shared→Prop} {E:Value→Shared→Prop} {z:Shared},wpAny (model prog w) A t P (fun _ _=>False) z→wpAny (model prog w) A t P E z:=fun q=>wpAny_mono q (fun _ _ z=>z) fun _ _ z=>z.elim
 show wpAny _ _ ((compTurn (.ListComp elt [⟨target,iter,[c],0⟩] scope pos) 0 it acc env).onRaise _) _ _ s1;refine wpAny_noted ?_;rw [compTurn_list];refine wpAny_bind (wpAny_standAt (wpAny_bind (no (wpAny_mono (turn k s1 hI) (fun r s2 h2=>?_) fun _ _ z=>z))));cases r with
 | none=>exact wpAny_pure h2
 | some v =>
  refine wpAny_bind (no (wpAny_mono h2 (fun _ s3 h3=>?_) fun _ _ z=>z));refine wpAny_bind (no (wpAny_mono h3 (fun _ s4 h4=>?_) fun _ _ z=>z));refine wpAny_bind (wpAny_tests_one (no (wpAny_mono h4 (fun ok s5 h5=>?_) fun _ _ z=>z)));cases ok with
  | true =>
   rw [if_pos rfl] at h5;refine wpAny_bind (wpAny_bind (no (wpAny_mono h5 (fun x s6 h6=>?_) fun _ _ z=>z)));exact wpAny_bind (no (wpAny_mono h6 (fun _ s7 h7=>wpAny_pure (wpAny_pure ⟨rfl,h7⟩)) fun _ _ z=>z))
  | false =>
   rw [if_neg Bool.false_ne_true] at h5;exact wpAny_pure ⟨rfl,h5⟩
theorem jE{elt iter tg cn:Expr}{pos:Pos}{g:TG}{tc:TT}{te:TE}{tn:Nat→Heap→Prop}{it:Addr}{J:It}{E:Value→Shared→Prop}{QQ:Addr→Hp→Prop}{RR:Value→Addr→Result→Shared→Prop}(I:Inv X pins σ H s)(c:qL X ys M scope cl)(hc:X.calm=true)
  (hg:∀C s₀ H₀ fp pins,PG (ZL X ys M scope cl C s₀ H₀ fp pins) tg g) (ht:∀C s₀ H₀ fp pins,PT (ZL X ys M scope cl C s₀ H₀ fp pins) cn tc) (he:∀C s₀ H₀ fp pins,PE (ZL X ys M scope cl C s₀ H₀ fp pins) elt te) (T:Turn X.prog X.w X.K tg J fp it tn) (st:tn 0 s.heap) (fk:∀b∈fp,FpOk X pins H b)
  (h:yS J ys.length g tc te σ (fun v H'=>∃D,v = .ref D∧QQ D H') H)
  (fin:∀D C H' s',s.heap.objs.size≤C→s'.heap.get? C≠none→(∃m,s'.heap.Ns C m)→H' C=none→Inv X pins σ H' s'→QQ D H'→RR (.ref D) C (.ok .next) s') :
  wpAny (model X.prog X.w) X.A (newList []) (fun acc s₃=>wpAny (model X.prog X.w) X.A (newFunctionEnv scope X.env.globals cl [] X.env.qual none .none (some X.env)) (fun cenv s₄ =>
   codeAny (model X.prog X.w) X.A (.compStart (.ListComp elt [⟨tg,iter,[cn],0⟩] scope pos) 0 (.ref it) acc { cenv with scope:=relabel scope X.env }) (RR acc cenv.locals) s₄) E s₃) E s:=by
 refine wpAny_newObj_type (wpAny_newFunctionEnv c.nocell (by intro y hy;simp at hy) (fun h1 hns hsb=>?_) c.kind);dsimp only at hns hsb ⊢;have hf:H s.heap.objs.size=none:=I.hok.fresh (Nat.le_refl _)
 have I3:Inv X pins σ (upd H s.heap.objs.size (.lst [])) { s with heap:=s.heap.push { cls:=.type "list",dict:=none,data:=.seq ([]:List Value).toArray } } :=
  I.laid (t':=s.toks) (fun b u e=>Heap.get?_push_of_some _ e) (Nat.le_refl _) ⟨by decide,[],_,.nil,Heap.get?_push_size _ rfl⟩
 have eD:∀b u,s.heap.get? b=some u→b≠s.heap.objs.size:=fun b u e=>Nat.ne_of_lt (Heap.lt_size e)
 have fk3:∀b∈fp,FpOk X pins (upd H s.heap.objs.size (.lst [])) b∧∃o,(s.heap.push { cls:=.type "list",dict:=none,data:=.seq ([]:List Value).toArray }).get? b=some o:=fun b hb=>by
  obtain ⟨o,eo,_⟩:=T.obj 0 _ st b hb;obtain ⟨f1,f2⟩:=fk b hb;exact ⟨⟨by rw [ZD (eD b o eo)];exact f1,f2⟩,o,Heap.get?_push_of_some _ eo⟩
 have I4:=Zac (tk:=s.toks+([]:List (Str×Value)).length) I3 c rfl hns hsb fk3;obtain ⟨W,⟨m0,w0⟩,turn⟩:=h _ hf
 have st4:tn 0 h1:=T.keep 0 _ _ st fun b hb o e=>by
  have e2:=Heap.get?_push_of_some { cls:=.type "list",dict:=none,data:=.seq ([]:List Value).toArray } e;exact hsb.extBut b o (Nat.ne_of_lt (Heap.lt_size e2)) (Heap.get?_push_of_some _ e2)
 have stat:∀{H':Hp},(∀b∈fp,H' b=none)→∀b∈fp,FpOk (ZL X ys M scope cl (s.heap.push { cls:=.type "list",dict:=none,data:=.seq ([]:List Value).toArray }).objs.size { s with heap:=s.heap.push { cls:=.type "list",dict:=none,data:=.seq ([]:List Value).toArray } } (upd H s.heap.objs.size (.lst [])) fp pins) [] H' b :=
  fun hn b hb=>⟨hn b hb,(I4.ok.exf b hb).1,I4.ok.exfs b hb,.inl hb,(I4.ok.exf b hb).2,fun p hp=>(fk3 b hb).1.2.2.2.2.2 p (by simpa [ZL] using hp)⟩
 have loop:∀s4:Shared,s4 = { s with heap:=h1,toks:=s.toks+([]:List (Str×Value)).length } →
   codeAny (model X.prog X.w) X.A (.compLoop (.ListComp elt [⟨tg,iter,[cn],0⟩] scope pos) 0 (.ref it) (.ref s.heap.objs.size) (compEnvC scope cl (s.heap.push { cls:=.type "list",dict:=none,data:=.seq ([]:List Value).toArray }).objs.size X.env))
    (RR (.ref s.heap.objs.size) (s.heap.push { cls:=.type "list",dict:=none,data:=.seq ([]:List Value).toArray }).objs.size) s4:=by
  rintro s4 rfl
  refine Za5 (fun n s'=>∃(i:Nat) (us:St) (H':Hp),us.length=ys.length∧Inv (ZL X ys M scope cl (s.heap.push { cls:=.type "list",dict:=none,data:=.seq ([]:List Value).toArray }).objs.size { s with heap:=s.heap.push { cls:=.type "list",dict:=none,data:=.seq ([]:List Value).toArray } } (upd H s.heap.objs.size (.lst [])) fp pins) [] (us ++ σ) H' s'∧tn i s'.heap∧(∀b∈fp,H' b=none)∧W i n H')
   ?_ m0 ⟨0,_,_,List.length_replicate,I4,st4,fun b hb=>(fk3 b hb).1.1,w0⟩
  rintro n s5 ⟨i,us,H5,lu,I5,st5,fr5,w5⟩;rcases turn i n H5 w5 with ⟨stop,Dq,eDq,q⟩ | ⟨go,step⟩
  ·cases eDq;refine thn (T.done (ZL X ys M scope cl _ _ _ _ _) rfl rfl rfl hc i [] s5 _ H5 _ I5 (stat fr5) st5 stop) fun r s6 ⟨er,I6⟩=>?_
   subst er;obtain ⟨m,hn6,_⟩:=id I6.loc;obtain ⟨o6,_,_,ho6,_⟩:=id hn6;exact fin _ _ H5 s6 (by rw [Heap.size_push];exact Nat.le_succ _) (fun z=>by have z':=ho6.symm.trans z;cases z') ⟨m,hn6⟩ I6.free (jB I3 fk3 I6) q
  ·refine thn (T.item (ZL X ys M scope cl _ _ _ _ _) rfl rfl rfl hc i [] s5 _ H5 _ I5 (stat fr5) st5 go) fun r s6 ⟨u,er,h6⟩=>?_
   subst er;refine thn h6 fun _ s7 ⟨v',H7,I7,r7,y7,st7,fr7⟩=>?_
   have I7':=I7.pinned (stat fr7) (T.obj _ _ st7);refine wpAny_mono (hg _ _ _ _ _ _ s7 _ H7 v' u _ I7' r7 (step v' H7 y7 us lu)) (fun _ s8 ⟨σ8,H8,I8,⟨us',lu',e8⟩,q8⟩=>?_) fun _ _ z=>z.elim
   refine wpAny_mono (ht _ _ _ _ _ _ s8 _ H8 _ I8 q8) (fun ok s9 ⟨H9,I9,q9⟩=>?_) fun _ _ z=>z.elim
   subst e8;cases ok with
   | true =>
    rw [if_pos rfl] at q9 ⊢;refine wpAny_mono (he _ _ _ _ _ _ s9 _ H9 _ I9 q9) (fun y s10 ⟨yv,H10,I10,ry,xs,hxs,hlen,m',hm,w10⟩=>?_) fun _ _ z=>z.elim
    refine wpAny_mono (Zy (X:=ZL X ys M scope cl _ _ _ _ _) _ s10 _ H10 (.ref s.heap.objs.size) [yv] (.ref s.heap.objs.size) [y] (fun _ H11=>H11=upd H10 s.heap.objs.size (.lst (xs++[yv]))) I10 rfl (.cons ry .nil) ⟨_,xs,yv,rfl,rfl,hxs,hlen,rfl⟩) (fun _ s11 ⟨z,H11,I11,rz,q11⟩=>?_) fun _ _ z=>z.elim
    subst q11;refine ⟨m',hm,i+1,us',_,lu',I11.Jo (pins:=[]),T.keep _ _ _ st7 fun b hb o e=>(I11.pin (b,o) (List.mem_append_right _ (List.mem_append_right _ (Yc hb e)))).1,fun b hb=>?_,w10⟩;obtain ⟨o,e,_⟩:=T.obj _ _ st7 b hb;exact (I11.pin (b,o) (List.mem_append_right _ (List.mem_append_right _ (Yc hb e)))).2.1
   | false =>
    rw [if_neg Bool.false_ne_true] at q9 ⊢;obtain ⟨m',hm,w9⟩:=q9;refine ⟨m',hm,i+1,us',_,lu',I9.Jo (pins:=[]),T.keep _ _ _ st7 fun b hb o e=>(I9.pin (b,o) (List.mem_append_right _ (List.mem_append_right _ (Yc hb e)))).1,fun b hb=>?_,w9⟩;obtain ⟨o,e,_⟩:=T.obj _ _ st7 b hb;exact (I9.pin (b,o) (List.mem_append_right _ (List.mem_append_right _ (Yc hb e)))).2.1
 exact codeAny_compStart_list (loop _ rfl) (T.self _ 0 _ _ _ st4 (loop _ rfl))
theorem uW{elt iter tg cn:Expr}{pos:Pos}{wi:TI}{g:TG}{tc:TT}{te:TE}{n:Nat}(ys M:List Str)(c0:Z8 X.env.scope X.N M ys scope)(hc:X.calm=true)(hi:PI X tg iter wi)(hg:∀C s₀ H₀ fp pins,PG (ZL X ys M scope (clOf scope X.env.cells) C s₀ H₀ fp pins) tg g)
  (ht:∀C s₀ H₀ fp pins,PT (ZL X ys M scope (clOf scope X.env.cells) C s₀ H₀ fp pins) cn tc) (he:∀C s₀ H₀ fp pins,PE (ZL X ys M scope (clOf scope X.env.cells) C s₀ H₀ fp pins) elt te)
  (hn:ys.length=n:=by rfl) (hs:∀v,foldedSetIterable iter X.env v=pure v:=by intro _;rfl):PE X (.ListComp elt [⟨tg,iter,[cn],0⟩] scope pos) (Gr wi n g tc te):=by
 subst hn;intro pins s σ H Q I h;have c:=c0.sc I.ok
 have hi':PI X tg iter (fun σ H R=>∃R',(∀J H1,R' J H1→R J H1)∧wi σ H R'):=by
  intro pins s σ H R I ⟨R',hR,hw⟩;refine thn (hi pins s σ H R' I hw) fun v s1 h1=>thn h1 fun itv s2 ⟨it,fp,tn,J,H',e,I',T,t0,fk,r⟩=>⟨it,fp,tn,J,H',e,I',T,t0,fk,hR J H' r⟩
 rw [eval_ListComp];refine wpAny_comprehension_free (use:=none) rfl hs c.clos c.kind c.names (thn (hi' pins s σ H (fun J H1=>yS J ys.length g tc te σ (fun v H'=>∃D,v = .ref D∧Q (.ref D) H') H1) I ⟨_,fun J H1 q D nD=>?_,h⟩) fun v s1 h1=>thn h1 fun itv s2 h2=>?_)
 ·obtain ⟨W,w0,t⟩:=q D nD;exact ⟨W,w0,fun i m H w=>(t i m H w).imp (fun z=>⟨z.1,D,rfl,z.2⟩) id⟩
 obtain ⟨it,fp,tn,J,H2,rfl,I2,T,st2,fk2,h3⟩:=h2;refine jE (E:=X.xe) (QQ:=fun D H'=>Q (.ref D) H') I2 c hc hg ht he T st2 fk2 h3 fun D C H' s' hC hl ns fr I' q=>?_
 obtain ⟨m,hn⟩:=ns;refine ⟨m,hn,fun h' hs'=>?_⟩;have sz:=I2.sz;exact ⟨.ref D,H',I'.turned (t':=s'.toks) (fun b o hb e=>(hs'.2 b hb).trans e) fr (I2.fpOk hC fr).2.1 (I2.fpOk hC fr).2.2.2.1 (I2.fpOk hC fr).2.2.2.2.1 (I2.fpOk hC fr).2.2.2.2.2,rfl,q⟩
theorem ZgO{elt iter tg cn:Expr}{pos py sp:Pos}{wi:TI}{g:TG}{tc:TT}{te:TE}{i n:Nat}{y:Str}(ys M:List Str)(hN:X.N.Nodup)(hy:X.N[i]? = some y)(ly:X.env.scope.names.lookup y=some .local)(c0:Z8 X.env.scope X.N M ys scope)(hc:X.calm=true)(hi:PI X tg iter wi)
  (hg:∀C s₀ H₀ fp pins,PG (ZL X ys M scope (clOf scope X.env.cells) C s₀ H₀ fp pins) tg g) (ht:∀C s₀ H₀ fp pins,PT (ZL X ys M scope (clOf scope X.env.cells) C s₀ H₀ fp pins) cn tc) (he:∀C s₀ H₀ fp pins,PE (ZL X ys M scope (clOf scope X.env.cells) C s₀ H₀ fp pins) elt te) (hn:ys.length=n:=by rfl)
  (hsw:swapsWith (.ListComp elt [⟨tg,iter,[cn],0⟩] scope pos) (some (.Name y py)) sp.line X.env=pure true:=by rfl) (hs:∀v,foldedSetIterable iter X.env v=pure v:=by intro _;rfl) :
  PS X (.Assign [.Name y py] (.ListComp elt [⟨tg,iter,[cn],0⟩] scope pos) sp) (tAsg (Gr wi n g tc te) (Zn i)):=by
 subst hn;intro pins s σ H D I h;have c:=c0.sc I.ok
 have hi':PI X tg iter (fun σ H R=>∃R',(∀J H1,R' J H1→R J H1)∧wi σ H R'):=by
  intro pins s σ H R I ⟨R',hR,hw⟩;refine thn (hi pins s σ H R' I hw) fun v s1 h1=>thn h1 fun itv s2 ⟨it,fp,tn,J,H',e,I',T,t0,fk,r⟩=>⟨it,fp,tn,J,H',e,I',T,t0,fk,hR J H' r⟩
 rw [exec_Assign_Name_used _ _ _ _ hsw];refine wpAny_bind (wpAny_standAt (wpAny_bind ?_));show wpAny _ X.A (do let _ ← comprehension (.ListComp elt [⟨tg,iter,[cn],0⟩] scope pos) scope X.env _ (newList []) false (eval iter X.env) (some (assign (.Name y py) X.env))) _ _ s;refine wpAny_bind (wpAny_mono (wpAny_comprehension_free (use:=some (assign (.Name y py) X.env)) (Q:=fun _ s'=>SP X pins D .next s') rfl hs c.clos c.kind c.names (thn (hi' pins s σ H (fun J H1=>yS J ys.length g tc te σ (fun v H'=>∃Da,v = .ref Da∧D.nx (σ.set i (some (.ref Da))) H') H1) I ⟨_,fun J H1 q Da nD=>?_,h⟩) fun v s1 h1=>thn h1 fun itv s2 h2=>?_)) (fun _ s' hq=>wpAny_pure (wpAny_pure hq)) fun _ _ z=>z)
 ·obtain ⟨W,w0,t⟩:=q Da nD;exact ⟨W,w0,fun i m H w=>(t i m H w).imp (fun z=>⟨z.1,Da,rfl,z.2⟩) id⟩
 obtain ⟨it,fp,tn,J,H2,rfl,I2,T,st2,fk2,h3⟩:=h2;refine jE (E:=X.xe) (QQ:=fun Da H'=>D.nx (σ.set i (some (.ref Da))) H') I2 c hc hg ht he T st2 fk2 h3 fun Da C H' s' hC hl ns fr I' q=>?_
 obtain ⟨m,hn⟩:=ns;refine wpAny_assign_Name (Wu I' hN hy (.inl ly) (v:=.ref Da) rfl (fun s3 I3 ⟨a,hsa,ha⟩=>?_) (.inr ly))
 have nC:C≠a:=by
  rcases ha with z | z
  ·rw [z];exact (I2.fpOk hC fr).2.1
  ·exact fun w'=>(I2.fpOk hC fr).2.2.2.2.1 y a z w'.symm
 refine ⟨m,hn.sameBut hsa nC,fun h' hs'=>⟨_,H',I3.turned (t':=s3.toks) (fun b o hb e=>(hs'.2 b hb).trans e) fr (I2.fpOk hC fr).2.1 (I2.fpOk hC fr).2.2.2.1 (I2.fpOk hC fr).2.2.2.2.1 (I2.fpOk hC fr).2.2.2.2.2,q⟩⟩
end
section
variable{K:Fg}{tc:TT}{te:TE}{σ : St}{Q:VK}{H:Hp}
theorem Zf2{wi:TI}{n:Nat}{g:TG}(h:wi σ H fun J H1=>yS J n g tc te σ Q H1):Gr wi n g tc te σ H Q:=h
def SkK(n i:Nat)(Pv:Nat→Hp→Prop):Hp→Prop:=fun H2=>∃m',m' < n - i∧m'=n - (i+1)∧i+1≤n∧Pv (i+1) H2
def EltF(g:TG)(n:Nat)(tc:TT)(te:TE)(σ : St)(v:V)(H:Hp)(D:Addr)(m i:Nat)(Pv:Nat→Hp→Prop):Prop:=∀us:St,us.length=n→g v (us ++ σ) H fun σ2 H2=>(∃us':St,us'.length=n∧σ2=us' ++ σ)∧tc σ2 H2 fun b H3=>if b=true then te σ2 H3 (EltK D m i Pv) else SkK m i Pv H3
theorem skipped{n i:Nat}{Pv:Nat→Hp→Prop}{H2:Hp}(hi:i < n)(h:Pv (i+1) H2):SkK n i Pv H2:=⟨n - (i+1),by omega,rfl,hi,h⟩
theorem ZcW{k1 k2:Kn}{a b:Addr}{xs ys:List V}{n:Nat}{g:TG}(h:∀D,H D=none→∃Pv:Nat→Hp→Prop,Pv 0 (upd H D (.lst []))∧(∀i H2,i≤min xs.length ys.length→Pv i H2→k1.sq K H2 a xs∧k2.sq K H2 b ys) ∧
  (∀i x y H2 T,xs[i]? = some x→ys[i]? = some y→Pv i H2→H2 T=none→EltF g n tc te σ (.ref T) (upd H2 T (.tup [x,y])) D (min xs.length ys.length) i Pv)∧∀H2,Pv (min xs.length ys.length) H2→Q (.ref D) H2):yS (Itz K k1 k2 a b) n g tc te σ Q H:=by
 intro D nD;obtain ⟨Pv,h0,hl,hs,hd⟩:=h D nD;refine ⟨fun i m H=>m=min xs.length ys.length - i∧i≤min xs.length ys.length∧Pv i H,⟨_,rfl,Nat.zero_le _,h0⟩,?_⟩;rintro i m H ⟨rfl,hi,p⟩;obtain ⟨q1,q2⟩:=hl i H hi p;by_cases hlt:i < min xs.length ys.length
 ·refine .inr ⟨⟨xs,ys,q1,q2,by omega,by omega⟩,fun v H' y us hu=>?_⟩;obtain ⟨T,x,y,nT,rfl,rfl,z1,z2⟩:=y;exact hs i x y H T (z1 xs q1) (z2 ys q2) p nT us hu
 ·have e:i=min xs.length ys.length:=by omega
  subst e;refine .inl ⟨⟨xs,ys,q1,q2,?_⟩,hd H p⟩;rcases Nat.le_total xs.length ys.length with q | q
  ·exact .inl (by rw [Nat.min_eq_left q];exact Nat.le_refl _)
  ·exact .inr (by rw [Nat.min_eq_right q];exact Nat.le_refl _)
end
section
variable{X:Cx}{pos:Pos}
end
section
variable{K:Fg}{σ : St}{H:Hp}{Q:VK}{te:TE}
end
section
variable{X:Cx}{tg:Expr}
end
def iSeq(K:Fg)(tl:TE):TI:=fun σ H R=>tl σ H fun x H1=>∃a,x = .ref a∧(((∃xs,SqL K H1 a xs)∧R (Itl K a) H1)∨((∃xs,SqT K H1 a xs)∧R (Itt K a) H1))
section
variable{X:Cx}{tg:Expr}
theorem ZgR{l:Expr}{tl:TE}(hl:PE X l tl):PI X tg l (iSeq X.K tl):=by
 intro pins s σ H R I h;refine thn (hl pins s σ H _ I h) fun v s1 ⟨x,H1,I1,r1,a,e,q1⟩=>?_
 subst e;cases r1;have own:∀b∈[s1.heap.objs.size],FpOk X pins H1 b:=fun b hb=>by cases List.mem_singleton.mp hb;exact I1.fpOk (Nat.le_refl _) (I1.hok.fresh (Nat.le_refl _))
 rcases q1 with ⟨⟨xs,hq⟩,q⟩ | ⟨⟨xs,hq⟩,q⟩
 ·obtain ⟨its,_,p,_⟩:=I1.list hq;exact wpAny_pyIter_list p.isList ⟨_,[_],_,_,H1,rfl,I1.kept (t':=s1.toks) fun b o e=>Heap.get?_push_of_some _ e,yW a _,⟨_,Heap.get?_push_size _ rfl,rfl,rfl⟩,own,q⟩
 ·obtain ⟨its,_,p,_⟩:=I1.tuple hq;exact wpAny_pyIter_tuple (show s1.heap.IsTuple a its.toArray from p) ⟨_,[_],_,_,H1,rfl,I1.kept (t':=s1.toks) fun b o e=>Heap.get?_push_of_some _ e,jk a _,⟨_,Heap.get?_push_size _ rfl,rfl,rfl⟩,own,q⟩
end
section
variable{K:Fg}{te:TE}{σ : St}{Q:VK}{H:Hp}
theorem ZhB{R:It→Hp→Prop}(h:te σ H fun x H1=>∃a,x = .ref a∧(((∃xs,SqL K H1 a xs)∧R (Itl K a) H1)∨((∃xs,SqT K H1 a xs)∧R (Itt K a) H1))):iSeq K te σ H R:=h
theorem Zes{a:Addr}{xs:List V}(e:SqL K H a xs∨SqT K H a xs)(h:∀D,H D=none→∃Pv:Nat→Hp→Prop,Pv 0 (upd H D (.lst []))∧(∀i H2,Pv i H2→Same H H2)∧(∀i x H2,xs[i]? = some x→Pv i H2→Elt te σ x H2 D xs.length i Pv)∧∀H2,Pv xs.length H2→Q (.ref D) H2) :
  ∃b,V.ref a = .ref b∧(((∃xs,SqL K H b xs)∧YS (Itl K b) te σ Q H)∨((∃xs,SqT K H b xs)∧YS (Itt K b) te σ Q H)):=by
 refine ⟨a,rfl,?_⟩;rcases e with e | e
 ·refine .inl ⟨⟨xs,e⟩,YL (xs:=xs) fun D nD=>?_⟩;obtain ⟨Pv,h0,h1,h2,h3⟩:=h D nD;exact ⟨Pv,h0,fun i H2 _ p=>(h1 i H2 p).seq e,h2,h3⟩
 ·refine .inr ⟨⟨xs,e⟩,J2 (xs:=xs) fun D nD=>?_⟩;obtain ⟨Pv,h0,h1,h2,h3⟩:=h D nD;exact ⟨Pv,h0,fun i H2 _ p=>(h1 i H2 p).seqT e,h2,h3⟩
theorem k_all{a:Addr}{bs:List Bool}(e:SqL K H a (bs.map V.bl))(h:Q (.bl (bs.all id)) H):rAll K [.ref a] H Q:=⟨a,bs,rfl,e,h⟩
theorem Ziv{a:Addr}{bs:List Bool}(e:SqL K H a (bs.map V.bl))(h:Q (.bl (bs.any id)) H):rAny K [.ref a] H Q:=⟨a,bs,rfl,e,h⟩
theorem yL{b:Bool}{D:Addr}{n i:Nat}{H0 H2:Hp}{Pv:Nat→Hp→Prop}(hn:n≤1000)(hi:i < n)(hP:∀j H3,Pv j H3↔AccZ K H0 D H3 ((List.replicate j b).map PySem.W.Dat.bool))(A:Pv i H2){H3:Hp}(S:Same H2 H3):EltK D n i Pv (.bl b) H3:=by
 have A2:=((hP i H2).mp A).on S;refine pushed hi (A2.Yv (.bl b) (by rw [List.length_map,List.length_replicate,show sizeLine=16777216 by decide];omega) fun H4 A4=>?_);rw [hP,List.replicate_succ',List.map_append];exact A4
theorem AccZ.bls{H0:Hp}{l:Addr}{bs:List Bool}(A:AccZ K H0 l H (bs.map PySem.W.Dat.bool)):SqL K H l (bs.map V.bl):=by
 obtain ⟨xs,h1,h2⟩:=A.at_
 have:∀{vs:List V} {bs:List Bool},RzL K H vs (bs.map PySem.W.Dat.bool)→vs=bs.map V.bl:=by
  intro vs bs
  induction bs generalizing vs with
  | nil=>intro h;cases h;rfl
  | cons b bs ih =>
   intro h;cases h with
   | cons h1 h2 =>
    cases h1;rw [ih h2];rfl
 rw [this h2] at h1;exact SqL.of h1
end
end L2
namespace Gd
def gd(a b:Int):Int:=(Int.gcd a b:Nat)
theorem ZcB(a b:Int):gd b (Int.fmod a b)=gd a b:=by
 unfold gd
 have e:Int.fmod a b=a+b*(-(Int.fdiv a b)):=by
  rw [Int.fmod_def,Int.mul_neg];omega
 rw [e,Int.gcd_add_mul_left_right,Int.gcd_comm]
theorem ZcC{a b:Int}(h:b≠0):(Int.fmod a b).natAbs < b.natAbs:=by
 rcases (by omega:0 < b∨b < 0) with p | p
 ·have h1:=Int.fmod_nonneg_of_pos a p;have h2:=Int.fmod_lt_of_pos a p;omega
 ·have e:Int.fmod a b = -(Int.fmod (-a) (-b)):=by
   rw [Int.fmod_def,Int.fmod_def,Int.neg_fdiv_neg];rw [Int.neg_mul];omega
  have h1:=Int.fmod_nonneg_of_pos (-a) (b:=-b) (by omega);have h2:=Int.fmod_lt_of_pos (-a) (b:=-b) (by omega);omega
theorem Zf_(a:Int):gd a 0=(a.natAbs:Int):=by
 unfold gd;rw [Int.gcd_zero_right]
theorem ZeP(a:Int):(if a < 0 then -a else a)=gd a 0:=by
 rw [Zf_];split <;> omega
theorem FW{a b:Int}(h:b≠0):0 < gd a b:=by
 unfold gd
 have:Int.gcd a b≠0:=fun e=>h (Int.gcd_eq_zero_iff.mp e).2
 omega
theorem FZ(a b:Int):0≤gd a b:=Int.natCast_nonneg _
theorem ZhN{a b:Int}(h:b≠0):gd a b≤(b.natAbs:Int):=by
 unfold gd
 have:=Int.gcd_le_natAbs_right a h
 omega
structure Low (top bottom q p:Int):Prop where
 pos:0 < p
 low:gd q p=1
 worth:q*bottom=top*p
theorem Zhc{t b d:Int}(hb:b≠0)(hd:d=gd t b∧0 < b∨d = - gd t b∧b < 0):Low t b (Int.fdiv t d) (Int.fdiv b d):=by
 have gp:=FW (a:=t) hb;have d1:gd t b∣t:=Int.gcd_dvd_left t b;have d2:gd t b∣b:=Int.gcd_dvd_right t b;have e1:d∣t:=by rcases hd with ⟨e,_⟩ | ⟨e,_⟩ <;> rw [e];exact d1;exact Int.neg_dvd.mpr d1
 have e2:d∣b:=by rcases hd with ⟨e,_⟩ | ⟨e,_⟩ <;> rw [e];exact d2;exact Int.neg_dvd.mpr d2
 have d0:d≠0:=by rcases hd with ⟨e,_⟩ | ⟨e,_⟩ <;> omega
 obtain ⟨q,rfl⟩:=e1;obtain ⟨p,rfl⟩:=e2;rw [Int.mul_fdiv_cancel_left _ d0,Int.mul_fdiv_cancel_left _ d0];refine ⟨?_,?_,?_⟩
 ·rcases hd with ⟨e,z⟩ | ⟨e,z⟩
  ·exact Int.pos_of_mul_pos_right z (by omega) |> fun h=>h
  ·have z':0 < (-d)*p:=by rw [Int.neg_mul];omega
   exact Int.pos_of_mul_pos_right z' (by omega)
 ·have m:gd (d*q) (d*p)=(d.natAbs:Int)*gd q p:=by
   unfold gd;rw [Int.gcd_mul_left];simp
  have n:gd (d*q) (d*p)=(d.natAbs:Int):=by
   rcases hd with ⟨e,z⟩ | ⟨e,z⟩ <;> omega
  rw [n] at m;have k:(d.natAbs:Int)*gd q p=(d.natAbs:Int)*1:=by omega
  exact Int.eq_of_mul_eq_mul_left (by omega) k
 ·rw [← Int.mul_assoc,Int.mul_comm q d]
theorem Zaf{t d:Int}(h:d≠0)(hd:d∣t):(Int.fdiv t d).natAbs≤t.natAbs:=by
 obtain ⟨q,rfl⟩:=hd;rw [Int.mul_fdiv_cancel_left _ h,Int.natAbs_mul];exact Nat.le_mul_of_pos_left _ (by omega)
theorem ZfI{t b d:Int}(hb:b≠0)(hd:d=gd t b∧0 < b∨d = - gd t b∧b < 0):(Int.fdiv t d).natAbs≤t.natAbs∧(Int.fdiv b d).natAbs≤b.natAbs:=by
 have gp:=FW (a:=t) hb;have d1:gd t b∣t:=Int.gcd_dvd_left t b;have d2:gd t b∣b:=Int.gcd_dvd_right t b;have d0:d≠0:=by rcases hd with ⟨e,_⟩ | ⟨e,_⟩ <;> omega
 refine ⟨Zaf d0 ?_,Zaf d0 ?_⟩
 ·rcases hd with ⟨e,_⟩ | ⟨e,_⟩ <;> rw [e];exact d1;exact Int.neg_dvd.mpr d1
 ·rcases hd with ⟨e,_⟩ | ⟨e,_⟩ <;> rw [e];exact d2;exact Int.neg_dvd.mpr d2
theorem wide{i:Int}(h:i.natAbs < 10000000000000000000000000000000000000001):i.natAbs < 2 ^ 9000 :=
 Nat.lt_of_lt_of_le h (by
  have:10000000000000000000000000000000000000001≤2 ^ 133:=by decide
  exact Nat.le_trans this (Nat.pow_le_pow_right (by decide) (by decide)))
end Gd
namespace Fr
open PySem L2
def qM:Sp:=fun vs H Q _=>∃a b:Int,vs=[.int a,.int b]∧Q (.int (Gd.gd a b)) H
theorem Zcn{vs:List V}{H:Hp}{Q:VK}{E:XK}{y z:Str}(h:qM vs H Q E):vs.length=[y,z].length:=by
 obtain ⟨a,b,rfl,_⟩:=h;rfl
def tDiv:TS:=(tSeq (Wt (Z6 (tOp rNe (tVar 1) (tC (.int 0))))
 (tSeq (tAsg (tOp ZgF (tVar 0) (tVar 1)) (Zn 2))
 (tSeq (tAsg (tVar 1) (Zn 0))
 (tAsg (tVar 2) (Zn 1)))))
 (tRet (tCB rAbs (Zc (tVar 0) tNil))))
theorem ZgC(a b:Int)(H:Hp)(D:Ends)(k:D.rt (.int (Gd.gd a b)) H):tDiv D [some (.int a),some (.int b),none] H:=by
 refine uH (fun σ H'=>H'=H∧∃(i j:Int) (v:Option V),σ = [some (.int i),some (.int j),v]∧Gd.gd i j=Gd.gd a b)
  (fun σ _=>match σ with | [_,some (.int j),_]=>j.natAbs | _=>0) ⟨rfl,a,b,none,rfl,rfl⟩ ?_ ?_
 ·rintro σ H' ⟨rfl,i,j,v,rfl,e⟩;refine ⟨_,rfl,rfl,_,rfl,ZhJ (fun hj=>?_) (fun hj=>?_)⟩
  ·refine ⟨_,rfl,_,rfl,_,_,rfl,rfl,hj,_,rfl,_,rfl,⟨rfl,j,i.fmod j,_,rfl,(Gd.ZcB i j).trans e⟩,?_⟩;exact Gd.ZcC hj
  ·subst hj;refine ⟨_,rfl,_,rfl,?_⟩;rw [Gd.ZeP,e];exact k
 ·rintro σ H' R R' h ⟨v,e,sc,c,ec,q⟩;exact ⟨v,e,sc,c,ec,h _ _ q⟩
end Fr
namespace Fr
open PySem L2
open PySem.W (Dat kqdOk)
def cellOf(ns:List Int)(k:Int):Int:=(ns[k.toNat]?).getD 0
def JL(K:Fg):Sp:=fun vs H Q _=>∃(a:Addr) (ns:List Int) (k:Int),vs=[.ref a,.int k]∧SqL K H a (ns.map V.int)∧0≤k∧Q (.int (cellOf ns k)) H
theorem Zd2{K:Fg}{vs:List V}{H:Hp}{Q:VK}{E:XK}{y z:Str}(h:JL K vs H Q E):vs.length=[y,z].length:=by
 obtain ⟨a,ns,k,rfl,_⟩:=h;rfl
def Zgr(K:Fg):TS:=(tSeq (tIfS (Z6 (tOp rLt (tVar 1) (tCB (Yh K) (Zc (tVar 0) tNil))))
 (tRet (tOp (rIxL K) (tVar 0) (tVar 1)))
 Z9)
 (tRet (tC (.int 0))))
theorem Zfk{K:Fg}{a:Addr}{ns:List Int}{k:Int}{H:Hp}{D:Ends}(hS:SqL K H a (ns.map V.int))(h0:0≤k)(q:D.rt (.int (cellOf ns k)) H):Zgr K D [some (.ref a),some (.int k)] H:=by
 have el:(ns.map V.int).length=ns.length:=List.length_map _;refine ⟨_,rfl,_,rfl,a,_,rfl,.inl hS,_,_,rfl,rfl,_,rfl,iteD (fun c=>?_) (fun c=>?_)⟩
 ·rw [el] at c;have hk:k.toNat < ns.length:=by omega
  have e:k=((k.toNat:Nat):Int):=by omega
  have z:cellOf ns k=ns[k.toNat]:=by
   unfold cellOf;rw [List.getElem?_eq_getElem hk];rfl
  have w:atI (ns.map V.int) ((k.toNat:Nat):Int)=some (.int ns[k.toNat]):=Yd (by rw [List.getElem?_map];simp [hk]);rw [← e] at w;rw [z] at q;exact ⟨_,rfl,_,rfl,a,_,_,_,rfl,rfl,hS,w,q⟩
 ·rw [el] at c
  have z:cellOf ns k=0:=by
   unfold cellOf;rw [List.getElem?_eq_none (by omega)];rfl
  rw [z] at q;exact q
def Jp:Sp:=fun vs H Q _=>∃i:Int,vs=[.int i]∧Q (.bl true) H
theorem Fv{vs:List V}{H:Hp}{Q:VK}{E:XK}{y:Str}(h:Jp vs H Q E):vs.length=[y].length:=by
 obtain ⟨i,rfl,_⟩:=h;rfl
def Zbo (K:Fg):TS:=(tRet (vd (tCB (rIsi K) (Zc (tVar 0) (Zc (tC (.ty "int")) tNil))) (Zdm (tCB (rIsi K) (Zc (tVar 0) (Zc (tC (.ty "bool")) tNil))))))
theorem uP{K:Fg}{i:Int}{H:Hp}{D:Ends}(q:D.rt (.bl true) H):Zbo K D [some (.int i)] H :=
 ⟨_,rfl,_,_,_,_,rfl,TyOf.int i,Zhh,_,rfl,iteT ⟨_,rfl,_,_,_,_,rfl,TyOf.int i,Zhi,_,rfl,q⟩⟩
end Fr
namespace Kd
open PySem L2
def J4(K:Fg)(c:V)(nm:Str):TS:=(tIfS (tB (tCB (Zfp K) (Zc (tVar 0) (Zc (tC c) tNil))))
 (YT (tBM K "list" Z5 (tVar 1) (Zc (tC (.str nm)) tNil)))
 Z9)
theorem Gh{K:Fg}{c:V}{nm:Str}{e l C:Addr}{H:Hp}{D:Ends}(he:ExH H e C)(a:ExcA K C)(k:KitE K C c false)(q:D.nx [some (.ref e),some (.ref l)] H) :
  J4 K c nm D [some (.ref e),some (.ref l)] H:=⟨_,rfl,e,C,c,false,rfl,he,a,k,_,rfl,iteF q⟩
theorem Zgz{K:Fg}{c:V}{nm:Str}{e l C:Addr}{H:Hp}{D:Ends}(he:ExH H e C)(a:ExcA K C)(k:KitE K C c true)(hl:H l=some (.lst []))(q:D.nx [some (.ref e),some (.ref l)] (upd H l (.lst [.str nm]))) :
  J4 K c nm D [some (.ref e),some (.ref l)] H :=
 ⟨_,rfl,e,C,c,true,rfl,he,a,k,_,rfl,iteT ⟨_,rfl,.inl ⟨rfl,_,SqL.of hl⟩,l,_,_,rfl,rfl,hl,(by show 0 < sizeLine;decide),q⟩⟩
end Kd
namespace Ex0
open PySem L2 Fr Kd
structure Ad where
 V:Addr
 c0:Addr
 c1:Addr
 c2:Addr
 c3:Addr
 c4:Addr
 c5:Addr
 c6:Addr
 c7:Addr
 c8:Addr
 c9:Addr
 c10:Addr
 c11:Addr
 c12:Addr
 c13:Addr
def Zbq(K:Fg)(x:Ad):TS:=(tSeq (tAsg (tLst tNil) (Zn 1))
 (tSeq (J4 K (.ref x.c0) "NoFraction")
 (tSeq (J4 K (.ref x.c1) "NoStuffs")
 (tSeq (J4 K (.ref x.c2) "NoHeap")
 (tSeq (J4 K (.ref x.c3) "NoPace")
 (tSeq (J4 K (.ref x.c4) "NoTurnings")
 (tSeq (J4 K (.ref x.c5) "NoTurning")
 (tSeq (J4 K (.ref x.c6) "NoText")
 (tSeq (J4 K (.ref x.c7) "NotNow")
 (tSeq (J4 K (.ref x.c8) "TooMany")
 (tSeq (J4 K (.ref x.c9) "NoDrain")
 (tSeq (J4 K (.ref x.c10) "NotEven")
 (tSeq (J4 K (.ref x.c11) "NoStuff")
 (tSeq (J4 K (.ref x.c12) "NoPieces")
 (tSeq (J4 K (.ref x.c13) "NoDeed")
 (tSeq (tIfS (tNot (tB (tCB (Zfp K) (Zc (tVar 0) (Zc (tC (.ty "ValueError")) tNil)))))
 (YT (tBM K "list" Z5 (tVar 1) (Zc (tC (.str "other")) tNil)))
 Z9)
 (tRet (tVar 1))))))))))))))))))
end Ex0
namespace L2
open PySem PySem.SetTable
end L2
namespace L2
open PySem PySem.SetTable
end L2
namespace L2
open PySem PySem.SetTable
end L2
namespace L2
open PySem PySem.SetTable
end L2
namespace L2
open PySem PySem.Spec PyProof.Rows
section
variable{prog:Program}{w:World}{E:Value→Shared→Prop}
end
section
variable{prog:Program}{w:World}{A:Around}{E:Value→Shared→Prop}
end
end L2
namespace L2
open PySem PySem.Spec PyProof.Rows
open PySem.W (Dat kqdP kqdOk)
section
variable{prog:Program}{w:World}{A:Around}{E:Value→Shared→Prop}{s:Shared}
end
end L2
namespace L2
open PySem PySem.Spec PyProof.Rows
open PySem.W (Dat kqdP kqdOk)
section
variable{prog:Program}{w:World}{A:Around}{E:Value→Shared→Prop}{s:Shared}
end
end L2
namespace L2
open PySem PySem.Spec PyProof.Rows
open PySem.W (Dat kqdP kqdOk)
section
variable{prog:Program}{w:World}{A:Around}{R:Result→Shared→Prop}{I:Addr}{fp wr:List Addr}{n:Nat}{P:Nat→Value→Prop}{St:Nat→Heap→Prop}
end
namespace F
end F
section
variable{prog:Program}{w:World}{A:Around}{E:Value→Shared→Prop}{s:Shared}
end
end L2
namespace L2
open PySem PySem.Spec PyProof.Rows
open PySem.W (Dat kqdP kqdOk)
end L2
namespace L2
open PySem PySem.Spec PyProof.Rows
def Ite(K:Fg)(a:Addr):It :=
 ⟨fun i H=>∃xs,SqL K H a xs∧i < xs.length,fun i H v H'=>∃T x,H T=none∧v = .ref T∧H'=upd H T (.tup [.int i,x])∧∀xs,SqL K H a xs→xs[i]? = some x,fun i H=>∃xs,SqL K H a xs∧xs.length≤i⟩
theorem Zbe{P:Program}{w:World}{K:Fg}{elts:List Expr}{x1}{pos:Pos}{a e it:Addr}(n1:e≠it)(n2:a≠it) :
  Turn P w K (.Tuple elts x1 pos) (Ite K a) [e,it] e (fun i h=>(∃old,IsEnum h e it (i:Int) old)∧h.IsListIter it a i) where
 mem:=by simp
 obj:=fun i h ⟨⟨old,he⟩,t⟩ c hc=>by
  simp only [List.mem_cons,List.not_mem_nil,or_false] at hc;rcases hc with rfl | rfl
  ·exact ⟨_,he,fun v q=>by cases (show Data.fields _=Data.cell v from q)⟩
  ·obtain ⟨o,ho,_,d⟩:=t;exact ⟨o,ho,fun v q=>by rw [d] at q;cases q⟩
 keep:=fun i h h' ⟨⟨old,he⟩,t⟩ kp=>⟨⟨old,kp e (by simp) _ he⟩,t.at fun o z=>kp it (by simp) o z⟩
 item:=by
  intro X hP hw hK hc i pins s σ H E I hf ⟨⟨old,he⟩,t⟩ hg;subst hP hw hK;obtain ⟨xs,q1,l1⟩:=hg;obtain ⟨its,r1,p,_⟩:=I.list q1;obtain ⟨u1,e1,ru1⟩:=r1.get (List.getElem?_eq_getElem l1);refine wpAny_pyNext_enum_item he t p.isList (x:=u1) (by simpa using e1) n1 fun h' he' t' hT sz all=>⟨_,rfl,?_⟩
  refine wpAny_letOwnedTupleGo_enum (s:={ s with heap:=h',toks:=s.toks+1 }) he' fun h2 he2 sb=>?_
  have hfr:H s.heap.objs.size=none:=I.hok.fresh (Nat.le_refl _)
  have nT:∀c∈[e,it],c≠s.heap.objs.size:=fun c hc'=>by
   simp only [List.mem_cons,List.not_mem_nil,or_false] at hc';rcases hc' with rfl | rfl
   ·exact Nat.ne_of_lt (Heap.lt_size he)
   ·obtain ⟨o,ho,_⟩:=t;exact Nat.ne_of_lt (Heap.lt_size ho)
  have I1:Inv X pins σ (upd H s.heap.objs.size (.tup [.int i,xs[i]])) { s with heap:=s.heap.push { cls:=.type "tuple",data:=.seq #[.int i s.toks,u1] } } :=
   I.laid (t':=s.toks) (fun b u z=>Heap.get?_push_of_some _ z) (Nat.le_refl _) ⟨by show 2≤sizeLine;decide,[.int i s.toks,u1],.cons ⟨_,rfl⟩ (.cons ru1 .nil),⟨_,Heap.get?_push_size _ rfl,rfl,_,rfl⟩⟩
  have I2:Inv X pins σ (upd H s.heap.objs.size (.tup [.int i,xs[i]])) { s with heap:=h2,toks:=s.toks+1 }:=Inv.Ga (s:={ s with heap:=s.heap.push { cls:=.type "tuple",data:=.seq #[.int i s.toks,u1] } }) (t':=s.toks+1) (fp:=[e,it]) I1 (fun c o hc' z=>by
   have c1:c≠e:=fun x=>hc' (by simp [x])
   have c2:c≠it:=fun x=>hc' (by simp [x])
   rcases Heap.get?_push_cases z with ⟨ec,eo⟩ | z
   ·rw [ec,eo];exact sb.extBut _ _ (nT e (by simp)).symm hT
   ·exact sb.extBut _ _ c1 (all c o c1 c2 z)) fun c hc'=>⟨by rw [ZD (nT c hc')];exact (hf c hc').1,(hf c hc').2⟩
  exact ⟨.ref s.heap.objs.size,_,I2,rfl,⟨s.heap.objs.size,xs[i],hfr,rfl,rfl,fun zs hz=>by rw [I.yC hz q1,List.getElem?_eq_getElem l1]⟩,⟨⟨_,he2⟩,t'.at fun o z=>sb.extBut _ _ n1.symm z⟩,fun c hc'=>by rw [ZD (nT c hc')];exact (hf c hc').1⟩
 done:=by
  intro X hP hw hK hc i pins s σ H E I hf ⟨⟨old,he⟩,t⟩ hg;subst hP hw hK;obtain ⟨xs,q1,le⟩:=hg;obtain ⟨its,r1,p,_⟩:=I.list q1;have e1:=r1.length;exact wpAny_pyNext_enum_end (I.ok.hd hc) he t p.isList (by simp;omega) fun h' all=>⟨rfl,I.Ga (t':=s.toks) (fun c o hc' z=>all c o (fun x=>hc' (by simp [x])) z) hf⟩
 self:=fun _ _ _ _ _ st q=>let ⟨⟨_,he⟩,_⟩:=st;wpAny_pyIter_enum he q
def Zcy(K:Fg)(ta:TA):TI:=fun σ H R=>ta σ H fun vs H1=>∃a xs,vs=[.ref a]∧SqL K H1 a xs∧R (Ite K a) H1
theorem zm:bootBuiltins "enumerate" = some (.type "enumerate"):=by decide +kernel
section
variable{X:Cx}
theorem z7 {x:Expr} {ta:TA} {elts:List Expr} {x1} {p pos tp:Pos} (hg:Gl X "enumerate") (hm:X.mg "enumerate" = none) (ha:PA X [x] ta) (hs:starEach [x] X.env=[(false,eval x X.env)]:=by rfl) :
  PI X (.Tuple elts x1 tp) (.Call (.Name "enumerate" p) [x] [] pos) (Zcy X.K ta):=by
 intro pins s σ H R I h;refine Call_ (Jl I hg hm zm (PyProof.Rows.callWith_type1 (thn (ha pos pins s σ H _ I h) fun us s1 ⟨vs,H1,I1,r1,q1⟩=>?_) (by rw [hs];rfl) (by rfl)));obtain ⟨a,xs,e,sq,q⟩:=q1;subst e;obtain ⟨u1,rfl,ra⟩:=vals1 r1;cases ra;obtain ⟨its,rv,p1,_⟩:=I1.list sq;have lt:a < s1.heap.objs.size:=by obtain ⟨_,z,_⟩:=p1.isList;exact Heap.lt_size z
 refine call_enumerate_list p1.isList fun h' he t sz kp=>?_
 refine wpAny_pyIter_enum (s:={ s1 with heap:=h' }) he ?_;refine ⟨s1.heap.objs.size+1,[s1.heap.objs.size+1,s1.heap.objs.size],_,_,H1,rfl,I1.kept (t':=s1.toks) kp,Zbe (Nat.succ_ne_self _) (Nat.ne_of_lt lt),⟨⟨_,he⟩,t⟩,fun c hc=>?_,q⟩
 have le2:s1.heap.objs.size≤c:=by
  simp only [List.mem_cons,List.not_mem_nil,or_false] at hc;rcases hc with rfl | rfl
  ·exact Nat.le_succ _
  ·exact Nat.le_refl _
 exact I1.fpOk le2 (I1.hok.fresh le2)
end
section
variable{K:Fg}{te:TE}{tc:TT}{σ : St}{Q:VK}{H:Hp}{D:Ends}
theorem ZhD{ta:TA}{R:It→Hp→Prop}(h:ta σ H fun vs H1=>∃a xs,vs=[.ref a]∧SqL K H1 a xs∧R (Ite K a) H1):Zcy K ta σ H R:=h
theorem Zak{a:Addr}{xs:List V}{g:TG}{tb:TS}(Pv:Nat→St→Hp→Prop)(h0:Pv 0 σ H)(hl:∀i σ H,i≤xs.length→Pv i σ H→SqL K H a xs)
  (hs:∀i x σ H T,xs[i]? = some x→Pv i σ H→H T=none→g (.ref T) σ (upd H T (.tup [.int i,x])) fun σ2 H2=>tb { D with nx:=Pv (i+1),ct:=Pv (i+1),bk:=D.nx } σ2 H2) (hd:∀σ H,Pv xs.length σ H→D.nx σ H):FAt (Ite K a) g tb D σ H:=by
 refine ⟨fun i m σ H=>m=xs.length - i∧i≤xs.length∧Pv i σ H,⟨_,rfl,Nat.zero_le _,h0⟩,?_⟩;rintro i m σ H ⟨rfl,hi,p⟩;have q:=hl i σ H hi p;by_cases hlt:i < xs.length
 ·refine .inr ⟨⟨xs,q,hlt⟩,Pv (i+1),fun σ' H' p'=>⟨xs.length - (i+1),by omega,rfl,hlt,p'⟩,fun v H' y=>?_⟩;obtain ⟨T,x,nT,rfl,rfl,z⟩:=y;exact hs i x σ H T (z xs q) p nT
 ·have e:i=xs.length:=by omega
  subst e;exact .inl ⟨⟨xs,q,Nat.le_refl _⟩,hd σ H p⟩
end
def Zfm:R2:=fun x y H Q=>∃z i,x = .str z∧y = .int i∧(i=0∨i=1)∧Q (.str (if i=0 then Str.empty else z)) H
section
variable{X:Cx}
theorem Zfw:OpR X (binaryOp .Mult) Zfm:=by
 intro pins s σ H x y v u Q I rx ry h;obtain ⟨z,i,rfl,rfl,hi,q⟩:=h;obtain ⟨t,rfl⟩:=rx;obtain ⟨t',rfl⟩:=ry;rcases hi with rfl | rfl
 ·exact P.mul_str_none (by decide) (by decide) ⟨.str Str.empty,H,I.tok _,⟨_,rfl⟩,q⟩
 ·refine P.mul_str (by decide) (fun _ e=>by simp at e) (fun _ e=>by simp at e) ?_;rw [if_neg (by decide),if_pos (by simp)];exact ⟨.str z,H,I,⟨_,rfl⟩,q⟩
theorem Zht{H:Hp}{Q:VK}{z:Str}{i:Int}(hi:i=0∨i=1)(q:Q (.str (if i=0 then Str.empty else z)) H):Zfm (.str z) (.int i) H Q:=⟨z,i,rfl,rfl,hi,q⟩
end
section
variable{prog:Program}{w:World}{A:Around}{E:Value→Shared→Prop}{s:Shared}
theorem ji{r:Addr}{b:Int}{t u v:Tok}{Q:Value→Shared→Prop}(hr:IsRange s.heap r 0 b 1 t u v)(h0:0≤b)(h1:b < 2 ^ 62)
  (h:Q (.ref s.heap.objs.size) { s with heap:=s.heap.push { cls:=.type "range_iterator",data:=.fields #[rawInt (b - 1),rawInt b,rawInt (-1)] } }):wpAny (model prog w) A (call (.builtin "range.__reversed__") [.ref r]) Q E s:=by
 have sz:Builtin.Range.rangeSize 0 b 1=b:=by rw [rangeSize_one];split <;> omega
 have fits:∀i:Int,-(2 ^ 62)≤i→i≤2 ^ 62→Builtin.Range.rangeFitsLong i=true:=fun i p q=>by
  unfold Builtin.Range.rangeFitsLong;simp;omega
 have e:0+(b - 1)*1=b - 1:=by omega
 have sm:(Builtin.Range.rangeFitsLong 0 && Builtin.Range.rangeFitsLong b && Builtin.Range.rangeFitsLong 1 && Builtin.Range.rangeFitsLong (-1) && Builtin.Range.rangeFitsLong (0 - 1) && Builtin.Range.rangeFitsLong b)=true:=by
  rw [fits 0 (by omega) (by omega),fits b (by omega) (by omega),fits 1 (by omega) (by omega),fits (-1) (by omega) (by omega),fits (0 - 1) (by omega) (by omega)];rfl
 refine wpAny_call_entry F.slot_range_reversed ⟨_,hr,rfl⟩ F.entry_range_reversed ?_ (F.args_range_reversed_1 _);unfold Builtin.«range.__reversed__»;refine wpAny_bind (wpAny_of_eq (a:=Value.ref r) rfl (wpAny_bind ?_));unfold Builtin.Range.rangeFields;refine wpAny_bind (wpAny_field hr rfl (x:=.int 0 t) rfl (wpAny_bind (wpAny_of_eq (a:=some 0) rfl ?_)));refine wpAny_bind (wpAny_field hr rfl (x:=.int b u) rfl (wpAny_bind (wpAny_of_eq (a:=some b) rfl ?_)));refine wpAny_bind (wpAny_field hr rfl (x:=.int 1 v) rfl (wpAny_bind (wpAny_of_eq (a:=some 1) rfl ?_)));refine wpAny_pure ?_;dsimp only;rw [sz,e,sm];refine wpAny_bind (wpAny_newObj_type (wpAny_pure ⟨_,rfl,h⟩))
theorem ZaB:isSubtype (.type "range_iterator") (.type "reversed")=pure false:=by rw [isSubtype_type];kernel_rfl
theorem jh{r:Addr}{b:Int}{t u v:Tok}{Q:Value→Shared→Prop}(hr:IsRange s.heap r 0 b 1 t u v)(h0:0≤b)(h1:b < 2 ^ 62)
  (h:Q (.ref s.heap.objs.size) { s with heap:=s.heap.push { cls:=.type "range_iterator",data:=.fields #[rawInt (b - 1),rawInt b,rawInt (-1)] } }):wpAny (model prog w) A (call (.type "reversed") [.ref r]) Q E s:=by
 have hT:s.TypeIs (.ref r) "range":=⟨_,hr,rfl⟩
 refine callType_other (U:="range_iterator") (Q₁:=fun obj s₁=>obj = .ref s.heap.objs.size∧s₁ = { s with heap:=s.heap.push { cls:=.type "range_iterator",data:=.fields #[rawInt (b - 1),rawInt b,rawInt (-1)] } }) (by decide +kernel) F.create_reversed ⟨_,_,F.mro_reversed⟩ F.made_reversed ZaB (F.typeCall_reversed_1 _) (codeAny_of_tree ?_) (by rintro obj s₁ ⟨rfl,rfl⟩;exact ⟨⟨_,Heap.get?_push_size _ rfl,rfl⟩,h⟩);show wpAny _ A.in1.in1 (do checkBuiltinCall "reversed.__new__" ⟨[.type "reversed",.ref r],[]⟩;again (.builtin "reversed.__new__" ⟨[.type "reversed",.ref r],[]⟩)) _ _ s;refine wpAny_bind (wpAny_of_eq (F.newCall_reversed_1 _) (wpAny_pure ⟨plainId_quiet F.plain_reversed_new _,codeAny_builtin F.entry_reversed_new ?_⟩));rw [Around.under_plainId F.plain_reversed_new _];unfold Builtin.«reversed.__new__»;refine wpAny_bind (wpAny_of_eq (newClass_reversed _) (wpAny_bind (wpAny_of_eq (a:=()) (by first | rfl | kernel_rfl) (wpAny_bind (wpAny_of_eq (a:=()) (by first | rfl | kernel_rfl) ?_)))));refine wpAny_bind (wpAny_specialOf hT F.slot_range_reversed.lookup (wpAny_bind (wpAny_of_eq (F.slot_range_reversed.bind _) ?_)));show wpAny _ _ (if (Value.builtin "range.__reversed__" == Value.none)=true then _ else _) _ _ _;rw [if_neg (show ¬ ((Value.builtin "range.__reversed__" == Value.none)=true) from Bool.false_ne_true)];refine wpAny_bind (wpAny_rule (wpAny_bind (m:=runValue (.call (.builtin "range.__reversed__") ⟨[.ref r],[]⟩)) (show wpAny _ _ (call (.builtin "range.__reversed__") [.ref r]) _ _ _ from ji hr h0 h1 ?_)))
 first
  | exact wpAny_pure ⟨rfl,rfl⟩
  | exact wpAny_bind (wpAny_pure (wpAny_pure ⟨rfl,rfl⟩))
end
theorem ur:bootBuiltins "reversed" = some (.type "reversed"):=by decide +kernel
section
variable{X:Cx}{tg:Expr}
end
section
variable{K:Fg}{σ : St}{Q:VK}{H:Hp}{D:Ends}
end
open PySem.W (Dat kqdOk kqdP kqdPs)
def ZbL(K:Fg):V→List V→Hp→VK→Prop:=fun x xs H Q=>∃(a:Addr) (y:V) (ds:List Dat) (d:Dat) (j:Nat),x = .ref a∧xs=[y]∧Rep K H y d∧Rep K H (.ref a) (.list ds)∧(∀e∈ds,kqdOk 8 e=true)∧kqdOk 8 d=true∧ds[j]? = some d∧(∀m,m < j→ds[m]?≠some d)∧ds.length≤1000∧Q (.int j) H
open Classical in
theorem Zel{d e:Dat}(he:kqdOk 8 e=true)(hd:kqdOk 8 d=true):PyData.eqv (kqdP e) (kqdP d)=decide (d=e):=by
 have h:=Zdb (ds:=[e]) (d:=d) (fun x hx=>by rw [List.mem_singleton.mp hx];exact he) hd;rw [kqdPs,kqdPs,List.any_cons,List.any_nil,Bool.or_false] at h;rw [h];by_cases z:d=e
 ·simp [z]
 ·simp [z]
theorem FJ:∀{ds:List Dat} {i:Nat},(kqdPs ds)[i]? = (ds[i]?).map kqdP
 | [],i=>by rw [kqdPs];simp
 | d :: ds,0=>by rw [kqdPs];rfl
 | d :: ds,i+1=>by rw [kqdPs,List.getElem?_cons_succ,List.getElem?_cons_succ,FJ]
theorem Fz:∀ds:List Dat,(kqdPs ds).length=ds.length
 | []=>by rw [kqdPs];rfl
 | d :: ds=>by rw [kqdPs,List.length_cons,List.length_cons,Fz]
open Classical in
theorem ZdQ {X:Cx} (hu:X.A.units+64 < cLine):MtR X "list.index" (ZbL X.K):=by
 intro pins s σ H x xs v us Q I rx rv h;obtain ⟨a,y,ds,d,j,rfl,rfl,hd,he,ka,kd,e1,e2,ln,q⟩:=h;obtain ⟨u,rfl,ru⟩:=vals1 rv;obtain ⟨as,ra⟩:=Rep.reads I hd ru;obtain ⟨bs,rb⟩:=Rep.reads I he rx;rw [kqdP] at rb;cases rx;generalize hp:kqdPs ds=ps at rb;cases rb with
 | @list _ o its n _ _ h1 h2 h3 h4 =>
  obtain ⟨c,dct,dt,sl⟩:=o;replace h2:c = .type "list":=h2;replace h3:dt = .seq its n:=h3;subst h2 h3;have hxs:PyData.canLayAll0 ps=true:=by rw [← hp];exact (PySem.W.kqd_layL ka).1
  have hmap:=SeqAt.readsAll_map ps _ _ hxs h4;have lj:j < ds.length:=(List.getElem?_eq_some_iff.mp e1).1
  have at_:∀m (hm:m < its.size),PyData.eqv (SeqAt.readOf s.heap its[m]) (kqdP d)=decide (ds[m]? = some d):=by
   intro m hm;have g:(its.toList.map (SeqAt.readOf s.heap))[m]? = some (SeqAt.readOf s.heap its[m]):=by rw [List.getElem?_map,Array.getElem?_toList,Array.getElem?_eq_getElem hm];rfl
   rw [hmap,← hp,FJ] at g;obtain ⟨e,ge,gp⟩:=Option.map_eq_some_iff.mp g;rw [← gp,Zel (ka e (List.mem_of_getElem? ge)) kd,ge];by_cases z:d=e
   ·simp [z]
   ·have:e≠d:=fun w=>z w.symm
    simp [z,this]
  have szl:its.size=ds.length:=by
   have:=congrArg List.length hmap
   rw [List.length_map,Array.length_toList,← hp] at this;rw [this,Fz]
  have hm:wpAny (model X.prog X.w) X.A (call (.builtin "list.index") [.ref a,u]) (EP X pins σ Q) X.xe s:=by
   refine call_meets F.slot_list_index ⟨_,h1,rfl⟩ F.entry_list_index (F.args_list_index_2 _ _) (SeqAt.list_indexAt a its n dct sl u (fun y=>PyData.eqv (SeqAt.readOf s.heap y) (kqdP d)) j (by omega) (by omega) ?_ ?_) ⟨h1,SeqAt.items_eqAt h4 ra hxs (PySem.W.kqd_lay 8 d kd).1 ?_,⟨.int j,H,I.tok _,⟨_,rfl⟩,q⟩⟩
   ·rw [at_ j (by omega),e1];simp
   ·intro m hm hmj;rw [at_ m hm];exact decide_eq_false (e2 m hmj)
   ·have l:=(PySem.W.kqd_lay 8 d kd).2
    have:=Nat.min_le_right (PyData.depthAll ps) (kqdP d).depth
    omega
  exact hm
theorem ZfX{K:Fg}{H:Hp}{Q:VK}{a:Addr}{y:V}{ds:List Dat}{d:Dat}{j:Nat}(hd:Rep K H y d)(he:Rep K H (.ref a) (.list ds))(ka:∀e∈ds,kqdOk 8 e=true)(kd:kqdOk 8 d=true)(e1:ds[j]? = some d)(e2:∀m,m < j→ds[m]?≠some d)(l:ds.length≤1000)(q:Q (.int j) H):ZbL K (.ref a) [y] H Q :=
 ⟨a,y,ds,d,j,rfl,rfl,hd,he,ka,kd,e1,e2,l,q⟩
section
variable{K:Fg}{σ : St}{Q:VK}{H:Hp}{td ty:TE}{D:Ends}
end
end L2
namespace L2
open PySem PySem.Spec PyProof.Rows
open PySem.W (Dat kqdOk kqdP kqdPs)
section
variable{K:Fg}{te:TE}{tc:TT}{σ : St}{Q:VK}{H:Hp}
theorem Za8{a:Addr}{xs:List V}{n:Nat}{g:TG}(h:∀D,H D=none→∃Pv:Nat→Hp→Prop,Pv 0 (upd H D (.lst []))∧(∀i H2,i≤xs.length→Pv i H2→SqL K H2 a xs)∧(∀i x H2,xs[i]? = some x→Pv i H2→EltF g n tc te σ x H2 D xs.length i Pv)∧∀H2,Pv xs.length H2→Q (.ref D) H2):yS (Itl K a) n g tc te σ Q H:=by
 intro D nD;obtain ⟨Pv,h0,hl,hs,hd⟩:=h D nD;refine ⟨fun i m H=>m=xs.length - i∧i≤xs.length∧Pv i H,⟨_,rfl,Nat.zero_le _,h0⟩,?_⟩;rintro i m H ⟨rfl,hi,p⟩;have q:=hl i H hi p;by_cases hlt:i < xs.length
 ·refine .inr ⟨⟨xs,xs[i],q,List.getElem?_eq_getElem hlt⟩,fun v H' y us hu=>?_⟩;obtain ⟨rfl,z⟩:=y;exact hs i v _ (z xs q) p us hu
 ·have e:i=xs.length:=by omega
  subst e;exact .inl ⟨⟨xs,q,Nat.le_refl _⟩,hd H p⟩
end
theorem JW:∀{ns:List Int} {us:List Value},Vals (ns.map V.int) us→∃l:List (Int×Tok),us=l.map (fun p=>Value.int p.1 p.2)∧l.map (·.1)=ns
 | [],_,.nil=>⟨[],rfl,rfl⟩
 | n :: ns,_,.cons r rr=>by
  obtain ⟨t,rfl⟩:=r;obtain ⟨l,e1,e2⟩:=JW rr;exact ⟨(n,t) :: l,by rw [e1];rfl,by rw [← e2];rfl⟩
def Zfo(K:Fg):List V→Hp→VK→Prop:=fun xs H Q=>∃(a:Addr) (ns:List Int),xs=[.ref a]∧SqL K H a (ns.map V.int)∧ns≠[]∧∀m,m∈ns→(∀x∈ns,x≤m)→Q (.int m) H
def Zfl(K:Fg):List V→Hp→VK→Prop:=fun xs H Q=>∃(a:Addr) (ns:List Int),xs=[.ref a]∧SqL K H a (ns.map V.int)∧Q (.int ns.sum) H
section
variable{X:Cx}
theorem kY (hc:X.calm=true):Ul X (.builtin "max") (Zfo X.K):=by
 intro pins s σ H xs us Q I r h;obtain ⟨a,ns,rfl,q1,ne,q⟩:=h;obtain ⟨u,rfl,ru⟩:=vals1 r;cases ru;obtain ⟨its,rv,p,_⟩:=I.list q1;obtain ⟨l,e1,e2⟩:=JW rv
 have hl:s.heap.IsList a (intItems l.toArray):=by
  have:=p.isList
  rw [e1] at this;simpa [intItems] using this
 have ln:l.length=ns.length:=by rw [← e2,List.length_map]
 have pos:=List.length_pos_iff.mpr ne;refine max_intList (I.ok.hd hc) hl (by simp;omega) fun v h' tk hv hk=>?_
 obtain ⟨t,rfl⟩:=intItems_at hv;obtain ⟨h1,h2⟩:=argBest_gt (numAt l.toArray) (l.toArray.size - 1);have el:l.toArray.toList.map (·.1)=ns:=by simpa using e2
 refine ⟨.int _,H,I.kept (t':=tk) hk,⟨_,rfl⟩,q _ ?_ fun x hx=>?_⟩
 ·rw [numAt_eq,el];exact getD_mem (by have h3:l.toArray.size=l.length:=List.size_toArray ..;omega)
 ·obtain ⟨j,hj,rfl⟩:=mem_getD hx;rw [← el,← numAt_eq];exact h2 j (by have h3:l.toArray.size=l.length:=List.size_toArray ..;omega)
theorem kW (hc:X.calm=true):Ul X (.builtin "sum") (Zfl X.K):=by
 intro pins s σ H xs us Q I r h;obtain ⟨a,ns,rfl,q1,q⟩:=h;obtain ⟨u,rfl,ru⟩:=vals1 r;cases ru;obtain ⟨its,rv,p,_⟩:=I.list q1;obtain ⟨l,e1,e2⟩:=JW rv
 have hl:s.heap.IsList a (intItems l.toArray):=by
  have:=p.isList
  rw [e1] at this;simpa [intItems] using this
 refine sum_intListG (I.ok.hd hc) hl fun h' tk t' hk=>⟨.int _,H,I.kept (t':=tk) hk,⟨_,rfl⟩,?_⟩
 rw [preSum_eq,List.take_of_length_le (by simp)];have el:l.toArray.toList.map (·.1)=ns:=by simpa using e2
 rw [el];exact q
theorem ZeY:bootBuiltins "max" = some (.builtin "max"):=by decide +kernel
theorem ZeX:bootBuiltins "sum" = some (.builtin "sum"):=by decide +kernel
end
end L2
namespace L2
open PySem PySem.Spec PyProof.Rows
theorem Zc1:∀(names:List (Str×NameKind)) (n:Nat) (a b:List (Str×Addr)),cellsFrom n names (a++b)=cellsFrom n names a++b
 | [],_,_,_=>rfl
 | (m,k) :: r,n,a,b=>by
  unfold cellsFrom;split
  ·exact Zc1 r (n+1) ((m,n) :: a) b
  ·exact Zc1 r n a b
theorem ZcZ:∀(names:List (Str×NameKind)) (n:Nat) (a:List (Str×Addr)) (y:Str) (c:Addr),(y,c)∈cellsFrom n names a→(y,c)∈a∨(y,NameKind.cell)∈names
 | [],_,_,_,_,h=>.inl h
 | (m,k) :: r,n,a,y,c,h=>by
  unfold cellsFrom at h;split at h
  ·rename_i hk;rcases ZcZ r _ _ y c h with z | z
   ·rcases List.mem_cons.mp z with e | z
    ·cases e;rw [beq_iff_eq.mp hk];exact .inr List.mem_cons_self
    ·exact .inl z
   ·exact .inr (List.mem_cons_of_mem _ z)
  ·exact (ZcZ r _ _ y c h).imp id fun z=>List.mem_cons_of_mem _ z
theorem ZcY:∀(names:List (Str×NameKind)) (n:Nat) (a:List (Str×Addr)) (p:Str×Addr),p∈a→p∈cellsFrom n names a
 | [],_,_,_,h=>h
 | (m,k) :: r,n,a,p,h=>by
  unfold cellsFrom;split
  ·exact ZcY r _ _ p (List.mem_cons_of_mem _ h)
  ·exact ZcY r _ _ p h
theorem Zc0:∀(names:List (Str×NameKind)) (n:Nat) (a:List (Str×Addr)) (y:Str),(y,NameKind.cell)∈names→∃c,(y,c)∈cellsFrom n names a
 | (m,k) :: r,n,a,y,h=>by
  unfold cellsFrom;rcases List.mem_cons.mp h with e | h
  ·cases e;exact ⟨n,ZcY r _ _ _ List.mem_cons_self⟩
  ·split
   ·exact Zc0 r _ _ y h
   ·exact Zc0 r _ _ y h
def relC(scope sc:Scope):Scope:={ scope with names:=relS scope sc }
structure jF (sc:Scope) (N M ys:List Str) (scope:Scope):Prop where
 kind:scope.kind = .function
 names:∀y∈scope.names,y.2 = .local→scope.names.lookup y.1=some .local
 cnames:∀y∈scope.names,y.2 = .cell→scope.names.lookup y.1=some .cell
 nd:(ys++M).Nodup
 len:M.length=N.length
 same:∀p∈M.zip N,p.1=p.2∨(relS scope sc).lookup p.1=none
 apart:∀y∈M,(relS scope sc).lookup y≠some .local∧scope.names.lookup y≠some .cell
 free:∀n∈scope.names,n.2 = .free→sc.names.lookup n.1=some .cell
def YF(X:Cx)(ys M:List Str)(scope:Scope)(C:Addr)(s:Shared)(H:Hp)(fp:List Addr)(pins:List (Addr×Obj)):Cx :=
 { ZL X ys M scope (cellsFrom (C+1) scope.names []++clOf scope X.env.cells) C s H fp pins with fn:=fun y=>scope.names.lookup y == some .cell }
section
variable{X:Cx}{ys M:List Str}{scope:Scope}{C:Addr}{s:Shared}{H:Hp}{fp:List Addr}{pins:List (Addr×Obj)}{σ : St}
theorem Ze_(c:jF X.env.scope X.N M ys scope)(ok:X.Ok):closureFor scope X.env=pure (clOf scope X.env.cells):=by
 have hfc:∀n∈scope.names,n.2 = .free→∃a,X.env.cells.lookup n.1=some a:=fun n hn hk=>ok.has n.1 (.inl (c.free n hn hk))
 have z:=Gq (env:=X.env) scope.names [] hfc;rw [List.append_nil] at z;exact (congrArg (fun m:Sem (List (Str×Addr))=>m >>= fun cs=>pure cs) z).trans rfl
theorem Jq(c:jF X.env.scope X.N M ys scope)(ok:X.Ok){y:Str}{a:Addr}(h:(clOf scope X.env.cells).lookup y=some a):X.env.cells.lookup y=some a∧X.env.scope.names.lookup y=some .cell:=by
 obtain ⟨h1,n,hn,e⟩:=JT (g:=fun z=>(X.env.cells.lookup z).getD 0) (fun n hn=>by obtain ⟨m,_,_,rfl⟩:=Ju.mp hn;rfl) h;obtain ⟨m,hm,hk,e2⟩:=Ju.mp hn;have ey:m.1=y:=by rw [← e,e2]
 obtain ⟨a',ha'⟩:=ok.has m.1 (.inl (c.free m hm hk));rw [ey] at ha';refine ⟨?_,by rw [← ey];exact c.free m hm hk⟩;rw [h1,ha'];rfl
theorem U3{sc:Scope}{y:Str}:∀{names:List (Str×NameKind)} {k:NameKind},(names.map fun (n,k)=>if (k == .free && sc.kind == .function && sc.names.lookup n == some .cell) then (n,NameKind.cell) else (n,k)).lookup y=some k→k = .cell∨k = .free→∃m∈names,m.1=y∧(m.2 = .free∨m.2 = .cell)
 | [],_,h,_=>by simp at h
 | (n,k0) :: r,k,h,hk=>by
  by_cases e:y=n
  ·subst e;refine ⟨_,List.mem_cons_self,rfl,?_⟩;by_cases hf:k0 = .free
   ·exact .inl hf
   ·have hb:(k0 == NameKind.free)=false:=beq_eq_false_iff_ne.mpr hf;simp only [List.map_cons,hb,Bool.false_and,Bool.false_eq_true,if_false,List.lookup_cons,beq_self_eq_true] at h
    have:=Option.some.inj h
    show k0 = .free∨k0 = .cell;rw [this];exact hk.symm
  ·have e':(y == n)=false:=beq_eq_false_iff_ne.mpr e
   have h':(r.map fun (n,k)=>if (k == .free && sc.kind == .function && sc.names.lookup n == some .cell) then (n,NameKind.cell) else (n,k)).lookup y=some k:=by
    by_cases hb:(k0 == .free && sc.kind == .function && sc.names.lookup n == some .cell)=true
    ·simpa only [List.map_cons,hb,if_true,List.lookup_cons,e'] using h
    ·simpa only [List.map_cons,hb,Bool.false_eq_true,if_false,List.lookup_cons,e'] using h
   obtain ⟨m,hm,q⟩:=U3 h' hk;exact ⟨m,List.mem_cons_of_mem _ hm,q⟩
theorem Zcv {tk : Nat} {o : Obj} (I : Inv X pins σ H s) (c : jF X.env.scope X.N M ys scope) (eC : C = s.heap.objs.size) (hns : (pushCells (s.heap.push o) scope.names).Ns C (fun _ => none))
    (fk : ∀ b ∈ fp, FpOk X pins H b ∧ ∃ o, s.heap.get? b = some o) : Inv (YF X ys M scope C s H fp pins) [] (List.replicate ys.length none ++ σ) H { s with heap := pushCells (s.heap.push o) scope.names, toks := tk } := by
  have keep : ∀ b u, s.heap.get? b = some u → (pushCells (s.heap.push o) scope.names).get? b = some u := fun b u e => pushCells_keeps _ _ b u (Heap.get?_push_of_some _ e)
  have neC : ∀ b u, s.heap.get? b = some u → b ≠ C := fun b u e => by rw [eC]; exact Nat.ne_of_lt (Heap.lt_size e)
  have out : ∀ {b : Addr}, b ≠ X.env.locals → b ∉ X.fs → b ∉ frs X.stack := fun h1 h2 z => (List.mem_cons.mp (I.uK _ z)).elim h1 h2
  have ok := cellsFrom_ok scope.names (s.heap.push o) (s.heap.objs.size + 1) [] ⟨fun _ _ hm => (nomatch hm), List.Pairwise.nil⟩ (by rw [Heap.size_push]; exact Nat.le_refl _);rw [Heap.size_push, ← eC] at ok
  have split : ∀ y a, (cellsFrom (C + 1) scope.names [] ++ clOf scope X.env.cells).lookup y = some a → (y, a) ∈ cellsFrom (C + 1) scope.names [] ∨ ((clOf scope X.env.cells).lookup y = some a ∧ (cellsFrom (C + 1) scope.names []).lookup y = none) := by
    intro y a h;rw [List.lookup_append] at h;cases e : (cellsFrom (C + 1) scope.names []).lookup y with
    | none => rw [e] at h; exact .inr ⟨by simpa using h, rfl⟩
    | some a' => rw [e] at h; have : a' = a := by simpa using h
                 rw [this] at e; exact .inl (mem_of_lookup e)
  have lt : ∀ y a, (clOf scope X.env.cells).lookup y = some a → a < C := fun y a h => by
    obtain ⟨v, u, hu, _⟩ := I.cell y a (Jq c I.ok h).1;rw [eC];exact Heap.lt_size hu
  have hasK : ∀ y, (y, NameKind.cell) ∈ scope.names → ∃ a, (cellsFrom (C + 1) scope.names [] ++ clOf scope X.env.cells).lookup y = some a ∧ (y, a) ∈ cellsFrom (C + 1) scope.names [] := by
    intro y hy;obtain ⟨a0, ha0⟩ := Zc0 scope.names (C + 1) [] y hy;obtain ⟨a, ha⟩ := lookup_mem (l := cellsFrom (C + 1) scope.names []) ⟨_, ha0, rfl⟩;exact ⟨a, by rw [List.lookup_append, ha]; rfl, mem_of_lookup ha⟩
  refine ⟨⟨I.ok.mod, c.kind, I.ok.glob, I.ok.blt, by rw [eC]; exact Nat.le_refl _, fun y z a h1 h2 => ?_, fun y h => ?_, fun y a hf h => ?_, I.ok.hd, I.ok.frames, .inl rfl, fun b hb => ?_, I.bs, Nat.le_trans I.ok.bsz I.sz, fun b u e hb => ?_, fun b hb => ?_, I.stack, I.Wv⟩,
    rfl, I.bare, Un.kept keep, ⟨_, hns, fun i y v e1 e2 e3 => ?_⟩, fun y a e => ?_, I.hok.fresh (by rw [eC]; exact Nat.le_refl _), fun y a e => ?_, fun p hp => ?_, I.hok.kept keep, ?_⟩
  · rcases split y a h1 with m1 | ⟨m1, _⟩ <;> rcases split z a h2 with m2 | ⟨m2, _⟩
    · exact name_of_addr ok.apart m1 m2
    · exact (Nat.lt_irrefl _ (Nat.lt_of_lt_of_le (Nat.lt_succ_of_lt (lt z a m2)) (ok.empty y a m1).2)).elim
    · exact (Nat.lt_irrefl _ (Nat.lt_of_lt_of_le (Nat.lt_succ_of_lt (lt y a m1)) (ok.empty z a m2).2)).elim
    · exact I.ok.inj y z a (Jq c I.ok m1).1 (Jq c I.ok m2).1
  · have hm : ∃ m ∈ scope.names, m.1 = y ∧ (m.2 = .free ∨ m.2 = .cell) := by
      rcases h with h | h
      · exact U3 (sc := X.env.scope) h (.inl rfl)
      · exact U3 (sc := X.env.scope) h (.inr rfl)
    obtain ⟨m, hm, e, hk⟩ := hm;rcases hk with hk | hk
    · refine lookup_mem ⟨_, List.mem_append_right _ (Ju.mpr ⟨m, hm, hk, rfl⟩), e⟩
    · obtain ⟨a, ha, _⟩ := hasK y (by rw [← e, ← hk]; exact hm)
      exact ⟨a, ha⟩
  · have hy : (y, NameKind.cell) ∈ scope.names := mem_of_lookup (beq_iff_eq.mp hf)
    obtain ⟨a', ha', m'⟩ := hasK y hy;have ea : a' = a := Option.some.inj (ha'.symm.trans h);have l1 := (ok.empty y a' m').2;rw [ea] at l1;show s.heap.objs.size ≤ a;rw [← eC];exact Nat.le_of_succ_le l1
  · obtain ⟨⟨_, _, _, _, f5, _⟩, u, e⟩ := fk b hb
    refine ⟨neC b u e, fun y a q => ?_⟩;rcases split y a q with m | ⟨m, _⟩
    · have h2 := Heap.lt_size e
      rw [← eC] at h2;exact fun z => Nat.lt_irrefl _ (Nat.lt_of_lt_of_le (Nat.lt_succ_of_lt h2) (z ▸ (ok.empty y a m).2))
    · exact f5 y a (Jq c I.ok m).1
  · obtain ⟨⟨_, _, _, f4, _, _⟩, _⟩ := fk b hb
    rcases f4 with z | z
    · exact I.ok.noex b u e z
    · exact absurd (Nat.lt_of_lt_of_le (Heap.lt_size (I.ok.bs b u e).1) z) (Nat.lt_irrefl _)
  · obtain ⟨⟨_, f2, f3, _, _, _⟩, _⟩ := fk b hb
    exact out f2 f3
  · by_cases lt : i < ys.length
    · have e2' : (List.replicate ys.length (none : Option V) ++ σ)[i]? = some (some v) := e2
      rw [List.getElem?_append_left (by simpa using lt), List.getElem?_replicate_of_lt lt] at e2';cases e2'
    · have e0 : M[i - ys.length]? = some y := by
        have e1' : (ys ++ M)[i]? = some y := e1
        rwa [List.getElem?_append_right (by omega)] at e1'
      have e2' : σ[i - ys.length]? = some (some v) := by
        have e2' : (List.replicate ys.length (none : Option V) ++ σ)[i]? = some (some v) := e2
        rwa [List.getElem?_append_right (by simpa using lt), List.length_replicate] at e2'
      have hy : y ∈ M := List.mem_of_getElem? e0
      have vis0 : (relabel scope X.env).names.lookup y ≠ none := by
        rcases e3 with z | z | z <;> (intro q; have q' := (show (relabel scope X.env).names.lookup y = some _ from z).symm.trans q; cases q')
      have e1' : X.N[i - ys.length]? = some y := by
        have hlt : i - ys.length < X.N.length := by rw [← c.len]; exact (List.getElem?_eq_some_iff.mp e0).1
        have hz : (y, X.N[i - ys.length]) ∈ M.zip X.N := by
          refine List.mem_of_getElem? (i := i - ys.length) ?_;rw [List.getElem?_zip_eq_some];exact ⟨e0, List.getElem?_eq_getElem hlt⟩
        rcases c.same _ hz with q | q
        · rw [List.getElem?_eq_getElem hlt]
          exact congrArg some q.symm
        · exact absurd q vis0
      have e3' : (relabel scope X.env).names.lookup y = some .cell ∨ (relabel scope X.env).names.lookup y = some .free := by
        rcases e3 with z | z | z
        · exact absurd z (c.apart y hy).1
        · exact .inl z
        · exact .inr z
      have hm : ∃ m ∈ scope.names, m.1 = y ∧ (m.2 = .free ∨ m.2 = .cell) := by
        rcases e3' with h | h
        · exact U3 (sc := X.env.scope) h (.inl rfl)
        · exact U3 (sc := X.env.scope) h (.inr rfl)
      obtain ⟨m, hm, em, hk⟩ := hm;have hfr : m.2 = .free := hk.resolve_right fun z => (c.apart y hy).2 (by rw [← em]; exact c.cnames m hm z)
      obtain ⟨a, ea⟩ := lookup_mem (l := clOf scope X.env.cells) ⟨_, Ju.mpr ⟨m, hm, hfr, rfl⟩, em⟩
      have ea' : (cellsFrom (C + 1) scope.names [] ++ clOf scope X.env.cells).lookup y = some a := by
        have : (cellsFrom (C + 1) scope.names []).lookup y = none := by
          cases e : (cellsFrom (C + 1) scope.names []).lookup y with
          | none => rfl
          | some a' =>
            rcases ZcZ _ _ _ _ _ (mem_of_lookup e) with z | z
            · cases z
            · exact absurd (c.cnames _ z rfl) (c.apart y hy).2
        rw [List.lookup_append, this, ea]; rfl
      obtain ⟨q1, q2⟩ := Jq c I.ok ea;obtain ⟨m, _, hl⟩ := I.loc;have vis : Vis X.env.scope y := .inr (.inl q2);obtain ⟨u, ru, lu⟩ := hl (i - ys.length) y v e1' e2' vis;refine ⟨u, ru, .inr ⟨e3', a, ea', ?_⟩⟩;rcases lu with ⟨z, _⟩ | ⟨_, a', ea', ⟨oc, hoc, hd⟩⟩
      · have z' : X.env.scope.names.lookup y = some .local := z
        rw [z'] at q2; cases q2
      · rw [q1] at ea'
        cases ea';exact ⟨oc, keep _ _ hoc, hd⟩
  · rcases split y a e with m | ⟨m, _⟩
    · exact ⟨none, (ok.empty y a m).1⟩
    · obtain ⟨v, oc, hoc, hd⟩ := I.cell y a (Jq c I.ok m).1
      exact ⟨v, oc, keep _ _ hoc, hd⟩
  · rcases split y a e with m | ⟨m, _⟩
    · exact I.hok.fresh (by rw [← eC]; exact Nat.le_of_succ_le (ok.empty y a m).2)
    · exact I.freeC y a (Jq c I.ok m).1
  · have hp' : p ∈ X.pn ++ pins := by simpa [YF, ZL] using hp
    obtain ⟨q1, q2, q3, q4, q5⟩ := I.pin p hp';exact ⟨keep _ _ q1, q2, neC _ _ q1, out q3 q4, q5⟩
  · show (List.replicate ys.length none ++ σ).length = (ys ++ M).length
    rw [List.length_append, List.length_append, List.length_replicate, I.len, c.len]
theorem uc{pins':List (Addr×Obj)}{σ':St}{H':Hp}{s1:Shared}(I:Inv X pins σ H s)(fk:∀b∈fp,FpOk X pins H b∧∃o,s.heap.get? b=some o)(I':Inv (YF X ys M scope C s H fp pins) pins' σ' H' s1):Inv X pins σ H' s1 :=
 I.call' (ch:=fp) I'.os I'.base I'.hok I'.bare fun b hb=>let ⟨⟨_,f2,_,f4,f5,f6⟩,_⟩:=fk b hb;⟨f4,f2,f5,f6⟩
theorem Zax{M:Model}{A:Around}{E:Value→Shared→Prop}{g:Addr}{cl:List (Str×Addr)}{q:Str}{env:Env}{Q:Env→Shared→Prop}
  (h:Q (newEnv scope s.heap.objs.size g (cellsFrom (s.heap.objs.size+1) scope.names []++cl) q none .none (some env) builtinsNs) { s with heap:=pushCells (s.heap.push { cls:=.type "dict",data:=.dict #[] }) scope.names }) :
  wpAny M A (newFunctionEnv scope g cl [] q none .none (some env)) Q E s:=by
 simp only [newFunctionEnv,Option.isSome_some,if_true];refine wpAny_bind (wpAny_alloc ?_);refine wpAny_bind (wpAny_layCells _ (fun name kind cells=>by cases hkc:kind == NameKind.cell <;> simp [hkc]) _ _ _ _ ?_);rw [show ({ s with heap:=s.heap.push { cls:=.type "dict",data:=.dict #[] } }:Shared).heap.objs.size=s.heap.objs.size+1 from Heap.size_push ..];rw [List.forIn_nil];refine wpAny_bind (wpAny_pure (wpAny_pure ?_));rw [show cellsFrom (s.heap.objs.size+1) scope.names cl=cellsFrom (s.heap.objs.size+1) scope.names []++cl from Zc1 scope.names _ [] cl];exact h
theorem Za7{elt iter tg:Expr}{pos:Pos}{g:TG}{te:TE}{tn:Nat→Heap→Prop}{it:Addr}{J:It}{E:Value→Shared→Prop}{QQ:Addr→Hp→Prop}{RR:Value→Addr→Result→Shared→Prop}(I:Inv X pins σ H s)(c:jF X.env.scope X.N M ys scope)(hc:X.calm=true)
  (hg:∀C s₀ H₀ fp pins,PG (YF X ys M scope C s₀ H₀ fp pins) tg g) (he:∀C s₀ H₀ fp pins,PE (YF X ys M scope C s₀ H₀ fp pins) elt te) (T:Turn X.prog X.w X.K tg J fp it tn) (st:tn 0 s.heap) (fk:∀b∈fp,FpOk X pins H b)
  (h:∀D,H D=none→∃W:Nat→Nat→Hp→Prop,(∃m,W 0 m (upd H D (.lst [])))∧∀i m H,W i m H →
   (J.stop i H∧QQ D H)∨(J.go i H∧∀v H',J.yld i H v H'→∀us:St,us.length=ys.length→g v (us ++ σ) H' fun σ2 H2=>(∃us':St,us'.length=ys.length∧σ2=us' ++ σ)∧te σ2 H2 fun y H3=>∃xs,H3 D=some (.lst xs)∧xs.length < sizeLine∧∃m',m' < m∧W (i+1) m' (upd H3 D (.lst (xs++[y])))))
  (fin:∀D C H' s',s.heap.objs.size≤C→s'.heap.get? C≠none→(∃m,s'.heap.Ns C m)→H' C=none→Inv X pins σ H' s'→QQ D H'→RR (.ref D) C (.ok .next) s') :
  wpAny (model X.prog X.w) X.A (newList []) (fun acc s₃=>wpAny (model X.prog X.w) X.A (newFunctionEnv scope X.env.globals (clOf scope X.env.cells) [] X.env.qual none .none (some X.env)) (fun cenv s₄ =>
   codeAny (model X.prog X.w) X.A (.compStart (.ListComp elt [⟨tg,iter,[],0⟩] scope pos) 0 (.ref it) acc { cenv with scope:=relabel scope X.env }) (RR acc cenv.locals) s₄) E s₃) E s:=by
 refine wpAny_newObj_type (Zax ?_);have hns:=(Heap.Ns.new (s.heap.push { cls:=.type "list",dict:=none,data:=.seq ([]:List Value).toArray }) (.type "dict")).keeps (pushCells_keeps scope.names _);have hf:H s.heap.objs.size=none:=I.hok.fresh (Nat.le_refl _)
 have I3:Inv X pins σ (upd H s.heap.objs.size (.lst [])) { s with heap:=s.heap.push { cls:=.type "list",dict:=none,data:=.seq ([]:List Value).toArray } } :=
  I.laid (t':=s.toks) (fun b u e=>Heap.get?_push_of_some _ e) (Nat.le_refl _) ⟨by decide,[],_,.nil,Heap.get?_push_size _ rfl⟩
 have eD:∀b u,s.heap.get? b=some u→b≠s.heap.objs.size:=fun b u e=>Nat.ne_of_lt (Heap.lt_size e)
 have fk3:∀b∈fp,FpOk X pins (upd H s.heap.objs.size (.lst [])) b∧∃o,(s.heap.push { cls:=.type "list",dict:=none,data:=.seq ([]:List Value).toArray }).get? b=some o:=fun b hb=>by
  obtain ⟨o,eo,_⟩:=T.obj 0 _ st b hb;obtain ⟨f1,f2⟩:=fk b hb;exact ⟨⟨by rw [ZD (eD b o eo)];exact f1,f2⟩,o,Heap.get?_push_of_some _ eo⟩
 have I4:=Zcv (tk:=s.toks) I3 c rfl hns fk3;obtain ⟨W,⟨m0,w0⟩,turn⟩:=h _ hf
 have st4:tn 0 (pushCells ((s.heap.push { cls:=.type "list",dict:=none,data:=.seq ([]:List Value).toArray }).push { cls:=.type "dict",data:=.dict #[] }) scope.names):=T.keep 0 _ _ st fun b hb o e=>by
  have e2:=Heap.get?_push_of_some { cls:=.type "list",dict:=none,data:=.seq ([]:List Value).toArray } e;exact pushCells_keeps _ _ b o (Heap.get?_push_of_some _ e2)
 have stat:∀{H':Hp},(∀b∈fp,H' b=none)→∀b∈fp,FpOk (YF X ys M scope (s.heap.push { cls:=.type "list",dict:=none,data:=.seq ([]:List Value).toArray }).objs.size { s with heap:=s.heap.push { cls:=.type "list",dict:=none,data:=.seq ([]:List Value).toArray } } (upd H s.heap.objs.size (.lst [])) fp pins) [] H' b :=
  fun hn b hb=>⟨hn b hb,(I4.ok.exf b hb).1,I4.ok.exfs b hb,.inl hb,(I4.ok.exf b hb).2,fun p hp=>(fk3 b hb).1.2.2.2.2.2 p (by simpa [YF,ZL] using hp)⟩
 have loop:∀s4:Shared,s4 = { s with heap:=pushCells ((s.heap.push { cls:=.type "list",dict:=none,data:=.seq ([]:List Value).toArray }).push { cls:=.type "dict",data:=.dict #[] }) scope.names } →
   codeAny (model X.prog X.w) X.A (.compLoop (.ListComp elt [⟨tg,iter,[],0⟩] scope pos) 0 (.ref it) (.ref s.heap.objs.size) (compEnvC scope (cellsFrom ((s.heap.push { cls:=.type "list",dict:=none,data:=.seq ([]:List Value).toArray }).objs.size+1) scope.names []++clOf scope X.env.cells) (s.heap.push { cls:=.type "list",dict:=none,data:=.seq ([]:List Value).toArray }).objs.size X.env))
    (RR (.ref s.heap.objs.size) (s.heap.push { cls:=.type "list",dict:=none,data:=.seq ([]:List Value).toArray }).objs.size) s4:=by
  rintro s4 rfl
  refine kI (fun n s'=>∃(i:Nat) (us:St) (H':Hp),us.length=ys.length∧Inv (YF X ys M scope (s.heap.push { cls:=.type "list",dict:=none,data:=.seq ([]:List Value).toArray }).objs.size { s with heap:=s.heap.push { cls:=.type "list",dict:=none,data:=.seq ([]:List Value).toArray } } (upd H s.heap.objs.size (.lst [])) fp pins) [] (us ++ σ) H' s'∧tn i s'.heap∧(∀b∈fp,H' b=none)∧W i n H')
   ?_ m0 ⟨0,_,_,List.length_replicate,I4,st4,fun b hb=>(fk3 b hb).1.1,w0⟩
  rintro n s5 ⟨i,us,H5,lu,I5,st5,fr5,w5⟩;rcases turn i n H5 w5 with ⟨stop,q⟩ | ⟨go,step⟩
  ·refine thn (T.done (YF X ys M scope _ _ _ _ _) rfl rfl rfl hc i [] s5 _ H5 _ I5 (stat fr5) st5 stop) fun r s6 ⟨er,I6⟩=>?_
   subst er;obtain ⟨m,hn6,_⟩:=id I6.loc;obtain ⟨o6,_,_,ho6,_⟩:=id hn6;exact fin _ _ H5 s6 (by rw [Heap.size_push];exact Nat.le_succ _) (fun z=>by have z':=ho6.symm.trans z;cases z') ⟨m,hn6⟩ I6.free (uc I3 fk3 I6) q
  ·refine thn (T.item (YF X ys M scope _ _ _ _ _) rfl rfl rfl hc i [] s5 _ H5 _ I5 (stat fr5) st5 go) fun r s6 ⟨u,er,h6⟩=>?_
   subst er;refine thn h6 fun _ s7 ⟨v',H7,I7,r7,y7,st7,fr7⟩=>?_
   have I7':=I7.pinned (stat fr7) (T.obj _ _ st7);refine wpAny_mono (hg _ _ _ _ _ _ s7 _ H7 v' u _ I7' r7 (step v' H7 y7 us lu)) (fun _ s8 ⟨σ8,H8,I8,⟨us',lu',e8⟩,q8⟩=>?_) fun _ _ z=>z.elim
   refine wpAny_mono (he _ _ _ _ _ _ s8 _ H8 _ I8 q8) (fun y s9 ⟨yv,H9,I9,ry,xs,hxs,hlen,m',hm,w9⟩=>?_) fun _ _ z=>z.elim
   refine wpAny_mono (Zy (X:=YF X ys M scope _ _ _ _ _) _ s9 _ H9 (.ref s.heap.objs.size) [yv] (.ref s.heap.objs.size) [y] (fun _ H10=>H10=upd H9 s.heap.objs.size (.lst (xs++[yv]))) I9 rfl (.cons ry .nil) ⟨_,xs,yv,rfl,rfl,hxs,hlen,rfl⟩) (fun _ s10 ⟨z,H10,I10,rz,q10⟩=>?_) fun _ _ z=>z.elim
   subst q10;subst e8;refine ⟨m',hm,i+1,us',_,lu',I10.Jo (pins:=[]),T.keep _ _ _ st7 fun b hb o e=>(I10.pin (b,o) (List.mem_append_right _ (List.mem_append_right _ (Yc hb e)))).1,fun b hb=>?_,w9⟩;obtain ⟨o,e,_⟩:=T.obj _ _ st7 b hb;exact (I10.pin (b,o) (List.mem_append_right _ (List.mem_append_right _ (Yc hb e)))).2.1
 exact codeAny_compStart_list (loop _ rfl) (T.self _ 0 _ _ _ st4 (loop _ rfl))
theorem ZgS{elt iter tg:Expr}{pos:Pos}{wi:TI}{g:TG}{te:TE}{n:Nat}(ys M:List Str)(c:jF X.env.scope X.N M ys scope)(hc:X.calm=true)(hi:PI X tg iter wi)(hg:∀C s₀ H₀ fp pins,PG (YF X ys M scope C s₀ H₀ fp pins) tg g)(he:∀C s₀ H₀ fp pins,PE (YF X ys M scope C s₀ H₀ fp pins) elt te)
  (hn:ys.length=n:=by rfl) (hs:∀v,foldedSetIterable iter X.env v=pure v:=by intro _;rfl):PE X (.ListComp elt [⟨tg,iter,[],0⟩] scope pos) (YX wi n g te):=by
 subst hn;intro pins s σ H Q I h;rw [eval_ListComp];refine wpAny_comprehension_free (use:=none) rfl hs (Ze_ c I.ok) c.kind c.names (thn (hi pins s σ H _ I h) fun v s1 h1=>thn h1 fun itv s2 h2=>?_);obtain ⟨it,fp,tn,J,H2,rfl,I2,T,st2,fk2,h3⟩:=h2;refine Za7 (E:=X.xe) (QQ:=fun D H'=>Q (.ref D) H') I2 c hc hg he T st2 fk2 h3 fun D C H' s' hC hl ns fr I' q=>?_
 obtain ⟨m,hn⟩:=ns;refine ⟨m,hn,fun h' hs'=>?_⟩;exact ⟨.ref D,H',I'.turned (t':=s'.toks) (fun b o hb e=>(hs'.2 b hb).trans e) fr (I2.fpOk hC fr).2.1 (I2.fpOk hC fr).2.2.2.1 (I2.fpOk hC fr).2.2.2.2.1 (I2.fpOk hC fr).2.2.2.2.2,rfl,q⟩
end
end L2
namespace Rk
def pt(r:List Int)(p:Nat):Int:=r.getD p 0
def Wide(w:Nat)(R:List (List Int)):Prop:=∀r∈R,r.length=w
end Rk
namespace Dn
open Rk
def nI(l:List Nat):List Int:=l.map fun i:Nat=>(i:Int)
def nxt1(n:Nat)(S:List Nat):List (List Nat):=(List.range (n - (S.getLastD 0+1))).map fun k=>S++[S.getLastD 0+1+k]
def lvl(n:Nat):Nat→List (List Nat)
 | 0=>(List.range n).map fun k=>[k]
 | i+1=>(lvl n i).flatMap (nxt1 n)
def tld(n:Nat):Nat→List (List Nat)
 | 0=>[]
 | i+1=>tld n i++lvl n i
def vC(n:Nat):List (List Nat):=tld n n
theorem ZfF:∀n < 6,lvl n n=[]:=by decide +kernel
theorem Zg8:∀n < 6,∀i < n,lvl n i≠[]:=by decide +kernel
theorem gK:∀n < 6,∀i < 6,(lvl n i).length≤10∧(tld n i).length≤31:=by decide +kernel
theorem Zg9:∀n < 6,∀i < 6,∀S∈lvl n i,S≠[]∧S.length≤5∧∀k∈S,k < n:=by decide +kernel
theorem ZdP:∀n < 6,∀i < 6,∀S∈lvl n i,(nxt1 n S).length≤5:=by decide +kernel
theorem W4:∀n < 6,∀S∈vC n,S≠[]∧S.length≤5∧∀k∈S,k < n:=by decide +kernel
def hs(h:List Int)(S:List Nat):Bool:=S.any fun k=>decide (0 < pt h k)
abbrev Tp:=List Int×List Int
def isD(T:List Tp)(S:List Nat):Bool:=T.all fun t=>hs t.1 S || !hs t.2 S
theorem Ziy{h:List Int}{S:List Nat}:hs h S=false↔∀k∈S,¬ 0 < pt h k:=by
 unfold hs;rw [List.any_eq_false];simp
theorem ZhK{h:List Int}{S:List Nat}:hs h S=true↔∃k∈S,0 < pt h k:=by
 unfold hs;rw [List.any_eq_true];simp
end Dn
namespace L2
open PySem PySem.Spec PyProof.Rows
open PySem.W (Dat KasT kas_sort kas_ask KatLex KatTups)
def runT{α : Type}(lt:Nat→Nat→Bool)(m:Nat):KasT α→Option α
 | .ret a=>some a
 | .ask i j k=>if i < m∧j < m then runT lt m (k (lt i j)) else none
def lxx:List Int→List Int→Bool
 | [],[]=>false
 | [],_ :: _=>true
 | _ :: _,[]=>false
 | a :: x,b :: y=>if a=b then lxx x y else decide (a < b)
def ZeF(K:Fg):List V→Hp→VK→Prop:=fun xs H Q=>∃(a:Addr) (vs:List V) (ns:List (List Int)) (p:Array Nat),xs=[.ref a]∧SqL K H a vs∧1≤vs.length∧vs.length < 64∧RzL K H vs (ns.map fun n=>.tuple (n.map Dat.int))∧(∀n∈ns,n≠[]) ∧
 runT (fun i j=>lxx (ns.getD i []) (ns.getD j [])) vs.length (kas_sort vs.length)=some p∧p.size=vs.length∧(∀i∈p.toList,i < vs.length)∧∀l,H l=none→Q (.ref l) (upd H l (.lst (p.toList.map fun i=>vs.getD i .non)))
section
variable{prog:Program}{w:World}{A:Around}{E:Value→Shared→Prop}{s:Shared}
theorem ZeE{α : Type}{lt:Nat→Nat→Bool}{m:Nat}{cmp:Nat→Nat→(Bool→Shared→Prop)→Shared→Prop}(hc:∀i j C,i < m→j < m→C (lt i j) s→cmp i j C s){Q : α→Shared→Prop}:∀(t:KasT α) {a : α},runT lt m t=some a→Q a s→t.kasWp cmp Q s
 | .ret a,_,h,q=>by cases h;exact q
 | .ask i j k,a,h,q=>by
  unfold runT at h;split at h
  ·rename_i l;exact hc i j _ l.1 l.2 (ZeE hc (k (lt i j)) h q)
  ·cases h
theorem Zaa{fin b:Bool}{Q:Bool→Shared→Prop}:∀{ns ms:List Int} {xs ys:List Value} (i:Nat),IntsAre xs ns→IntsAre ys ms→fin=decide (xs.length < ys.length)→Q (lxx ns ms) s→KatLex prog w A b fin Q (xs.zip ys) i s
 | [],[],_,_,i,.nil,.nil,f,q=>by
  subst f;exact q
 | [],_ :: _,_,_,i,.nil,.cons _ _ _,f,q=>by
  subst f;exact q
 | _ :: _,[],_,_,i,.cons _ _ _,.nil,f,q=>by
  subst f;exact q
 | n :: ns,m :: ms,_,_,i,.cons _ t r1,.cons _ u r2,f,q=>by
  refine PySem.W.kat_cons (wpAny_eqBool_int ?_);unfold lxx at q;by_cases e:n=m
  ·rw [if_pos e] at q;rw [show (n == m)=true by simpa using e];exact PySem.W.kat_yes (Zaa (i+1) r1 r2 (by rw [f];simp) q)
  ·rw [if_neg e] at q;rw [show (n == m)=false by simpa using e];refine PySem.W.kat_no ?_;cases hb:(b && i == 0) with
   | true=>exact oneLt_int q
   | false=>exact PySem.W.kat_one _ _ (PyProof.Rows.lt_int (show PySem.W.BoolBack Q (.bool _) s from q))
def YM(h:Heap):List Value→List (List Int)→Prop
 | [],[]=>True
 | v :: vs,n :: ns=>(∃a its,v = .ref a∧IsTup h a its∧IntsAre its.toList n)∧YM h vs ns
 | _,_=>False
theorem YM.keep{h h':Heap}(k:∀b o,h.get? b=some o→h'.get? b=some o):∀{vs:List Value} {ns:List (List Int)},YM h vs ns→YM h' vs ns
 | [],[],_=>trivial
 | [],_ :: _,t=>t.elim
 | _ :: _,[],t=>t.elim
 | v :: vs,n :: ns,⟨⟨a,its,e,⟨o,ho,hc,m,hd⟩,hi⟩,t⟩=>⟨⟨a,its,e,⟨o,k a o ho,hc,m,hd⟩,hi⟩,YM.keep k t⟩
theorem YM.get{h:Heap}:∀{vs:List Value} {ns:List (List Int)} (i:Nat),YM h vs ns→i < vs.length→∃a its,vs.getD i Value.none = .ref a∧IsTup h a its∧IntsAre its.toList (ns.getD i [])
 | [],[],i,_,l=>absurd l (Nat.not_lt_zero _)
 | [],_ :: _,_,t,_=>t.elim
 | _ :: _,[],_,t,_=>t.elim
 | v :: vs,n :: ns,0,⟨⟨a,its,e,p,hi⟩,t⟩,_=>⟨a,its,e,p,hi⟩
 | v :: vs,n :: ns,i+1,⟨_,t⟩,l=>YM.get i t (Nat.lt_of_succ_lt_succ l)
theorem YM.firsts{h:Heap}:∀{vs:List Value} {ns:List (List Int)},YM h vs ns→(∀n∈ns,n≠[])→∃fs:List Value,fs.length=vs.length∧KatTups h vs fs∧∀v∈fs,∃i t,v = .int i t
 | [],[],_,_=>⟨[],rfl,trivial,fun v hv=>by cases hv⟩
 | [],_ :: _,t,_=>t.elim
 | _ :: _,[],t,_=>t.elim
 | v :: vs,n :: ns,⟨⟨a,its,e,⟨o,ho,hc,m,hd⟩,hi⟩,t⟩,ne=>by
  obtain ⟨fs,l,k,q⟩:=YM.firsts t fun n hn=>ne n (List.mem_cons_of_mem _ hn)
  have nn:=ne n List.mem_cons_self;generalize hl:its.toList=il at hi;cases hi with
  | nil=>exact absurd rfl nn
  | @cons i t vs' ns' r =>
   have e0:its[0]? = some (.int i t):=by
    have:its.toList[0]? = some (.int i t):=by rw [hl];rfl
    simpa using this
   subst e;refine ⟨.int i t :: fs,by rw [List.length_cons,l,List.length_cons],PySem.W.KatTups.cons ho hc hd e0 k,fun v hv=>?_⟩;rcases List.mem_cons.mp hv with rfl | hv
   ·exact ⟨i,t,rfl⟩
   ·exact q v hv
theorem Zbv {a:Addr} {vs:List Value} {ns:List (List Int)} {n:Nat} {p:Array Nat} {P:PySem.Fin→Shared→Prop} (ho:s.heap.get? a=some (seqObj "list" vs.toArray n)) (h1:1≤vs.length) (h64:vs.length < 64) (t:YM s.heap vs ns) (ne:∀n∈ns,n≠[]) (ha:∀b o,b≠a→s.heap.get? b=some o→True)
  (nt:∀i,i < vs.length→vs.getD i Value.none≠.ref a) (hr:runT (fun i j=>lxx (ns.getD i []) (ns.getD j [])) vs.length (kas_sort vs.length)=some p)
  (h:∀h' c,(∀b o,b≠a→s.heap.get? b=some o→h'.get? b=some o)→h'.get? a=some (seqObj "list" (List.toArray (p.toList.map fun i=>vs.getD i Value.none)) c)→P (.done (.ret .none)) { s with heap:=h' }) :
  wpAny (model prog w) A (Builtin.«list.sort» ⟨[.ref a],[]⟩) P E s:=by
 have lt:a < s.heap.objs.size:=Heap.lt_size ho;obtain ⟨e1,ho1⟩:∃e1,(s.heap.update a (Obj.mapSeq fun _=>(#[]:Array Value))).get? a=some (seqObj "list" #[] e1):=⟨_,get?_update_seq ho fun _=>#[]⟩
 have keep:∀b o,b≠a→s.heap.get? b=some o→(((s.heap.update a (Obj.mapSeq fun _=>(#[]:Array Value))).push (seqObj "tuple" vs.toArray 0)).push (seqObj "list" #[] 0)).get? b=some o:=fun b o hb q =>
  Heap.get?_push_of_some _ (Heap.get?_push_of_some _ (by rw [Heap.get?_update_ne _ _ _ _ hb];exact q))
 have ho3:(((s.heap.update a (Obj.mapSeq fun _=>(#[]:Array Value))).push (seqObj "tuple" vs.toArray 0)).push (seqObj "list" #[] 0)).get? a=some (seqObj "list" #[] e1):=Heap.get?_push_of_some _ (Heap.get?_push_of_some _ ho1)
 have t3:YM (((s.heap.update a (Obj.mapSeq fun _=>(#[]:Array Value))).push (seqObj "tuple" vs.toArray 0)).push (seqObj "list" #[] 0)) vs ns:=by
  have go:∀{ws:List Value} {ms:List (List Int)},(∀v∈ws,v≠.ref a)→YM s.heap ws ms→YM (((s.heap.update a (Obj.mapSeq fun _=>(#[]:Array Value))).push (seqObj "tuple" vs.toArray 0)).push (seqObj "list" #[] 0)) ws ms:=by
   intro ws
   induction ws with
   | nil =>
    intro ms _ t;cases ms with
    | nil=>trivial
    | cons=>exact t.elim
   | cons v ws ih =>
    intro ms hv t;cases ms with
    | nil=>exact t.elim
    | cons m ms =>
     obtain ⟨⟨b,its,e,⟨o,q1,q2,q3⟩,q4⟩,t⟩:=t;refine ⟨⟨b,its,e,⟨o,keep b o ?_ q1,q2,q3⟩,q4⟩,ih (fun v h=>hv v (List.mem_cons_of_mem _ h)) t⟩;rintro rfl;exact hv v List.mem_cons_self e
  refine go (fun v hv z=>?_) t;obtain ⟨i,li,e⟩:=List.mem_iff_getElem.mp hv;refine nt i li ?_;rw [List.getD_eq_getElem?_getD,List.getElem?_eq_getElem li,e];exact z
 rw [list_sort_plain];refine wpAny_bind (listItems_at ho rfl ?_);refine wpAny_bind (listUpdate_at ho rfl ?_ (by rw [List.size_toArray,sizeLine_eq];omega) (Nat.zero_le _));refine wpAny_bind (seqEpoch_at ho1 rfl ?_);refine wpAny_bind (wpAny_newTuple ?_ (by show vs.length≤_;rw [sizeLine_eq];omega));refine wpAny_bind (wpAny_newList ?_ (Nat.zero_le _));refine wpAny_holding ?_;show wpAny (model prog w) A _ P E { s with heap:=((s.heap.update a (Obj.mapSeq fun _=>(#[]:Array Value))).push (seqObj "tuple" vs.toArray 0)).push (seqObj "list" #[] 0) };dsimp only;generalize ((s.heap.update a (Obj.mapSeq fun _=>(#[]:Array Value))).push (seqObj "tuple" vs.toArray 0)).push (seqObj "list" #[] 0)=h3 at keep ho3 t3 ⊢
 have fin:∀(q:Array Nat),q=p→∀Q:Unit→Shared→Prop,(∀h' c,(∀b o,b≠a→h3.get? b=some o→h'.get? b=some o)→h'.get? a=some (seqObj "list" (List.toArray (p.toList.map fun i=>vs.getD i Value.none)) c)→Q () { s with heap:=h' }) →
   Q () { s with heap:=h3.update a (Obj.mapSeq fun _=>List.toArray (q.toList.map fun i=>vs.getD i Value.none)) }:=by
  rintro q rfl Q hQ;obtain ⟨c2,hc2⟩:∃c2,(h3.update a (Obj.mapSeq fun _=>List.toArray (q.toList.map fun i=>vs.getD i Value.none))).get? a=some (seqObj "list" (List.toArray (q.toList.map fun i=>vs.getD i Value.none)) c2):=⟨_,get?_update_seq ho3 fun _=>_⟩
  exact hQ _ c2 (fun b o hb e=>by rw [Heap.get?_update_ne _ _ _ _ hb];exact e) hc2
 by_cases h2:vs.toArray.size < 2
 ·rw [if_pos h2,if_pos h2]
  obtain ⟨v,rfl⟩:∃v,vs=[v]:=by
   rw [List.size_toArray] at h2;exact List.length_eq_one_iff.mp (by omega)
  have ep:p = #[0]:=by
   have:runT (fun i j=>lxx (ns.getD i []) (ns.getD j [])) 1 (kas_sort 1)=some #[0]:=rfl
   rw [show [v].length=1 from rfl] at hr;rw [hr] at this;exact Option.some.inj this
  subst ep;refine wpAny_bind (wpAny_pure ?_);rw [StateT.run_pure];refine wpAny_bind (wpAny_pure ?_);dsimp only
  have eo:(arrOf (SortSt.mk' general' (#[v].zip #[v]) #[] 7 none)).map (·.2)=List.toArray ((#[0]:Array Nat).toList.map fun i=>[v].getD i Value.none):=by
   show (#[v].zip #[v]).map (·.2) = #[v];simp
  rw [eo];refine wpAny_bind (seqEpoch_at ho3 rfl ?_);refine wpAny_bind (listUpdate_at ho3 rfl ?_ (Nat.zero_le _) (by show 1≤sizeLine+1;omega));simp only [bne_self_eq_false,Bool.false_eq_true,if_false];refine fin #[0] rfl (fun _ s'=>wpAny (model prog w) A _ P E s') fun h' c k e=>wpAny_pure (h h' c (fun b o hb q=>k b o hb (keep b o hb q)) e)
 ·rw [if_neg h2,if_neg h2];rw [List.size_toArray] at h2;obtain ⟨fs,lf,kt,kf⟩:=t3.firsts ne
  refine wpAny_bind (PySem.W.kat_kind (s:={ s with heap:=h3 }) (T:=.type "int") kt (by omega) (fun v hv=>by
   obtain ⟨i,t,rfl⟩:=kf v hv
   exact PySem.W.Looks.of_pure rfl) rfl ?_)
  refine wpAny_bind (wpAny_mono (PySem.W.kat_run (vs:=vs) (ks:=vs) (s:={ s with heap:=h3 }) (Q:=fun st' s'=>s' = { s with heap:=h3 }∧arrOf st'=p.map (PySem.W.kas_item (vs.toArray.zip vs.toArray))∧p.size=vs.length∧failedOf st'=none) (G:=fun q s'=>s' = { s with heap:=h3 }∧q=p)
   rfl (by omega) h64 (fun q st' s' a1 a2 a3 a4=>⟨a4.1,by rw [← a4.2];exact a2,by rw [← a4.2];exact a1,a3⟩) (ZeE (fun i j C hi hj q=>?_) _ hr ⟨rfl,rfl⟩)) ?_ fun _ _ e=>e)
  ·obtain ⟨b1,i1,g1,⟨o1,x1,x2,m1,x3⟩,q1⟩:=t3.get i hi;obtain ⟨b2,i2,g2,⟨o2,y1,y2,m2,y3⟩,q2⟩:=t3.get j hj;unfold PySem.W.kas_ask;rw [g1,g2];exact PySem.W.kat_lt (s:={ s with heap:=h3 }) x1 x3 y1 y3 (Zaa 0 q1 q2 (by simp) q)
  ·rintro ⟨⟨⟩,st'⟩ s' ⟨rfl,har,hp,hf⟩;dsimp only;have hout:=PySem.W.kat_snds (vs:=vs) (ks:=vs) rfl har;rw [hout];refine wpAny_bind (seqEpoch_at ho3 rfl ?_);refine wpAny_bind (listUpdate_at ho3 rfl ?_ (Nat.zero_le _) (by rw [List.size_toArray,List.length_map,Array.length_toList,hp,sizeLine_eq];omega));rw [hf];simp only [bne_self_eq_false,Bool.false_eq_true,if_false];refine fin p rfl (fun _ s'=>wpAny (model prog w) A _ P E s') fun h' c k e=>wpAny_pure (h h' c (fun b o hb q=>k b o hb (keep b o hb q)) e)
end
section
variable{X:Cx}
theorem Zbd{xs:List V}{us:List Value}(r:Vals xs us)(i:Nat)(h:i < xs.length):RelV (xs.getD i .non) (us.getD i Value.none):=by
 induction r generalizing i with
 | nil=>exact absurd h (Nat.not_lt_zero _)
 | cons r _ ih =>
  cases i with
  | zero=>exact r
  | succ i=>exact ih i (Nat.lt_of_succ_lt_succ h)
theorem yU{xs:List V}{us:List Value}(r:Vals xs us):∀(p:List Nat),(∀i∈p,i < xs.length)→Vals (p.map fun i=>xs.getD i .non) (p.map fun i=>us.getD i Value.none)
 | [],_=>.nil
 | i :: p,h=>.cons (Zbd r i (h i List.mem_cons_self)) (yU r p fun j hj=>h j (List.mem_cons_of_mem _ hj))
theorem Za9:Ul X (.builtin "sorted") (ZeF X.K):=by
 intro pins s σ H xs us Q I r h;obtain ⟨a,vs,ns,p,rfl,hq,h1,h64,rz,ne,hr,psz,pin,q⟩:=h;obtain ⟨u,rfl,ru⟩:=vals1 r;cases ru;obtain ⟨its,rv,pl,_⟩:=I.list hq;have hl:s.heap.IsList a its.toArray:=pl.isList;have le:vs.length=its.length:=rv.length
 have t0:YM s.heap its ns:=by
  have go:∀{vs:List V} {its:List Value} {ns:List (List Int)},Vals vs its→RzL X.K H vs (ns.map fun n=>.tuple (n.map Dat.int))→YM s.heap its ns:=by
   intro vs
   induction vs with
   | nil =>
    intro its ns r z;cases r;cases ns with
    | nil=>trivial
    | cons=>cases z
   | cons v vs ih =>
    intro its ns r z;cases r with
    | cons r1 r2 =>
     cases ns with
     | nil=>cases z
     | cons n ns =>
      cases z with
      | cons z1 z2 =>
       obtain ⟨b,ys,rfl,hb,ry⟩:=Rp.Yz z1;rw [RpL.ints_of ry] at hb;cases r1;obtain ⟨i2,r3,p3,_⟩:=I.tuple (SqT.of hb);exact ⟨⟨b,i2.toArray,rfl,p3,intsAre_of r3⟩,ih r2 z2⟩
  exact go rv rz
 refine Calls.call_function_entry kind_sorted plain_sorted entry_sorted (args_sorted1 _) ?_;unfold Builtin.«sorted»;refine wpAny_bind (m:=checkCount "sorted" 1 1 _) (wpAny_pure ?_);refine wpAny_bind (collect_list hl ?_ (by rw [sizeLine_eq];omega));refine wpAny_bind (wpAny_newList ?_ (by rw [sizeLine_eq];omega))
 have hsz:((s.heap.push (seqObj "list" #[] 0)).update s.heap.objs.size (Obj.mapSeq (· ++ its.toArray))).objs.size=s.heap.objs.size+1:=by
  rw [Heap.size_update,size_push']
 have hoL:(((s.heap.push (seqObj "list" #[] 0)).update s.heap.objs.size (Obj.mapSeq (· ++ its.toArray))).push (seqObj "list" its.toArray 0)).get? (s.heap.objs.size+1)=some (seqObj "list" its.toArray 0):=by
  rw [← hsz];exact Heap.get?_push_size _ rfl
 have keep:∀b o,s.heap.get? b=some o→(((s.heap.push (seqObj "list" #[] 0)).update s.heap.objs.size (Obj.mapSeq (· ++ its.toArray))).push (seqObj "list" its.toArray 0)).get? b=some o:=fun b o q=>by
  have hlt:b < s.heap.objs.size:=Heap.lt_size q;rw [Heap.get?_push_ne _ _ _ (by rw [hsz];exact Nat.ne_of_lt (Nat.lt_succ_of_lt hlt)),Heap.get?_update_ne _ _ _ _ (Nat.ne_of_lt hlt),Heap.get?_push_ne _ _ _ (Nat.ne_of_lt hlt)];exact q
 show wpAny _ _ _ _ _ { s with heap:=((s.heap.push (seqObj "list" #[] 0)).update s.heap.objs.size (Obj.mapSeq (· ++ its.toArray))).push (seqObj "list" its.toArray 0) };rw [hsz];refine wpAny_bind (wpAny_holding (wpAny_call_entry slot_list_sort ⟨_,hoL,rfl⟩ entry_list_sort ?body (args_list_sort _)))
 case body =>
  refine Zbv (p:=p) (ns:=ns) hoL (by omega) (by omega) (t0.keep keep) ne (fun _ _ _ _=>trivial) (fun i hi z=>?_) (by rw [← le];exact hr) fun h' c kp e=>⟨_,rfl,wpAny_pure ⟨_,rfl,?_⟩⟩
  ·obtain ⟨b,i2,e,⟨o,ho,_⟩,_⟩:=t0.get i hi;rw [e] at z;cases z;exact absurd (Heap.lt_size ho) (Nat.not_lt.mpr (Nat.le_succ _))
  ·refine ⟨.ref (s.heap.objs.size+1),_,I.laid (t':=s.toks) (o:=.lst (p.toList.map fun i=>vs.getD i .non)) (fun b o e=>kp b o (fun z=>?_) (keep b o e)) (Nat.le_succ _) ?_,rfl,q _ (I.hok.fresh (Nat.le_succ _))⟩
   ·rw [z] at e;exact absurd (Heap.lt_size e) (Nat.not_lt.mpr (Nat.le_succ _))
   ·refine ⟨?_,_,c,yU rv p.toList pin,e⟩;rw [List.length_map,Array.length_toList,psz,sizeLine_eq];omega
theorem Zc7:bootBuiltins "sorted" = some (.builtin "sorted"):=by decide +kernel
end
end L2
namespace L2
open PySem PySem.Spec PyProof.Rows
abbrev Yq (h:Heap) (T:Addr) (a b c:Value):Prop:=h.get? T=some { cls:=.type "tuple",data:=.seq #[a,b,c] }
structure ZAp3 (z TI TO i1 i2 i3 l1 l2 l3:Addr):Prop where
 a:i1 < i2
 a':i2 < i3
 b:i3 < TI
 c:TI < TO
 d:TO < z
 e:l1 < i1
 f:l2 < i1
 g:l3 < i1
theorem uG{z TI TO i1 i2 i3 l1 l2 l3:Nat}(a:i1 < i2)(a':i2 < i3)(b:i3 < TI)(c:TI < TO)(d:TO < z)(e:l1 < i1)(f:l2 < i1)(g:l3 < i1) :
  (i1≠z∧i2≠z∧i3≠z∧TO≠i1∧TO≠i2∧TO≠i3∧TO≠z∧TI≠z∧TI≠TO∧TI≠i1∧TI≠i2∧TI≠i3∧i1≠i2∧i1≠i3∧i2≠i3)∧l1≠z∧l1≠TO∧l1≠i2∧l1≠i3∧l2≠z∧l2≠TO∧l2≠i1∧l2≠i3∧l3≠z∧l3≠TO∧l3≠i1∧l3≠i2:=by
 have kT:=Nat.lt_trans b c;have kz:=Nat.lt_trans kT d;have jI:=Nat.lt_trans a' b;have jT:=Nat.lt_trans a' kT;have jz:=Nat.lt_trans a' kz;have ik:=Nat.lt_trans a a';have iI:=Nat.lt_trans a jI;have iT:=Nat.lt_trans a jT;have iz:=Nat.lt_trans a jz;have tz:=Nat.lt_trans c d;exact ⟨⟨Nat.ne_of_lt iz,Nat.ne_of_lt jz,Nat.ne_of_lt kz,Nat.ne_of_gt iT,Nat.ne_of_gt jT,Nat.ne_of_gt kT,Nat.ne_of_lt d,Nat.ne_of_lt tz,Nat.ne_of_lt c,Nat.ne_of_gt iI,Nat.ne_of_gt jI,Nat.ne_of_gt b,Nat.ne_of_lt a,Nat.ne_of_lt ik,Nat.ne_of_lt a'⟩,Nat.ne_of_lt (Nat.lt_trans e iz),Nat.ne_of_lt (Nat.lt_trans e iT),Nat.ne_of_lt (Nat.lt_trans e a),Nat.ne_of_lt (Nat.lt_trans e ik),Nat.ne_of_lt (Nat.lt_trans f iz),Nat.ne_of_lt (Nat.lt_trans f iT),Nat.ne_of_lt f,Nat.ne_of_lt (Nat.lt_trans f ik),Nat.ne_of_lt (Nat.lt_trans g iz),Nat.ne_of_lt (Nat.lt_trans g iT),Nat.ne_of_lt g,Nat.ne_of_lt (Nat.lt_trans g a)⟩
section
variable{prog:Program}{w:World}{A:Around}{E:Value→Shared→Prop}{s:Shared}{z TI TO i1 i2 i3 l1 l2 l3:Addr}{xs ys zs:Array Value}{S1 S2 S3:Nat→Heap→Prop}{k:Nat}
structure ZAt3 (z TI TO i1 i2 i3:Addr) (S1 S2 S3:Nat→Heap→Prop) (k:Nat) (h:Heap):Prop where
 z:IsZip h z TI TO .none
 i:Yq h TI (.ref i1) (.ref i2) (.ref i3)
 o:∃a b c,Yq h TO a b c
 s1:S1 k h
 s2:S2 k h
 s3:S3 k h
theorem Wh {T:Addr} {a b c x:Value} {j:Nat} {Q:Unit→Shared→Prop} (hT:Yq s.heap T a b c) (q:∀h',h'.get? T=some { cls:=.type "tuple",data:=.seq ((#[a,b,c]:Array Value).setIfInBounds j x) }→Heap.SameBut T s.heap h'→Q () { s with heap:=h' }) :
  wpAny (model prog w) A (updateSeq T (·.setIfInBounds j x)) Q E s:=by
 refine wpAny_updateSeq hT rfl (q _ ?_ (Heap.SameBut.update ..));rw [Heap.get?_update_self _ hT rfl];simp [Obj.mapSeq]
theorem Zba(D:ZAp3 z TI TO i1 i2 i3 l1 l2 l3)(W1:Drw prog w i1 l1 xs S1)(W2:Drw prog w i2 l2 ys S2)(W3:Drw prog w i3 l3 zs S3)(st:ZAt3 z TI TO i1 i2 i3 S1 S2 S3 k s.heap){Q:Option Value→Shared→Prop} :
  (∀x y y3,xs[k]? = some x→ys[k]? = some y→zs[k]? = some y3→(∀h',IsZip h' z TI TO (rawInt s.heap.objs.size)→Yq h' TI (.ref i1) (.ref i2) (.ref i3)→(∃a b c,Yq h' TO a b c)→S1 (k+1) h'→S2 (k+1) h'→S3 (k+1) h'→Yq h' s.heap.objs.size x y y3 →
   (∀c o,c∉[z,TI,TO,i1,i2,i3]→s.heap.get? c=some o→h'.get? c=some o)→Q (some (.ref s.heap.objs.size)) { s with heap:=h' })→wpAny (model prog w) A (pyNext (.ref z)) Q E s) ∧
  (A.handled=none→(xs[k]? = none∨ys[k]? = none∨zs[k]? = none)→(∀h',(∀c o,c∉[z,TI,TO,i1,i2,i3]→s.heap.get? c=some o→h'.get? c=some o)→Q none { s with heap:=h' })→wpAny (model prog w) A (pyNext (.ref z)) Q E s):=by
 obtain ⟨d1,d1',d2,d3,d4,d5,d6,d7⟩:=D;obtain ⟨hz,hI,⟨a,b,c,hO⟩,t1,t2,t3⟩:=st;have ty:s.TypeIs (.ref z) "zip":=⟨_,hz,rfl⟩
 obtain ⟨⟨n1,n2,n3,nO1,nO2,nO3,nOz,nIz,nIO,nI1,nI2,nI3,n12,n13,n23⟩,q1,q2,q3,q4,q5,q6,q7,q8,q9,qa,qb,qc⟩:=uG d1 d1' d2 d3 d4 d5 d6 d7
 have m1:∀{c h h':_},c∈[z,TO,i2,i3]→Heap.ExtBut c h h'→∀k,S1 k h→S1 k h':=fun {c h h'} hc x k t=>W1.keep k h h' t fun b hb o e=>x b o (by
  rcases hb with rfl | rfl <;> (simp only [List.mem_cons,List.not_mem_nil,or_false] at hc;rcases hc with rfl | rfl | rfl | rfl <;> first | assumption | (apply Ne.symm;assumption))) e
 have m2:∀{c h h':_},c∈[z,TO,i1,i3]→Heap.ExtBut c h h'→∀k,S2 k h→S2 k h':=fun {c h h'} hc x k t=>W2.keep k h h' t fun b hb o e=>x b o (by
  rcases hb with rfl | rfl <;> (simp only [List.mem_cons,List.not_mem_nil,or_false] at hc;rcases hc with rfl | rfl | rfl | rfl <;> first | assumption | (apply Ne.symm;assumption))) e
 have m3:∀{c h h':_},c∈[z,TO,i1,i2]→Heap.ExtBut c h h'→∀k,S3 k h→S3 k h':=fun {c h h'} hc x k t=>W3.keep k h h' t fun b hb o e=>x b o (by
  rcases hb with rfl | rfl <;> (simp only [List.mem_cons,List.not_mem_nil,or_false] at hc;rcases hc with rfl | rfl | rfl | rfl <;> first | assumption | (apply Ne.symm;assumption))) e
 constructor
 ·intro x y y3 hx hy hy3 q;unfold pyNext;refine wpAny_bind (wpAny_attempt (wpAny_callSpecial?_slot (name:=Str.ofString "__next__") ty F.slot_zip_next (wpAny_call_entry F.slot_zip_next ty F.entry_zip_next ?_ (F.args_zip_next_1 _))));show wpAny _ _ (field (.ref z) 2 >>= _) _ _ _;refine wpAny_bind (wpAny_field hz rfl (x:=.bool false) rfl ?_);show wpAny _ _ (field (.ref z) 3 >>= _) _ _ _;refine wpAny_bind (wpAny_field hz rfl (x:=.ref TI) rfl (wpAny_bind (wpAny_seqItems hI rfl ?_)));show wpAny _ _ (Builtin.SmallTypes.ownedTupleIsFree (.ref z) >>= _) _ _ _;refine wpAny_bind ?_;unfold Builtin.SmallTypes.ownedTupleIsFree;refine wpAny_bind (wpAny_field hz rfl (x:=.none) rfl (wpAny_pure ?_));simp only [if_true];refine wpAny_bind (wpAny_rule (wpAny_bind (wpAny_field hz rfl (x:=.ref TO) rfl (wpAny_bind (wpAny_setField_rec hz (by simp) fun h1 hz1 hs1=>?_)))));replace hz1:IsZip h1 z TI TO .ellipsis:=hz1;refine wpAny_bind ?_;simp only [List.zipIdx_cons,List.zipIdx_nil,List.forIn_cons,List.forIn_nil];refine wpAny_bind (wpAny_bind (wpAny_onRaise ?_));show wpAny _ _ (Builtin.SmallTypes.nextOf (.ref i1) >>= _) _ _ _;refine wpAny_bind (W1.item _ _ _ k x _ (m1 (by simp) hs1.extBut k t1) hx fun h2 t12 hs2=>wpAny_pure ?_);have hO2:Yq h2 TO a b c:=hs2.extBut _ _ nO1 (hs1.extBut _ _ nOz hO);refine wpAny_bind (wpAny_seqItems hO2 rfl (wpAny_bind (Wh hO2 fun h3 hO3 hs3=>?_)));replace hO3:Yq h3 TO x b c:=hO3;refine wpAny_bind (wpAny_letGo (wpAny_pure (wpAny_bind (wpAny_bind (wpAny_onRaise ?_)))));show wpAny _ _ (Builtin.SmallTypes.nextOf (.ref i2) >>= _) _ _ _;refine wpAny_bind (W2.item _ _ _ k y _ (m2 (by simp) hs3.extBut k (m2 (by simp) hs2.extBut k (m2 (by simp) hs1.extBut k t2))) hy fun h4 t24 hs4=>wpAny_pure ?_);have hO4:Yq h4 TO x b c:=hs4.extBut _ _ nO2 hO3;refine wpAny_bind (wpAny_seqItems hO4 rfl (wpAny_bind (Wh hO4 fun h5 hO5 hs5=>?_)));replace hO5:Yq h5 TO x y c:=hO5;refine wpAny_bind (wpAny_letGo (wpAny_pure (wpAny_bind (wpAny_bind (wpAny_onRaise ?_)))));show wpAny _ _ (Builtin.SmallTypes.nextOf (.ref i3) >>= _) _ _ _;refine wpAny_bind (W3.item _ _ _ k y3 _ (m3 (by simp) hs5.extBut k (m3 (by simp) hs4.extBut k (m3 (by simp) hs3.extBut k (m3 (by simp) hs2.extBut k (m3 (by simp) hs1.extBut k t3))))) hy3 fun h6 t36 hs6=>wpAny_pure ?_);have hO6:Yq h6 TO x y c:=hs6.extBut _ _ nO3 hO5;refine wpAny_bind (wpAny_seqItems hO6 rfl (wpAny_bind (Wh hO6 fun h7 hO7 hs7=>?_)));replace hO7:Yq h7 TO x y y3:=hO7;refine wpAny_bind (wpAny_letGo (wpAny_pure (wpAny_pure (wpAny_bind (wpAny_seqItems hO7 rfl (wpAny_bind (wpAny_newTuple ?_)))))));have sz:h7.objs.size=s.heap.objs.size:=by rw [hs7.1,hs6.1,hs5.1,hs4.1,hs3.1,hs2.1,hs1.1]
  have hz7:IsZip h7 z TI TO .ellipsis:=hs7.extBut _ _ nOz.symm (hs6.extBut _ _ n3.symm (hs5.extBut _ _ nOz.symm (hs4.extBut _ _ n2.symm (hs3.extBut _ _ nOz.symm (hs2.extBut _ _ n1.symm hz1)))))
  have all7:∀c o,c∉[z,TI,TO,i1,i2,i3]→s.heap.get? c=some o→h7.get? c=some o:=fun c o hc e=>by
   simp only [List.mem_cons,List.not_mem_nil,or_false,not_or] at hc;exact hs7.extBut _ _ hc.2.2.1 (hs6.extBut _ _ hc.2.2.2.2.2 (hs5.extBut _ _ hc.2.2.1 (hs4.extBut _ _ hc.2.2.2.2.1 (hs3.extBut _ _ hc.2.2.1 (hs2.extBut _ _ hc.2.2.2.1 (hs1.extBut _ _ hc.1 e))))))
  have hI7:Yq h7 TI (.ref i1) (.ref i2) (.ref i3):=hs7.extBut _ _ nIO (hs6.extBut _ _ nI3 (hs5.extBut _ _ nIO (hs4.extBut _ _ nI2 (hs3.extBut _ _ nIO (hs2.extBut _ _ nI1 (hs1.extBut _ _ nIz hI))))));have zlt:z < h7.objs.size:=Heap.lt_size hz7;show wpAny _ _ (Builtin.SmallTypes.ownedTupleHandOut (.ref z) (.ref h7.objs.size) >>= _) _ _ _;refine wpAny_bind ?_;unfold Builtin.SmallTypes.ownedTupleHandOut;have hz8:IsZip (h7.push { cls:=.type "tuple",data:=.seq #[x,y,y3] }) z TI TO .ellipsis:=Heap.get?_push_of_some _ hz7;refine wpAny_bind (wpAny_setField_rec hz8 (by simp) fun h9 hz9 hs9=>?_);replace hz9:IsZip h9 z TI TO (rawInt h7.objs.size):=hz9;refine wpAny_setField_rec hz9 (by simp) fun h10 hz10 hs10=>?_;replace hz10:IsZip h10 z TI TO (rawInt h7.objs.size):=hz10
  have up:∀c o,c≠z→h7.get? c=some o→h10.get? c=some o:=fun c o c1 e=>hs10.extBut _ _ c1 (hs9.extBut _ _ c1 (Heap.get?_push_of_some _ e))
  have hT:Yq h10 h7.objs.size x y y3:=hs10.extBut _ _ (Nat.ne_of_gt zlt) (hs9.extBut _ _ (Nat.ne_of_gt zlt) (Heap.get?_push_size _ rfl));have t1':S1 (k+1) h10:=W1.keep _ _ _ (m1 (by simp) hs7.extBut _ (m1 (by simp) hs6.extBut _ (m1 (by simp) hs5.extBut _ (m1 (by simp) hs4.extBut _ (m1 (by simp) hs3.extBut _ t12))))) fun c hc o e=>up c o (by rcases hc with rfl | rfl <;> first | assumption | (apply Ne.symm;assumption)) e
  have t2':S2 (k+1) h10:=W2.keep _ _ _ (m2 (by simp) hs7.extBut _ (m2 (by simp) hs6.extBut _ (m2 (by simp) hs5.extBut _ t24))) fun c hc o e=>up c o (by rcases hc with rfl | rfl <;> first | assumption | (apply Ne.symm;assumption)) e
  have t3':S3 (k+1) h10:=W3.keep _ _ _ (m3 (by simp) hs7.extBut _ t36) fun c hc o e=>up c o (by rcases hc with rfl | rfl <;> first | assumption | (apply Ne.symm;assumption)) e
  rw [sz] at hz10 hT;refine wpAny_pure ⟨_,rfl,?_⟩;show wpAny _ _ (pure (some (Value.ref h7.objs.size))) _ _ _;rw [sz];exact wpAny_pure (q h10 hz10 (up _ _ nIz hI7) ⟨_,_,_,up _ _ nOz hO7⟩ t1' t2' t3' hT fun c o hc e=>up c o (fun x=>hc (by simp [x])) (all7 c o hc e))
 ·intro hh hend q
  have stop:∀(h9:Heap) (e:Addr),(∀c o,c∉[z,TI,TO,i1,i2,i3]→s.heap.get? c=some o→h9.get? c=some o)→(∃o,h9.get? e=some o∧o.cls = .type "StopIteration") →
    wpAny (model prog w) A (isInstance (.ref e) (.type "StopIteration") >>= fun b=>if b=true then pure none else throw (.ref e)) Q E { s with heap:=h9 }:=fun h9 e kp ⟨o,ho,oc⟩ =>
   wpAny_bind (wpAny_isInstance (T:="StopIteration") (b:=true) ⟨o,ho,oc⟩ isSubtype_stop (wpAny_pure (q _ kp)))
  unfold pyNext;refine wpAny_bind (wpAny_attempt (wpAny_callSpecial?_slot (name:=Str.ofString "__next__") ty F.slot_zip_next (wpAny_call_entry F.slot_zip_next ty F.entry_zip_next ?_ (F.args_zip_next_1 _))));show wpAny _ _ (field (.ref z) 2 >>= _) _ _ _;refine wpAny_bind (wpAny_field hz rfl (x:=.bool false) rfl ?_);show wpAny _ _ (field (.ref z) 3 >>= _) _ _ _;refine wpAny_bind (wpAny_field hz rfl (x:=.ref TI) rfl (wpAny_bind (wpAny_seqItems hI rfl ?_)));show wpAny _ _ (Builtin.SmallTypes.ownedTupleIsFree (.ref z) >>= _) _ _ _;refine wpAny_bind ?_;unfold Builtin.SmallTypes.ownedTupleIsFree;refine wpAny_bind (wpAny_field hz rfl (x:=.none) rfl (wpAny_pure ?_));simp only [if_true];refine wpAny_bind (wpAny_rule (wpAny_bind (wpAny_field hz rfl (x:=.ref TO) rfl (wpAny_bind (wpAny_setField_rec hz (by simp) fun h1 hz1 hs1=>?_)))));replace hz1:IsZip h1 z TI TO .ellipsis:=hz1;refine wpAny_bind ?_;simp only [List.zipIdx_cons,List.zipIdx_nil,List.forIn_cons,List.forIn_nil];refine wpAny_bind (wpAny_bind (wpAny_onRaise ?_));show wpAny _ _ (Builtin.SmallTypes.nextOf (.ref i1) >>= _) _ _ _;cases hx:xs[k]? with
  | none =>
   refine wpAny_bind (W1.fin _ _ _ k _ hh (m1 (by simp) hs1.extBut k t1) hx fun h2 e hs2 ⟨oe,hoe,hce⟩=>?_);have hz2:IsZip h2 z TI TO .ellipsis:=hs2 _ _ n1.symm hz1;have ez:e≠z:=fun x=>by subst x;rw [hz2] at hoe;cases hoe;simp at hce
   refine wpAny_setField_rec hz2 (by simp) fun h3 _ hs3=>stop h3 e (fun c o hc u=>?_) ⟨oe,hs3.extBut _ _ ez hoe,hce⟩
   simp only [List.mem_cons,List.not_mem_nil,or_false,not_or] at hc;exact hs3.extBut _ _ hc.1 (hs2 _ _ hc.2.2.2.1 (hs1.extBut _ _ hc.1 u))
  | some x =>
   refine wpAny_bind (W1.item _ _ _ k x _ (m1 (by simp) hs1.extBut k t1) hx fun h2 t12 hs2=>wpAny_pure ?_);have hO2:Yq h2 TO a b c:=hs2.extBut _ _ nO1 (hs1.extBut _ _ nOz hO);refine wpAny_bind (wpAny_seqItems hO2 rfl (wpAny_bind (Wh hO2 fun h3 hO3 hs3=>?_)));replace hO3:Yq h3 TO x b c:=hO3;refine wpAny_bind (wpAny_letGo (wpAny_pure (wpAny_bind (wpAny_bind (wpAny_onRaise ?_)))));show wpAny _ _ (Builtin.SmallTypes.nextOf (.ref i2) >>= _) _ _ _;cases hy:ys[k]? with
   | none =>
    refine wpAny_bind (W2.fin _ _ _ k _ hh (m2 (by simp) hs3.extBut k (m2 (by simp) hs2.extBut k (m2 (by simp) hs1.extBut k t2))) hy fun h4 e hs4 ⟨oe,hoe,hce⟩=>?_);have hz4:IsZip h4 z TI TO .ellipsis:=hs4 _ _ n2.symm (hs3.extBut _ _ nOz.symm (hs2.extBut _ _ n1.symm hz1));have ez:e≠z:=fun x=>by subst x;rw [hz4] at hoe;cases hoe;simp at hce
    refine wpAny_setField_rec hz4 (by simp) fun h5 _ hs5=>stop h5 e (fun c o hc u=>?_) ⟨oe,hs5.extBut _ _ ez hoe,hce⟩
    simp only [List.mem_cons,List.not_mem_nil,or_false,not_or] at hc;exact hs5.extBut _ _ hc.1 (hs4 _ _ hc.2.2.2.2.1 (hs3.extBut _ _ hc.2.2.1 (hs2.extBut _ _ hc.2.2.2.1 (hs1.extBut _ _ hc.1 u))))
   | some y =>
    have hy3:zs[k]? = none:=by rcases hend with u | u | u;rw [hx] at u;cases u;rw [hy] at u;cases u;exact u
    refine wpAny_bind (W2.item _ _ _ k y _ (m2 (by simp) hs3.extBut k (m2 (by simp) hs2.extBut k (m2 (by simp) hs1.extBut k t2))) hy fun h4 t24 hs4=>wpAny_pure ?_);have hO4:Yq h4 TO x b c:=hs4.extBut _ _ nO2 hO3;refine wpAny_bind (wpAny_seqItems hO4 rfl (wpAny_bind (Wh hO4 fun h5 hO5 hs5=>?_)));refine wpAny_bind (wpAny_letGo (wpAny_pure (wpAny_bind (wpAny_bind (wpAny_onRaise ?_)))));show wpAny _ _ (Builtin.SmallTypes.nextOf (.ref i3) >>= _) _ _ _;refine wpAny_bind (W3.fin _ _ _ k _ hh (m3 (by simp) hs5.extBut k (m3 (by simp) hs4.extBut k (m3 (by simp) hs3.extBut k (m3 (by simp) hs2.extBut k (m3 (by simp) hs1.extBut k t3))))) hy3 fun h6 e hs6 ⟨oe,hoe,hce⟩=>?_);have hz6:IsZip h6 z TI TO .ellipsis:=hs6 _ _ n3.symm (hs5.extBut _ _ nOz.symm (hs4.extBut _ _ n2.symm (hs3.extBut _ _ nOz.symm (hs2.extBut _ _ n1.symm hz1))));have ez:e≠z:=fun x=>by subst x;rw [hz6] at hoe;cases hoe;simp at hce
    refine wpAny_setField_rec hz6 (by simp) fun h7 _ hs7=>stop h7 e (fun c o hc u=>?_) ⟨oe,hs7.extBut _ _ ez hoe,hce⟩
    simp only [List.mem_cons,List.not_mem_nil,or_false,not_or] at hc;exact hs7.extBut _ _ hc.1 (hs6 _ _ hc.2.2.2.2.2 (hs5.extBut _ _ hc.2.2.1 (hs4.extBut _ _ hc.2.2.2.2.1 (hs3.extBut _ _ hc.2.2.1 (hs2.extBut _ _ hc.2.2.2.1 (hs1.extBut _ _ hc.1 u))))))
theorem jG (a b c:Value):checkTypeCall "zip" ⟨[a,b,c],[]⟩=pure ():=by kernel_rfl
theorem Fl (a b c:Value):checkBuiltinCall "zip.__new__" ⟨[.type "zip",a,b,c],[]⟩=pure ():=by kernel_rfl
theorem uz (a b c d:Value):argsOk "object.__init__" ⟨[a,b,c,d],[]⟩:=by
 unfold argsOk;rw [signature?_of (id:="object.__init__") (n:=['_','_','t','i','n','i','_','_']) (o:=['t','c','e','j','b','o']) (by kernel_rfl) PySem.F.owner_object];kernel_rfl
end
section
variable{X:Cx}
end
section
variable{K:Fg}{te:TE}{σ : St}{Q:VK}{H:Hp}
end
end L2
namespace Rk
end Rk
namespace L2
open PySem PySem.Spec PyProof.Rows
section
variable{prog:Program}{w:World}{A:Around}{E:Value→Shared→Prop}{s:Shared}
end
section
variable{prog:Program}{w:World}{A:Around}{E:Value→Shared→Prop}{s:Shared}
end
section
variable{prog:Program}{w:World}{A:Around}{E:Value→Shared→Prop}{s:Shared}
end
namespace F7
end F7
section
variable{prog:Program}{w:World}{A:Around}{E:Value→Shared→Prop}{s:Shared}{S I:Addr}{es:Array (Int×Value)}{ep:Nat}{t:SetTable}
theorem ints_of:∀{vs:List Value} {ns:List Int},vs.length=ns.length→(∀(j:Nat) (v:Value),vs[j]? = some v→∃n u,ns[j]? = some n∧v=Value.int n u)→IntsAre vs ns
 | [],[],_,_=>.nil
 | [],_ :: _,h,_=>by cases h
 | _ :: _,[],h,_=>by cases h
 | v :: vs,n :: ns,h,k=>by
  obtain ⟨n',u,e1,rfl⟩:=k 0 v rfl;cases e1;exact .cons n u (ints_of (by simpa using h) fun j v hj=>k (j+1) v hj)
end
end L2
namespace L2
open PySem PySem.Spec PyProof.Rows
open PySem.W (Dat)
theorem uI{vs:List Value}{ns:List Int}(h:IntsAre vs ns):Vals (ns.map V.int) vs:=by
 induction h with
 | nil=>exact .nil
 | cons n t r ih=>exact .cons ⟨t,rfl⟩ ih
section
variable{X:Cx}
end
end L2
namespace L2
open PySem PySem.Spec PyProof.Rows
open PySem.W (Dat)
def ZdI(K:Fg):List V→Hp→VK→Prop:=fun xs H Q=>∃(a:Addr) (ns:List Int),xs=[.ref a]∧SqL K H a (ns.map V.int)∧ns≠[]∧∀m,m∈ns→(∀x∈ns,m≤x)→Q (.int m) H
section
variable{X:Cx}
theorem qI (hc:X.calm=true):Ul X (.builtin "min") (ZdI X.K):=by
 intro pins s σ H xs us Q I r h;obtain ⟨a,ns,rfl,q1,ne,q⟩:=h;obtain ⟨u,rfl,ru⟩:=vals1 r;cases ru;obtain ⟨its,rv,p,_⟩:=I.list q1;obtain ⟨l,e1,e2⟩:=JW rv
 have hl:s.heap.IsList a (intItems l.toArray):=by
  have:=p.isList
  rw [e1] at this;simpa [intItems] using this
 have ln:l.length=ns.length:=by rw [← e2,List.length_map]
 have pos:=List.length_pos_iff.mpr ne;refine min_intList (I.ok.hd hc) hl (by simp;omega) fun v h' tk hv hk=>?_
 obtain ⟨t,rfl⟩:=intItems_at hv;obtain ⟨h1,h2⟩:=argBest_lt (numAt l.toArray) (l.toArray.size - 1);have el:l.toArray.toList.map (·.1)=ns:=by simpa using e2
 refine ⟨.int _,H,I.kept (t':=tk) hk,⟨_,rfl⟩,q _ ?_ fun x hx=>?_⟩
 ·rw [numAt_eq,el];exact getD_mem (by have h3:l.toArray.size=l.length:=List.size_toArray ..;omega)
 ·obtain ⟨j,hj,rfl⟩:=mem_getD hx;rw [← el,← numAt_eq];exact h2 j (by have h3:l.toArray.size=l.length:=List.size_toArray ..;omega)
def Uh(ta:TA):TE:=fun σ H Q=>ta σ H fun vs H1=>∃a n:Nat,vs=[.int (a:Int),.int ((a+n:Nat):Int)]∧a≤1000∧n≤1000∧∀l,H1 l=none→Q (.ref l) (upd H1 l (.lst ((List.range n).map fun k:Nat=>.int ((a+k:Nat):Int))))
theorem j8 {x y:Expr} {ta:TA} {p p2 pos pos2:Pos} (hc:X.calm=true) (hgl:Gl X "list") (hml:X.mg "list" = none) (hgs:Gl X "range") (hms:X.mg "range" = none) (ha:PA X [x,y] ta)
  (hs:starEach [x,y] X.env=[(false,eval x X.env),(false,eval y X.env)]:=by rfl) (hs3:starEach [y] X.env=[(false,eval y X.env)]:=by rfl) (hs2:starEach [Expr.Call (.Name "range" p2) [x,y] [] pos2] X.env=[(false,eval (.Call (.Name "range" p2) [x,y] [] pos2) X.env)]:=by rfl) :
  PE X (.Call (.Name "list" p) [.Call (.Name "range" p2) [x,y] [] pos2] [] pos) (Uh ta):=by
 intro pins s σ H Q I h;refine wpAny_Call_Name_kw (Jl I hgl hml qJ ?_);refine PyProof.Rows.callWith_type1 ?_ hs2 rfl;rw [hs2];refine (show wpAny _ _ (spliced ((false,eval (.Call (.Name "range" p2) [x,y] [] pos2) X.env) :: backTo pos [])) _ _ s from Calls.spliced_cons ?_);refine wpAny_Call_Name_kw (Jl I hgs hms boot_range ?_);refine PyProof.Rows.callWith_type1 (thn (ha pos2 pins s σ H _ I h) fun us s1 ⟨vs,H1,I1,r1,q1⟩=>?_) (by rw [hs,hs3]) (by rw [hs3];rfl);obtain ⟨a,n,rfl,hn0,hn,q⟩:=q1;cases r1 with
 | cons r1 rr =>
  cases rr with
  | cons r2 rr =>
   cases rr;obtain ⟨t,rfl⟩:=r1;obtain ⟨t2,rfl⟩:=r2;refine call_range_2 (Calls.spliced_nil ?_);refine call_list_range (n:=n) (I1.ok.hd hc) (IsRange.new ..) (small_one (by omega) (by omega) (by omega) (by omega)) (by rw [rangeSize_nat];omega) (by omega) fun h' tk acc c kp ha hit=>?_
   have hsz:(s1.heap.push { cls:=.type "range",data:=.fields #[.int (a:Int) t,.int ((a+n:Nat):Int) t2,.int 1 s1.toks] }).objs.size=s1.heap.objs.size+1:=size_push' _ _
   have hi:IntsAre acc.toList ((List.range n).map fun k:Nat=>((a+k:Nat):Int)):=ints_of (by rw [Array.length_toList,List.length_map,List.length_range];exact hit.1) fun j v hj=>by
    rw [Array.getElem?_toList] at hj;obtain ⟨u,e2⟩:=hit.2 j v hj
    have lj:j < n:=by
     have:=(Array.getElem?_eq_some_iff.mp hj).1
     rw [hit.1] at this;exact this
    exact ⟨_,u,by rw [List.getElem?_map,List.getElem?_range lj];rfl,by rw [e2];simp⟩
   have lS:s1.heap.objs.size≤(s1.heap.push { cls:=.type "range",data:=.fields #[.int (a:Int) t,.int ((a+n:Nat):Int) t2,.int 1 s1.toks] }).objs.size:=by rw [hsz];exact Nat.le_succ _
   refine ⟨.ref _,_,I1.laid (t':=tk) (o:=.lst ((List.range n).map fun k:Nat=>.int ((a+k:Nat):Int))) (fun b o e=>kp b o (Heap.get?_push_of_some _ e)) lS ⟨?_,acc.toList,c,?_,by rw [Array.toArray_toList];exact ha⟩,rfl,q _ (I1.hok.fresh lS)⟩
   ·rw [List.length_map,List.length_range,sizeLine_eq];omega
   ·have:=uI hi
    rw [List.map_map] at this;exact this
theorem FQ{ta:TA}{σ : St}{H:Hp}{Q:VK}(h:ta σ H fun vs H1=>∃a n:Nat,vs=[.int (a:Int),.int ((a+n:Nat):Int)]∧a≤1000∧n≤1000∧∀l,H1 l=none→Q (.ref l) (upd H1 l (.lst ((List.range n).map fun k:Nat=>.int ((a+k:Nat):Int))))):Uh ta σ H Q:=h
end
end L2
namespace L2
open PySem PySem.Spec PyProof.Rows
section
variable{prog:Program}{w:World}{A:Around}{E:Value→Shared→Prop}{s:Shared}{z TI TO i1 i2 i3 l1 l2 l3:Addr}{xs ys zs:Array Value}{S1 S2 S3:Nat→Heap→Prop}{k:Nat}
def tobL (l:Addr):Obj:={ cls:=.type "list_iterator",data:=.fields #[.ref l,.int 0 0] }
def zIL(h:Heap)(l1 l2 l3:Addr):Heap:=((h.push (tobL l1)).push (tobL l2)).push (tobL l3)
def zJL (h:Heap) (l1 l2 l3:Addr):Heap:=(zIL h l1 l2 l3).push { cls:=.type "tuple",data:=.seq #[.ref h.objs.size,.ref (h.push (tobL l1)).objs.size,.ref ((h.push (tobL l1)).push (tobL l2)).objs.size] }
def zKL (h:Heap) (l1 l2 l3:Addr):Heap:=(zJL h l1 l2 l3).push { cls:=.type "tuple",data:=.seq #[.none,.none,.none] }
def zh3L (h:Heap) (l1 l2 l3:Addr):Heap:=(zKL h l1 l2 l3).push { cls:=.type "zip",data:=.fields #[.none,.bool false,.bool false,.ref (zIL h l1 l2 l3).objs.size,.ref (zJL h l1 l2 l3).objs.size] }
theorem Zbb (l1 l2 l3:Addr) (xs ys zs:Array Value):Meets (Builtin.«zip.__new__» ⟨[.type "zip",.ref l1,.ref l2,.ref l3],[]⟩) (fun _ R s=>s.heap.IsList l1 xs∧s.heap.IsList l2 ys∧s.heap.IsList l3 zs ∧
  R (.ok (.ret (.ref (zKL s.heap l1 l2 l3).objs.size))) { s with heap:=zh3L s.heap l1 l2 l3 }) :=
 .of_wp fun prog w A R s h=>by
  obtain ⟨hp,g,d,tk,os⟩:=s;obtain ⟨a1,a2,a3,h⟩:=h;have hsub:=sub_zip;have c1:Heap.IsList (Shared.heap ⟨hp,g,d,tk,os⟩) l1 xs:=a1;have c2:Heap.IsList (Shared.heap ⟨hp.push { cls:=.type "list_iterator",data:=.fields #[.ref l1,.int 0 0] },g,d,tk,os⟩) l2 ys:=Kn.Zfa .L a2 fun o e=>Heap.get?_push_of_some _ e
  have c3:Heap.IsList (Shared.heap ⟨(hp.push { cls:=.type "list_iterator",data:=.fields #[.ref l1,.int 0 0] }).push { cls:=.type "list_iterator",data:=.fields #[.ref l2,.int 0 0] },g,d,tk,os⟩) l3 zs:=Kn.Zfa .L a3 fun o e=>Heap.get?_push_of_some _ (Heap.get?_push_of_some _ e)
  wp_walk using wpAny_pyIter_list c1,wpAny_pyIter_list c2,wpAny_pyIter_list c3;exact ⟨_,rfl,h⟩
theorem Zdf{l1 l2 l3:Addr}{xs ys zs:Array Value}{Q:Value→Shared→Prop}(a1:s.heap.IsList l1 xs)(a2:s.heap.IsList l2 ys)(a3:s.heap.IsList l3 zs)
  (q:∀h' (z TI TO i1 i2 i3:Addr),ZAp3 z TI TO i1 i2 i3 l1 l2 l3→s.heap.objs.size≤i1→IsZip h' z TI TO .none→Yq h' TI (.ref i1) (.ref i2) (.ref i3)→(∃a b c,Yq h' TO a b c)→h'.IsListIter i1 l1 0→h'.IsListIter i2 l2 0→h'.IsListIter i3 l3 0→(∀c o,s.heap.get? c=some o→h'.get? c=some o)→Q (.ref z) { s with heap:=h' }) :
  wpAny (model prog w) A (call (.type "zip") [.ref l1,.ref l2,.ref l3]) Q E s:=by
 refine callType_new F.called_zip (by decide) (jG _ _ _) (Fl _ _ _) (fun obj=>uz obj _ _ _) F.entry_zip_new (Zbb l1 l2 l3 xs ys zs) ⟨a1,a2,a3,?_⟩;have lt1:=Kn.lt .L a1;have lt2:=Kn.lt .L a2;have lt3:=Kn.lt .L a3;have g6:(zh3L s.heap l1 l2 l3).get? (zKL s.heap l1 l2 l3).objs.size=some _:=Heap.get?_push_size (zKL s.heap l1 l2 l3) rfl;have g5:(zh3L s.heap l1 l2 l3).get? (zJL s.heap l1 l2 l3).objs.size=some _:=Heap.get?_push_of_some _ (Heap.get?_push_size (zJL s.heap l1 l2 l3) rfl);have g4:(zh3L s.heap l1 l2 l3).get? (zIL s.heap l1 l2 l3).objs.size=some _:=Heap.get?_push_of_some _ (Heap.get?_push_of_some _ (Heap.get?_push_size (zIL s.heap l1 l2 l3) rfl));have k3:(zh3L s.heap l1 l2 l3).IsListIter ((s.heap.push (tobL l1)).push (tobL l2)).objs.size l3 0:=Kn.itAt .L (Kn.it0 .L _ l3) fun o e=>Heap.get?_push_of_some _ (Heap.get?_push_of_some _ (Heap.get?_push_of_some _ e))
 have k2:(zh3L s.heap l1 l2 l3).IsListIter (s.heap.push (tobL l1)).objs.size l2 0:=Kn.itAt .L (Kn.it0 .L _ l2) fun o e=>Heap.get?_push_of_some _ (Heap.get?_push_of_some _ (Heap.get?_push_of_some _ (Heap.get?_push_of_some _ e)))
 have k1:(zh3L s.heap l1 l2 l3).IsListIter s.heap.objs.size l1 0:=Kn.itAt .L (Kn.it0 .L _ l1) fun o e=>Heap.get?_push_of_some _ (Heap.get?_push_of_some _ (Heap.get?_push_of_some _ (Heap.get?_push_of_some _ (Heap.get?_push_of_some _ e))))
 show _∧_;refine ⟨⟨_,g6,rfl⟩,q _ _ _ _ _ _ _ ⟨?_,?_,?_,?_,?_,lt1,lt2,lt3⟩ (Nat.le_refl _) g6 g4 ⟨_,_,_,g5⟩ k1 k2 k3 fun c o x=>Heap.get?_push_of_some _ (Heap.get?_push_of_some _ (Heap.get?_push_of_some _ (Heap.get?_push_of_some _ (Heap.get?_push_of_some _ (Heap.get?_push_of_some _ x)))))⟩ <;>
 ·(try unfold zKL);(try unfold zJL);(try unfold zIL);simp only [Heap.size_push];exact Nat.lt_succ_self _
end
def Zew(K:Fg)(a b c:Addr):It :=
 ⟨fun i H=>∃xs ys zs,SqL K H a xs∧SqL K H b ys∧SqL K H c zs∧i < xs.length∧i < ys.length∧i < zs.length,fun i H v H'=>∃T x y u,H T=none∧v = .ref T∧H'=upd H T (.tup [x,y,u])∧(∀xs,SqL K H a xs→xs[i]? = some x)∧(∀ys,SqL K H b ys→ys[i]? = some y)∧(∀zs,SqL K H c zs→zs[i]? = some u),
  fun i H=>∃xs ys zs,SqL K H a xs∧SqL K H b ys∧SqL K H c zs∧(xs.length≤i∨ys.length≤i∨zs.length≤i)⟩
theorem Zaz{P:Program}{w:World}{K:Fg}{elts:List Expr}{x1}{pos:Pos}{a b c z TI TO i1 i2 i3:Addr}(D:ZAp3 z TI TO i1 i2 i3 a b c) :
  Turn P w K (.Tuple elts x1 pos) (Zew K a b c) [z,TI,TO,i1,i2,i3] z (fun i h=>IsZip h z TI TO .none∧Yq h TI (.ref i1) (.ref i2) (.ref i3)∧(∃x y u,Yq h TO x y u)∧Kn.it .L h i1 a i∧Kn.it .L h i2 b i∧Kn.it .L h i3 c i) where
 mem:=by simp
 obj:=fun i h ⟨hz,hI,⟨x,y,u,hO⟩,t1,t2,t3⟩ c hc=>by
  simp only [List.mem_cons,List.not_mem_nil,or_false] at hc;rcases hc with rfl | rfl | rfl | rfl | rfl | rfl
  ·exact ⟨_,hz,fun v q=>by cases (show Data.fields _=Data.cell v from q)⟩
  ·exact ⟨_,hI,fun v q=>by cases (show Data.seq _ _=Data.cell v from q)⟩
  ·exact ⟨_,hO,fun v q=>by cases (show Data.seq _ _=Data.cell v from q)⟩
  ·exact Kn.je .L t1
  ·exact Kn.je .L t2
  ·exact Kn.je .L t3
 keep:=fun i h h' ⟨hz,hI,⟨x,y,u,hO⟩,t1,t2,t3⟩ kp=>⟨kp z (by simp) _ hz,kp TI (by simp) _ hI,⟨x,y,u,kp TO (by simp) _ hO⟩,Kn.itAt .L t1 fun o e=>kp i1 (by simp) o e,Kn.itAt .L t2 fun o e=>kp i2 (by simp) o e,Kn.itAt .L t3 fun o e=>kp i3 (by simp) o e⟩
 item:=by
  intro X hP hw hK hc i pins s σ H E I hf ⟨hz,hI,hO,t1,t2,t3⟩ hg;subst hP hw hK;obtain ⟨xs,ys,zs,q1,q2,q3,l1,l2,l3⟩:=hg;obtain ⟨v1,r1,p1⟩:=Kn.inv .L I q1;obtain ⟨v2,r2,p2⟩:=Kn.inv .L I q2;obtain ⟨v3,r3,p3⟩:=Kn.inv .L I q3;obtain ⟨u1,e1,ru1⟩:=r1.get (List.getElem?_eq_getElem l1);obtain ⟨u2,e2,ru2⟩:=r2.get (List.getElem?_eq_getElem l2);obtain ⟨u3,e3,ru3⟩:=r3.get (List.getElem?_eq_getElem l3);obtain ⟨⟨n1,n2,n3,nO1,nO2,nO3,nOz,nIz,nIO,nI1,nI2,nI3,n12,n13,n23⟩,_⟩:=uG D.a D.a' D.b D.c D.d D.e D.f D.g;refine (Zba D (Kn.drw .L i1 a (Nat.ne_of_lt D.e) v1.toArray) (Kn.drw .L i2 b (Nat.ne_of_lt (Nat.lt_trans D.f D.a)) v2.toArray) (Kn.drw .L i3 c (Nat.ne_of_lt (Nat.lt_trans D.g (Nat.lt_trans D.a D.a'))) v3.toArray) ⟨hz,hI,hO,⟨t1,p1⟩,⟨t2,p2⟩,⟨t3,p3⟩⟩).1 u1 u2 u3 (by simpa using e1) (by simpa using e2) (by simpa using e3) fun h' hz' hI' hO' s1' s2' s3' hT all=>⟨_,rfl,?_⟩
  refine wpAny_letOwnedTupleGo_zip hz' fun h2 hz2 sb=>?_
  have nT:∀c∈[z,TI,TO,i1,i2,i3],c≠s.heap.objs.size:=fun c hc'=>by
   simp only [List.mem_cons,List.not_mem_nil,or_false] at hc';rcases hc' with rfl | rfl | rfl | rfl | rfl | rfl
   ·exact Nat.ne_of_lt (Heap.lt_size hz)
   ·exact Nat.ne_of_lt (Heap.lt_size hI)
   ·obtain ⟨_,_,_,q⟩:=hO;exact Nat.ne_of_lt (Heap.lt_size q)
   ·obtain ⟨_,q,_⟩:=Kn.je .L t1;exact Nat.ne_of_lt (Heap.lt_size q)
   ·obtain ⟨_,q,_⟩:=Kn.je .L t2;exact Nat.ne_of_lt (Heap.lt_size q)
   ·obtain ⟨_,q,_⟩:=Kn.je .L t3;exact Nat.ne_of_lt (Heap.lt_size q)
  have hfr:H s.heap.objs.size=none:=I.hok.fresh (Nat.le_refl _)
  have I1:Inv X pins σ (upd H s.heap.objs.size (.tup [xs[i],ys[i],zs[i]])) { s with heap:=s.heap.push { cls:=.type "tuple",data:=.seq #[u1,u2,u3] } } :=
   I.laid (t':=s.toks) (fun b u e=>Heap.get?_push_of_some _ e) (Nat.le_refl _) ⟨by show 3≤sizeLine;decide,[u1,u2,u3],.cons ru1 (.cons ru2 (.cons ru3 .nil)),⟨_,Heap.get?_push_size _ rfl,rfl,_,rfl⟩⟩
  have zT:s.heap.objs.size≠z:=(nT z (by simp)).symm
  have I2:Inv X pins σ (upd H s.heap.objs.size (.tup [xs[i],ys[i],zs[i]])) { s with heap:=h2 }:=Inv.Ga (s:={ s with heap:=s.heap.push { cls:=.type "tuple",data:=.seq #[u1,u2,u3] } }) (t':=s.toks) (fp:=[z,TI,TO,i1,i2,i3]) I1 (fun c o hc' e=>by
   have hcz:c≠z:=fun x=>hc' (by simp [x])
   rcases Heap.get?_push_cases e with ⟨ec,eo⟩ | e
   ·rw [ec,eo];exact sb.extBut _ _ zT hT
   ·exact sb.extBut _ _ hcz (all c o hc' e)) fun c hc'=>⟨by rw [ZD (nT c hc')];exact (hf c hc').1,(hf c hc').2⟩
  refine ⟨.ref s.heap.objs.size,_,I2,rfl,⟨s.heap.objs.size,xs[i],ys[i],zs[i],hfr,rfl,rfl,fun ws hz=>?_,fun ws hz=>?_,fun ws hz=>?_⟩,⟨hz2,sb.extBut _ _ nIz hI',?_,Kn.itAt .L s1'.1 fun o e=>sb.extBut _ _ n1 e,Kn.itAt .L s2'.1 fun o e=>sb.extBut _ _ n2 e,Kn.itAt .L s3'.1 fun o e=>sb.extBut _ _ n3 e⟩,fun c hc'=>by rw [ZD (nT c hc')];exact (hf c hc').1⟩
  ·rw [Kn.inj .L I hz q1,List.getElem?_eq_getElem l1]
  ·rw [Kn.inj .L I hz q2,List.getElem?_eq_getElem l2]
  ·rw [Kn.inj .L I hz q3,List.getElem?_eq_getElem l3]
  ·obtain ⟨x,y,u,q⟩:=hO';exact ⟨x,y,u,sb.extBut _ _ nOz q⟩
 done:=by
  intro X hP hw hK hc i pins s σ H E I hf ⟨hz,hI,hO,t1,t2,t3⟩ hg;subst hP hw hK;obtain ⟨xs,ys,zs,q1,q2,q3,le⟩:=hg;obtain ⟨v1,r1,p1⟩:=Kn.inv .L I q1;obtain ⟨v2,r2,p2⟩:=Kn.inv .L I q2;obtain ⟨v3,r3,p3⟩:=Kn.inv .L I q3;have e1:=r1.length;have e2:=r2.length;have e3:=r3.length
  refine (Zba D (Kn.drw .L i1 a (Nat.ne_of_lt D.e) v1.toArray) (Kn.drw .L i2 b (Nat.ne_of_lt (Nat.lt_trans D.f D.a)) v2.toArray) (Kn.drw .L i3 c (Nat.ne_of_lt (Nat.lt_trans D.g (Nat.lt_trans D.a D.a'))) v3.toArray) ⟨hz,hI,hO,⟨t1,p1⟩,⟨t2,p2⟩,⟨t3,p3⟩⟩).2 (I.ok.hd hc) (by
   rcases le with q | q | q
   ·exact .inl (by simp;omega)
   ·exact .inr (.inl (by simp;omega))
   ·exact .inr (.inr (by simp;omega))) fun h' all=>⟨rfl,I.Ga (t':=s.toks) (fun c o hc' e=>all c o hc' e) hf⟩
 self:=fun _ _ _ _ _ st q=>wpAny_pyIter_zip st.1 q
section
variable{X:Cx}
def Zcx(K:Fg)(ta:TA):TI:=fun σ H R=>ta σ H fun vs H1=>∃a b c xs ys zs,vs=[.ref a,.ref b,.ref c]∧SqL K H1 a xs∧SqL K H1 b ys∧SqL K H1 c zs∧R (Zew K a b c) H1
theorem ZdL {x y u:Expr} {ta:TA} {elts:List Expr} {x1} {p pos tp:Pos} (hg:Gl X "zip") (hm:X.mg "zip" = none) (ha:PA X [x,y,u] ta) (hs:starEach [x,y,u] X.env=[(false,eval x X.env),(false,eval y X.env),(false,eval u X.env)]:=by rfl) (hs2:starEach [y,u] X.env=[(false,eval y X.env),(false,eval u X.env)]:=by rfl) :
  PI X (.Tuple elts x1 tp) (.Call (.Name "zip" p) [x,y,u] [] pos) (Zcx X.K ta):=by
 intro pins s σ H R I h;refine Call_ (Jl I hg hm ZeW (PyProof.Rows.callWith_type1 (thn (ha pos pins s σ H _ I h) fun us s1 ⟨vs,H1,I1,r1,q1⟩=>?_) (by rw [hs,hs2]) (by rw [hs2];rfl)));obtain ⟨a,b,c,xs,ys,zs,e,s1q,s2q,s3q,q⟩:=q1;subst e;cases r1 with
 | cons ra r1=>cases r1 with
  | cons rb r1=>cases r1 with
   | cons rc r1 =>
    cases r1;cases ra;cases rb;cases rc;obtain ⟨v1,w1,p1⟩:=Kn.inv .L I1 s1q;obtain ⟨v2,w2,p2⟩:=Kn.inv .L I1 s2q;obtain ⟨v3,w3,p3⟩:=Kn.inv .L I1 s3q;refine Zdf p1 p2 p3 fun h' z TI TO i1 i2 i3 D le hz hI hO t1 t2 t3 kp=>?_
    refine wpAny_pyIter_zip (s:={ s1 with heap:=h' }) hz ?_;refine ⟨z,[z,TI,TO,i1,i2,i3],_,_,H1,rfl,I1.kept (t':=s1.toks) kp,Zaz D,⟨hz,hI,hO,t1,t2,t3⟩,fun c hc=>?_,q⟩
    have le2:s1.heap.objs.size≤c:=by
     have d1:=D.a;have d1':=D.a';have d2:=D.b;have d3:=D.c;have d4:=D.d;simp only [List.mem_cons,List.not_mem_nil,or_false] at hc;rcases hc with rfl | rfl | rfl | rfl | rfl | rfl
     ·exact Nat.le_of_lt (Nat.lt_of_le_of_lt le (Nat.lt_trans d1 (Nat.lt_trans d1' (Nat.lt_trans d2 (Nat.lt_trans d3 d4)))))
     ·exact Nat.le_of_lt (Nat.lt_of_le_of_lt le (Nat.lt_trans d1 (Nat.lt_trans d1' d2)))
     ·exact Nat.le_of_lt (Nat.lt_of_le_of_lt le (Nat.lt_trans d1 (Nat.lt_trans d1' (Nat.lt_trans d2 d3))))
     ·exact le
     ·exact Nat.le_of_lt (Nat.lt_of_le_of_lt le d1)
     ·exact Nat.le_of_lt (Nat.lt_of_le_of_lt le (Nat.lt_trans d1 d1'))
    exact I1.fpOk le2 (I1.hok.fresh le2)
end
section
variable{K:Fg}{te:TE}{σ : St}{Q:VK}{H:Hp}
theorem ZfO{ta:TA}{R:It→Hp→Prop}(h:ta σ H fun vs H1=>∃a b c xs ys zs,vs=[.ref a,.ref b,.ref c]∧SqL K H1 a xs∧SqL K H1 b ys∧SqL K H1 c zs∧R (Zew K a b c) H1):Zcx K ta σ H R:=h
theorem Za4{a b c:Addr}{xs ys zs:List V}{n m:Nat}{g:TG}(e1:xs.length=m)(e2:ys.length=m)(e3:zs.length=m)(h:∀D,H D=none→∃Pv:Nat→Hp→Prop,Pv 0 (upd H D (.lst []))∧(∀i H2,i≤m→Pv i H2→SqL K H2 a xs∧SqL K H2 b ys∧SqL K H2 c zs) ∧
  (∀i x y u H2 T,xs[i]? = some x→ys[i]? = some y→zs[i]? = some u→Pv i H2→H2 T=none→EltG g n te σ (.ref T) (upd H2 T (.tup [x,y,u])) D m i Pv)∧∀H2,Pv m H2→Q (.ref D) H2):uF (Zew K a b c) n g te σ Q H:=by
 intro D nD;obtain ⟨Pv,h0,hl,hs,hd⟩:=h D nD;refine ⟨fun i k H=>k=m - i∧i≤m∧Pv i H,⟨_,rfl,Nat.zero_le _,h0⟩,?_⟩;rintro i k H ⟨rfl,hi,p⟩;obtain ⟨q1,q2,q3⟩:=hl i H hi p;by_cases hlt:i < m
 ·refine .inr ⟨⟨xs,ys,zs,q1,q2,q3,by omega,by omega,by omega⟩,fun v H' y us hu=>?_⟩;obtain ⟨T,x,y,u,nT,rfl,rfl,z1,z2,z3⟩:=y;exact hs i x y u H T (z1 xs q1) (z2 ys q2) (z3 zs q3) p nT us hu
 ·have e:i=m:=by omega
  subst e;exact .inl ⟨⟨xs,ys,zs,q1,q2,q3,.inl (by omega)⟩,hd H p⟩
end
end L2
namespace L2
open PySem PySem.Spec PyProof.Rows
open PySem.W (Dat)
end L2
namespace L2
open PySem PySem.Spec PyProof.Rows
open PySem.Builtin.Str (occurrences lastOccurrence strSub subAt partsBetween)
section
variable{X:Cx}
end
section
variable{X:Cx}
end
end L2
namespace L2
open PySem PySem.Spec PyProof.Rows PySem.W
end L2
namespace L2
open PySem PySem.Spec PyProof.Rows PySem.W
end L2
namespace L2
open PySem PySem.Spec PyProof.Rows PySem.W
section
variable{X:Cx}{e k:Expr}{te tk:TE}{p2 pos:Pos}
end
end L2
namespace L2
open PySem PySem.Spec PyProof.Rows PySem.W
end L2
namespace L2
open PySem PySem.Spec PyProof.Rows
open AutoSeq1 (wpAny_loadPart')
section
variable{prog:Program}{w:World}{A:Around}{E:Value→Shared→Prop}{s:Shared}
end
section
variable{prog:Program}{w:World}{A:Around}{E:Value→Shared→Prop}{s:Shared}
end
section
variable{X:Cx}
end
section
variable{K:Fg}{σ : St}{H:Hp}{D:Ends}
end
end L2
namespace L2
open PySem PySem.Spec PyProof.Rows PySem.SetTable
open PySem.W (Dat kqdP kqdOk)
section
variable{prog:Program}{w:World}{A:Around}{E:Value→Shared→Prop}{s:Shared}
end
end L2
namespace L2
open PySem PySem.Spec PyProof.Rows
section
variable{prog:Program}{w:World}{A:Around}{E:Value→Shared→Prop}{s:Shared}
theorem Zf8 {I:Addr} {a c left:Int} {Q:Value→Shared→Prop} (hit:IsRangeIter s.heap I a left c) (h:∀u,Q (.int left u) { s with toks:=s.toks+1 }):wpAny (model prog w) A (call (.builtin "range_iterator.__length_hint__") [.ref I]) Q E s:=by
 refine wpAny_call_entry F.slot_range_iterator_length_hint ⟨_,hit,rfl⟩ F.entry_range_iterator_length_hint ?_ (F.args_range_iterator_length_hint_1 _);unfold Builtin.«range_iterator.__length_hint__»;refine wpAny_bind (wpAny_of_eq (a:=Value.ref I) rfl ?_);refine wpAny_bind (wpAny_field hit rfl (x:=rawInt left) rfl ?_);show wpAny _ _ (retInt left) _ _ s;unfold retInt;refine wpAny_bind (wpAny_mkInt ?_);exact wpAny_pure ⟨_,rfl,h _⟩
theorem yM{I:Addr}{a c:Int}{n:Nat}{Q₁ : Value→Shared→Prop}(hh:A.handled=none)(hit:IsRangeIter s.heap I a (n:Int) c)(hn:n≤1000)
  (h:∀s' acc,Moved [I] (fun a b=>b=a) s s'→ItemsOf (fun i v=>∃t,v = .int (a+i*c) t) acc n→Q₁ (.ref s'.heap.objs.size) { s' with heap:=s'.heap.push { cls:=.type "tuple",data:=.seq acc } }) :
  codeAny (model prog w) A (.call (.builtin "tuple.__new__") ⟨[.type "tuple",.ref I],[]⟩) (wants Q₁ E) s:=by
 refine codeAny_of_tree ?_;show wpAny _ A.in1 (do checkBuiltinCall "tuple.__new__" ⟨[.type "tuple",.ref I],[]⟩;again (.builtin "tuple.__new__" ⟨[.type "tuple",.ref I],[]⟩)) _ _ s;refine wpAny_bind (wpAny_of_eq (F.newCall_tuple_1 _) (wpAny_pure ⟨plainId_quiet F.plain_tuple_new _,codeAny_builtin F.entry_tuple_new ?_⟩));rw [Around.under_plainId F.plain_tuple_new _];have hsub:=sub_tuple_self;have hinit:=init_tuple_lookup;have hmh:=madeHere_tuple;have hTI:s.TypeIs (.ref I) "range_iterator":=⟨_,hit,rfl⟩
 have W:=(Walks.range (prog:=prog) (w:=w) (A:=A.in1.in1) hh I a c n).toS;have st0:IsRangeIter s.heap I (a+((0:Nat):Int)*c) ((n:Int) - ((0:Nat):Int)) c:=by simpa using hit
 have hlt:∀b∈[I],b < s.heap.objs.size:=fun b hb=>by rw [List.mem_singleton.mp hb];exact Heap.lt_size hit
 have big:n≤sizeLine:=by rw [sizeLine_eq];omega
 have hTs:∀(i:Nat) (s:Shared),IsRangeIter s.heap I (a+(i:Nat)*c) ((n:Int) - (i:Nat)) c→s.TypeIs (.ref I) "range_iterator":=fun _ _ st=>⟨_,st,rfl⟩
 have hint:∀(s₁ : Shared) (Q':Value→Shared→Prop) (E':Value→Shared→Prop),IsRangeIter s₁.heap I (a+((0:Nat):Int)*c) ((n:Int) - ((0:Nat):Int)) c→(∀k u tk,s₁.toks≤tk→Builtin.List.listTooLong (Int.toNat k)=false→Q' (.int k u) { s₁ with toks:=tk })→wpAny (model prog w) A.in1.in1 (call (.builtin "range_iterator.__length_hint__") [.ref I]) Q' E' s₁:=fun s₁ Q' E' st k=>Zf8 st fun u=>k _ u _ (Nat.le_succ _) (by
  unfold Builtin.List.listTooLong
  rw [sizeLine_eq]
  exact decide_eq_false (by omega))
 wp_walk using wpAny_typeOf hTI,wpAny_collect_iter_range (hn:=big) W hTs st0 hlt (List.mem_singleton.mpr rfl) hint;intro s' acc hm hacc;show wpAny _ _ (Builtin.Tuple.tupleExact acc.toList.toArray >>= fun v=>ret v) _ _ _;unfold Builtin.Tuple.tupleExact;refine wpAny_bind (wpAny_newObj_type (wpAny_pure ?_) (by show acc.toList.toArray.size≤sizeLine;simp only [Array.toArray_toList];rw [hacc.1];exact big));have e:acc.toList.toArray=acc:=by simp
 rw [e];exact h s' acc hm hacc
theorem yN{I:Addr}{a c:Int}{n:Nat}{Q:Value→Shared→Prop}(hh:A.handled=none)(hit:IsRangeIter s.heap I a (n:Int) c)(hn:n≤1000)
  (h:∀s' acc,Moved [I] (fun a b=>b=a) s s'→ItemsOf (fun i v=>∃t,v = .int (a+i*c) t) acc n→Q (.ref s'.heap.objs.size) { s' with heap:=s'.heap.push { cls:=.type "tuple",data:=.seq acc } }):wpAny (model prog w) A (call (.type "tuple") [.ref I]) Q E s:=by
 refine callType_codes (Q₁:=fun obj s₁=>s₁.TypeIs obj "tuple"∧Q obj s₁) F.called_tuple (F.typeCall_tuple_1 _) F.entry_object_init (yM hh hit hn fun s' acc hm hacc=>⟨⟨_,Heap.get?_push_size _ rfl,rfl⟩,h s' acc hm hacc⟩) fun obj s₁ h₁=>?_
 exact ⟨h₁.1,F.args_object_init_2 obj _,object_init_meets F.called_tuple.init.lookup F.called_tuple.made (by decide) prog w A.in1 _ s₁ ⟨h₁.1,rfl,h₁.2⟩⟩
end
def zP(ta:TA):TE:=fun σ H Q=>ta σ H fun vs H1=>∃n:Nat,vs=[.int (n:Int)]∧n≤1000∧∀l,H1 l=none→Q (.ref l) (upd H1 l (.tup ((List.range n).map fun k:Nat=>.int ((n:Int) - 1 - (k:Int)))))
section
variable{X:Cx}
theorem ZbS {a:Expr} {ta:TA} {p p2 p3 pos pos2 pos3:Pos} (hc:X.calm=true) (hgt:Gl X "tuple") (hmt:X.mg "tuple" = none) (hgr:Gl X "reversed") (hmr:X.mg "reversed" = none) (hg:Gl X "range") (hm:X.mg "range" = none) (ha:PA X [a] ta) (hs:starEach [a] X.env=[(false,eval a X.env)]:=by rfl)
  (hs2:starEach [Expr.Call (.Name "range" p2) [a] [] pos2] X.env=[(false,eval (.Call (.Name "range" p2) [a] [] pos2) X.env)]:=by rfl)
  (hs3:starEach [Expr.Call (.Name "reversed" p3) [.Call (.Name "range" p2) [a] [] pos2] [] pos3] X.env=[(false,eval (.Call (.Name "reversed" p3) [.Call (.Name "range" p2) [a] [] pos2] [] pos3) X.env)]:=by rfl) :
  PE X (.Call (.Name "tuple" p) [.Call (.Name "reversed" p3) [.Call (.Name "range" p2) [a] [] pos2] [] pos3] [] pos) (zP ta):=by
 intro pins s σ H Q I h;refine wpAny_Call_Name_kw (Jl I hgt hmt Jb (PyProof.Rows.callWith_type1 ?_ hs3 rfl));rw [hs3];refine (show wpAny _ _ (spliced ((false,eval (.Call (.Name "reversed" p3) [.Call (.Name "range" p2) [a] [] pos2] [] pos3) X.env) :: backTo pos [])) _ _ s from Calls.spliced_cons ?_);refine wpAny_Call_Name_kw (Jl I hgr hmr ur (PyProof.Rows.callWith_type1 ?_ hs2 rfl));rw [hs2];refine (show wpAny _ _ (spliced ((false,eval (.Call (.Name "range" p2) [a] [] pos2) X.env) :: backTo pos3 [])) _ _ s from Calls.spliced_cons ?_);refine wpAny_Call_Name_kw (Jl I hg hm boot_range (PyProof.Rows.callWith_type1 (thn (ha pos2 pins s σ H _ I h) fun us s1 ⟨vs,H1,I1,r1,q1⟩=>?_) hs rfl));obtain ⟨n,e,hn,q⟩:=q1;subst e;obtain ⟨u,rfl,ru⟩:=vals1 r1;obtain ⟨t,rfl⟩:=ru;refine call_range_1 (Calls.spliced_nil ?_);have I2:Inv X pins σ H1 { s1 with heap:=s1.heap.push { cls:=.type "range",data:=.fields #[.int 0 s1.toks,.int (n:Int) t,.int 1 (s1.toks+1)] },toks:=s1.toks+1+1 }:=I1.kept fun b o e=>Heap.get?_push_of_some _ e
 refine jh (s:={ s1 with heap:=s1.heap.push { cls:=.type "range",data:=.fields #[.int 0 s1.toks,.int (n:Int) t,.int 1 (s1.toks+1)] },toks:=s1.toks+1+1 }) (IsRange.new ..) (by omega) (by omega) (Calls.spliced_nil ?_);have st:IsRangeIter ((s1.heap.push { cls:=.type "range",data:=.fields #[.int 0 s1.toks,.int (n:Int) t,.int 1 (s1.toks+1)] }).push { cls:=.type "range_iterator",data:=.fields #[rawInt ((n:Int) - 1),rawInt (n:Int),rawInt (-1)] }) (s1.heap.push { cls:=.type "range",data:=.fields #[.int 0 s1.toks,.int (n:Int) t,.int 1 (s1.toks+1)] }).objs.size ((n:Int) - 1) (n:Int) (-1):=Heap.get?_push_size _ rfl;refine yN (I1.ok.hd hc) st hn fun s' acc hm hacc=>?_
 have kp:∀b o,s1.heap.get? b=some o→s'.heap.get? b=some o:=fun b o e=>by
  have lb:=Heap.lt_size e;refine hm.heap b o (fun z=>?_) (Heap.get?_push_of_some _ (Heap.get?_push_of_some _ e));have zz:b=(s1.heap.push { cls:=.type "range",data:=.fields #[.int 0 s1.toks,.int (n:Int) t,.int 1 (s1.toks+1)] }).objs.size:=List.mem_singleton.mp z;rw [size_push'] at zz;rw [zz] at lb;exact absurd lb (Nat.not_lt.mpr (Nat.le_succ _))
 rw [Moved.eq_with hm]
 have hi:IntsAre acc.toList ((List.range n).map fun k:Nat=>(n:Int) - 1 - (k:Int)):=ints_of (by rw [Array.length_toList,List.length_map,List.length_range];exact hacc.1) fun j v hj=>by
  rw [Array.getElem?_toList] at hj;obtain ⟨u,e2⟩:=hacc.2 j v hj
  have lj:j < n:=by
   have:=(Array.getElem?_eq_some_iff.mp hj).1
   rw [hacc.1] at this;exact this
  exact ⟨_,u,by rw [List.getElem?_map,List.getElem?_range lj];rfl,by rw [e2];show Value.int _ _=Value.int ((n:Int) - 1 - (j:Int)) _;congr 1;omega⟩
 have I3:Inv X pins σ H1 { s1 with heap:=s'.heap,toks:=s'.toks }:=I1.kept kp;refine ⟨.ref s'.heap.objs.size,_,I3.laid (t':=s'.toks) (o:=.tup ((List.range n).map fun k:Nat=>.int ((n:Int) - 1 - (k:Int)))) (fun b o e=>Heap.get?_push_of_some _ e) (Nat.le_refl _) ⟨?_,acc.toList,?_,?_⟩,rfl,q _ (I3.hok.fresh (Nat.le_refl _))⟩
 ·rw [List.length_map,List.length_range,sizeLine_eq];omega
 ·have:=uI hi
  rw [List.map_map] at this;exact this
 ·have:=IsTup.new s'.heap acc
  simpa using this
theorem Zd6{ta:TA}{σ : St}{H:Hp}{Q:VK}(h:ta σ H fun vs H1=>∃n:Nat,vs=[.int (n:Int)]∧n≤1000∧∀l,H1 l=none→Q (.ref l) (upd H1 l (.tup ((List.range n).map fun k:Nat=>.int ((n:Int) - 1 - (k:Int)))))):zP ta σ H Q:=h
end
end L2
set_option Elab.async false
set_option linter.all false
set_option maxRecDepth 100000
set_option maxHeartbeats 4000000
open L2
local macro_rules | `(tactic| walk_at "side")=>`(tactic| first
 | (show (0:Int) < _;omega)
 | (unfold CDiv;omega)
 | (unfold CMul;omega)
 | exact ⟨by decide,by decide,by decide⟩)
local macro_rules | `(tactic| walk_at "rd1")=>`(tactic| first
 | with_reducible refine Zia ?_
 | with_reducible refine Ziu ?_
 | with_reducible refine ZfZ ?_
 | ((with_reducible refine' g8 ?k1 ?_);(case k1=>exact rfl))
 | with_reducible refine k_c ?_
 | with_reducible refine k_op ?_
 | with_reducible refine Zic ?_
 | with_reducible refine Ziq ?_
 | with_reducible refine Zii ?_
 | with_reducible refine k_eqS ?_
 | with_reducible refine k_eqB ?_
 | with_reducible refine k_neB ?_
 | with_reducible refine Zin ?_
 | with_reducible refine Zhp ?_
 | with_reducible refine k_tB ?_
 | with_reducible refine k_bl ?_
 | with_reducible refine Zib ?_
 | with_reducible refine Zhx ?_
 | with_reducible refine k_drop ?_
 | with_reducible refine k_not ?_
 | with_reducible refine Ziw ?_
 | with_reducible refine k_or ?_
 | with_reducible refine ZhH ?_
 | with_reducible refine Zih ?_
 | with_reducible refine Zhv ?_
 | with_reducible refine k_if ?_
 | with_reducible refine Zf4 ?_
 | with_reducible refine ZfP ?_
 | with_reducible refine ZhE ?_
 | with_reducible refine ZhG ?_
 | with_reducible refine k_cB ?_
 | with_reducible refine Zh_ ?_
 | with_reducible refine Zij ?_
 | with_reducible refine k_un ?_
 | with_reducible refine k_rU ?_
 | with_reducible refine k_sl ?_
 | with_reducible refine Zd_ ?_
 | with_reducible refine Zhu ?_
 | with_reducible refine Zim ?_
 | with_reducible refine k_retN ?_
 | with_reducible refine k_dput ?_
 | with_reducible refine k_revT ?_
 | with_reducible refine Zf1 ?_
 | with_reducible refine Zf2 ?_
 | with_reducible refine k_iStr ?_
 | with_reducible refine ZhB ?_
 | with_reducible refine k_isLT ?_
 | with_reducible refine ZhD ?_
 | with_reducible refine k_rev ?_
 | with_reducible refine k_dget ?_
 | with_reducible refine k_dnotIn ?_
 | with_reducible refine k_dget1 ?_
 | with_reducible refine k_par ?_
 | with_reducible refine k_fmtS ?_
 | with_reducible refine k_fmtI ?_
 | with_reducible refine k_jn ?_
 | with_reducible refine k_jn0 ?_
 | with_reducible refine Zh9 ?_
 | with_reducible refine Zil ?_
 | with_reducible refine Zhw ?_
 | with_reducible refine Zio ?_
 | with_reducible refine ZhF ?_
 | with_reducible refine Zhs ?_
 | with_reducible refine Zhr ?_
 | with_reducible refine ZfY ?_
 | with_reducible refine ZhA ?_
 | with_reducible refine k_bm ?_
 | with_reducible refine Zit ?_
 | with_reducible refine Zis ?_
 | with_reducible refine Zf0 ?_
 | with_reducible refine ZhC ?_
 | with_reducible refine k_break ?_
 | with_reducible refine k_cont ?_
 | with_reducible refine k_int1 ?_
 | with_reducible refine Zhz ?_
 | with_reducible refine Zix ?_
 | with_reducible refine iteT ?_
 | with_reducible refine iteF ?_
 | with_reducible refine ZfS ?_
 | with_reducible refine ZfT ?_
 | with_reducible refine k_iteNNT ?_
 | with_reducible refine k_iteNNF ?_
 | ((with_reducible refine' k_rI ?k1 ?_);(case k1=>walk_at "side"))
 | ((with_reducible refine' Zif ?k1 ?_);(case k1=>(constructor <;> omega)))
 | ((with_reducible refine' Zig ?k1 ?_);(case k1=>(constructor <;> omega))))
local macro_rules | `(tactic| walk_at "rd")=>`(tactic| repeat walk_at "rd1")
namespace G1
open PySem L2 Fr
open PySem.W (Dat kqdOk)
abbrev ends(Q:VK):Ends:={ nx:=fun _ H'=>Q .non H',rt:=Q }
def HeapOk(n:Nat)(hs:List Int):Prop:=hs.length=n∧∀x∈hs,0≤x∧x≤3
abbrev dI(ns:List Int):Dat:=.tuple (ns.map Dat.int)
theorem AccZ.ints{K:Fg}{H0 H:Hp}{l:Addr}{ns:List Int}(A:AccZ K H0 l H (ns.map Dat.int)):H l=some (.lst (ns.map V.int)):=by
 obtain ⟨xs,h1,h2⟩:=A.at_;rw [RpL.ints_of h2] at h1;exact h1
theorem AccZ.strs{K:Fg}{H0 H:Hp}{l:Addr}{ns:List Str}(A:AccZ K H0 l H (ns.map Dat.str)):H l=some (.lst (ns.map V.str)):=by
 obtain ⟨xs,h1,h2⟩:=A.at_;rw [RpL.Zbs h2] at h1;exact h1
abbrev az:Str:="abcdefghijklmnopqrstuvwxyz"
theorem ZiE:∀j:Nat,j < 26→az.cps.toList[j]? = some (97+j):=by decide +kernel
theorem ZhW:az.length≤sizeLine:=by decide +kernel
theorem ZiD{i:Int}(h0:0≤i)(h1:i < 26):atI az.cps.toList i=some (97+i.toNat):=by
 have e:i=((i.toNat:Nat):Int):=by omega
 have q:=Yd (ZiE i.toNat (by omega));rw [← e] at q;exact q
def Low(z:Str):Prop:=∀x∈z.cps.toList,97≤x∧x≤122
theorem ZeV(z:Str):z.cps.toList.length=z.length:=by simp [Str.length]
theorem ZfG{c:Nat}(h0:97≤c)(h1:c≤122):Low ⟨#[c]⟩:=fun x hx=>by
 have:x=c:=by simpa using hx
 omega
theorem ZfH{z:Str}{lo hi:Option Int}(h:Low z):Low (scut z lo hi):=fun x hx=>by
 have q:x∈(hiL z.cps.toList hi).drop (lo.getD 0).toNat:=by simpa [scut] using hx
 have q2:=List.mem_of_mem_drop q;cases hi with
 | none=>exact h x q2
 | some j=>exact h x (List.mem_of_mem_take q2)
theorem Zdp(z:Str)(lo hi:Option Int):(scut z lo hi).length=(hiL z.cps.toList hi).length - (lo.getD 0).toNat:=by
 show (List.drop (lo.getD 0).toNat (hiL z.cps.toList hi)).toArray.size=_;rw [List.size_toArray,List.length_drop]
end G1
namespace G1
open PySem L2 Fr
open PySem.W (Dat kqdOk)
def ZhY(w:Str):Prop:=1≤w.length∧w.length≤8∧Low w
def uE(ws:List Str):Prop:=ws.Nodup∧∀w∈ws,ZhY w
theorem J0{α : Type}{xs:List α}{x : α}(h:xs.Nodup)(n:x∉xs):(xs++[x]).Nodup:=by
 rw [List.nodup_append];refine ⟨h,by simp,?_⟩;intro a ha b hb e;rw [List.mem_singleton.mp hb] at e;exact n (e ▸ ha)
theorem J3{α : Type}{P : α→Prop}{xs:List α}{x : α}(h:∀y∈xs,P y)(n:P x):∀y∈xs++[x],P y:=fun y hy=>by
 rcases List.mem_append.mp hy with q | q
 ·exact h y q
 ·rw [List.mem_singleton.mp q];exact n
def zq(q d:Int):Prop:=0 < q∧0 < d∧Gd.gd q d=1∧q≤10000000000∧d≤10000000000
def jm(K:Fg):Sp:=fun vs H Q _=>∃t b:Int,vs=[.int t,.int b]∧0 < t∧0 < b∧t≤10000000000∧b≤10000000000∧∀(p:Addr) (q d:Int) (H':Hp),Same H H'→zq q d→Rz K H' (.ref p) (dI [q,d])→Q (.ref p) H'
theorem Zd0{K:Fg}{vs:List V}{H:Hp}{Q:VK}{E:XK}{y z:Str}(h:jm K vs H Q E):vs.length=[y,z].length:=by
 obtain ⟨a,b,rfl,_⟩:=h;rfl
theorem ZaO(ns:List Int)(n:Nat):kqdOk (n+1) (dI ns)=true:=by
 show ((ns.map Dat.int).all (kqdOk n))=true;rw [List.all_eq_true];intro x hx;obtain ⟨i,_,rfl⟩:=List.mem_map.mp hx;cases n <;> rfl
theorem Zao{a b:List Int}(h:dI a=dI b):a=b:=by
 have:=Dat.tuple.inj h
 exact (List.map_inj_right (fun x y e=>Dat.int.inj e)).mp this
theorem Zg6{a:List Int}{hs:List (List Int)}:dI a∈hs.map dI↔a∈hs:=by
 rw [List.mem_map];constructor
 ·rintro ⟨b,hb,e⟩;rw [← Zao e];exact hb
 ·intro h;exact ⟨a,h,rfl⟩
def Zde(n:Nat)(hs:List (List Int)):Prop:=hs.Nodup∧∀h∈hs,HeapOk n h
end G1
namespace L2
open PySem PySem.W
end L2
namespace G1
open PySem L2 Fr
open PySem.W (Dat kqdOk)
structure Tn where
 fr:List Int
 to:List Int
 q:Int
 d:Int
def dT(t:Tn):Dat:=.tuple [dI t.fr,dI t.to,dI [t.q,t.d]]
def TurnOk(hs:List (List Int))(t:Tn):Prop:=t.fr∈hs∧t.to∈hs∧t.fr≠t.to∧zq t.q t.d
def Zen(t:Tn):List Int×List Int:=(t.fr,t.to)
structure Zdd (hs:List (List Int)) (ts:List Tn):Prop where
 ne:ts≠[]
 le:ts.length≤8
 nd:(ts.map Zen).Nodup
 ok:∀t∈ts,TurnOk hs t
def dP(p:Nat×Nat):Dat:=dI [(p.1:Int),(p.2:Int)]
theorem ZhT{a b:Nat×Nat}(h:dP a=dP b):a=b:=by
 have e:=Zao h;have e1:(a.1:Int)=b.1:=(List.cons.inj e).1;have e2:(a.2:Int)=b.2:=(List.cons.inj (List.cons.inj e).2).1;obtain ⟨a1,a2⟩:=a;obtain ⟨b1,b2⟩:=b;have e1':a1=b1:=Int.ofNat.inj e1;have e2':a2=b2:=Int.ofNat.inj e2;rw [e1',e2']
theorem Zg5{a:Nat×Nat}{ps:List (Nat×Nat)}:dP a∈ps.map dP↔a∈ps:=by
 rw [List.mem_map];constructor
 ·rintro ⟨b,hb,e⟩;rw [← ZhT e];exact hb
 ·intro h;exact ⟨a,h,rfl⟩
def Zav(n:Nat)(p:Nat×Nat):Prop:=p.1 < n∧p.2 < n∧p.1≠p.2
def two(hs:List (List Int))(p:Nat×Nat):List Int×List Int:=(hs.getD p.1 [],hs.getD p.2 [])
structure Good (hs:List (List Int)) (ps:List (Nat×Nat)) (ts:List Tn):Prop where
 nd:ps.Nodup
 le:ps.length≤8
 eq:ts.map Zen=ps.map (two hs)
 ok:∀p∈ps,Zav hs.length p
 pc:∀t∈ts,zq t.q t.d
theorem getD_mem{hs:List (List Int)}{i:Nat}(h:i < hs.length):hs.getD i []∈hs:=by
 rw [List.getD_eq_getElem?_getD,List.getElem?_eq_getElem h];exact List.getElem_mem h
theorem getD_inj{hs:List (List Int)}(nd:hs.Nodup){i j:Nat}(hi:i < hs.length)(hj:j < hs.length)(e:hs.getD i []=hs.getD j []):i=j:=by
 rw [List.getD_eq_getElem?_getD,List.getElem?_eq_getElem hi,List.getD_eq_getElem?_getD,List.getElem?_eq_getElem hj] at e;have e':hs[i]=hs[j]:=e;have pw:=List.pairwise_iff_getElem.mp nd;rcases Nat.lt_trichotomy i j with z | z | z
 ·exact absurd e' (pw i j hi hj z)
 ·exact z
 ·exact absurd e'.symm (pw j i hj hi z)
theorem nodup_map_on{α β : Type}{f : α→β}:∀{xs:List α},xs.Nodup→(∀a∈xs,∀b∈xs,f a=f b→a=b)→(xs.map f).Nodup
 | [],_,_=>List.nodup_nil
 | x :: xs,h,hf=>by
  rw [List.map_cons,List.nodup_cons];refine ⟨fun hm=>?_,nodup_map_on (List.nodup_cons.mp h).2 fun a ha b hb=>hf a (List.mem_cons_of_mem _ ha) b (List.mem_cons_of_mem _ hb)⟩;obtain ⟨y,hy,e⟩:=List.mem_map.mp hm;rw [← hf y (List.mem_cons_of_mem _ hy) x List.mem_cons_self e] at h;exact (List.nodup_cons.mp h).1 hy
theorem Good.turns{hs:List (List Int)}{ps:List (Nat×Nat)}{ts:List Tn}(g:Good hs ps ts)(nd:hs.Nodup)(ne:ps≠[]):Zdd hs ts:=by
 have len:ts.length=ps.length:=by have:=congrArg List.length g.eq;simpa using this
 refine ⟨fun z=>?_,by rw [len];exact g.le,?_,fun t ht=>?_⟩
 ·rw [z] at len;exact ne (List.length_eq_zero_iff.mp len.symm)
 ·rw [g.eq];refine nodup_map_on g.nd fun a ha b hb e=>?_
  have oa:=g.ok a ha;have ob:=g.ok b hb;have e1:=getD_inj nd oa.1 ob.1 (congrArg Prod.fst e);have e2:=getD_inj nd oa.2.1 ob.2.1 (congrArg Prod.snd e);obtain ⟨a1,a2⟩:=a;obtain ⟨b1,b2⟩:=b;simp only at e1 e2;rw [e1,e2]
 ·have hm:Zen t∈ps.map (two hs):=by rw [← g.eq];exact List.mem_map.mpr ⟨t,ht,rfl⟩
  obtain ⟨p,hp,e⟩:=List.mem_map.mp hm;have op:=g.ok p hp;have e1:hs.getD p.1 []=t.fr:=congrArg Prod.fst e;have e2:hs.getD p.2 []=t.to:=congrArg Prod.snd e;refine ⟨e1 ▸ getD_mem op.1,e2 ▸ getD_mem op.2.1,fun z=>op.2.2 ?_,g.pc t ht⟩;rw [← e1,← e2] at z;exact getD_inj nd op.1 op.2.1 z
structure ZhZ (ws:List Str) (ts:List Tn):Prop where
 words:uE ws
 w1:1≤ws.length
 w5:ws.length≤5
 turns:∃hs,Zde ws.length hs∧hs.length≤8∧Zdd hs ts
def dV(ws:List Str)(ts:List Tn):Dat:=.tuple [.tuple (ws.map Dat.str),.tuple (ts.map dT)]
end G1
namespace L2
open PySem PySem.Spec PyProof.Rows
open PySem.W (Dat kqdOk)
theorem yD {K:Fg}:PySem.W.kitOne K (.type "list") (.type "list")=some true:=by rfl
end L2
namespace Sm
open PySem L2 G1
open PySem.W (Dat kqdOk)
end Sm
namespace Vs
open PySem L2 Fr G1 Sm
open PySem.W (Dat kqdOk)
theorem Zeq{K:Fg}{H:Hp}{v:V}{t:Tn}(h:Rz K H v (dT t)):∃(a:Addr) (v1 v2 v3:V),v = .ref a∧H a=some (.tup [v1,v2,v3])∧Rz K H v1 (dI t.fr)∧Rz K H v2 (dI t.to)∧Rz K H v3 (dI [t.q,t.d]):=by
 obtain ⟨a,xs,e,ha,r⟩:=h.Yz;cases r with
 | cons r1 r =>
  cases r with
  | cons r2 r =>
   cases r with
   | cons r3 r =>
    cases r;exact ⟨a,_,_,_,e,ha,r1,r2,r3⟩
theorem yK{K:Fg}{H:Hp}{v:V}{ns:List Int}(h:Rz K H v (dI ns)):∃a:Addr,v = .ref a∧H a=some (.tup (ns.map V.int)):=by
 obtain ⟨a,xs,e,ha,r⟩:=h.Yz;rw [RpL.ints_of r] at ha;exact ⟨a,e,ha⟩
theorem jg{K:Fg}{H:Hp}{v:V}{ws:List Str}{ts:List Tn}(h:Rz K H v (dV ws ts)):∃(a:Addr) (v1 v2:V),v = .ref a∧H a=some (.tup [v1,v2])∧Rz K H v1 (.tuple (ws.map Dat.str))∧Rz K H v2 (.tuple (ts.map dT)):=by
 obtain ⟨a,xs,e,ha,r⟩:=h.Yz;cases r with
 | cons r1 r =>
  cases r with
  | cons r2 r =>
   cases r;exact ⟨a,_,_,e,ha,r1,r2⟩
end Vs
namespace G2
open PySem L2 Fr G1
open PySem.W (Dat kqdOk)
def Mx2(n:Int):Prop:=0≤n∧n < 2147483587
def Jh:Sp:=fun vs H Q _=>∃c p:Int,vs=[.int c,.int p]∧0≤p∧p≤1000∧∀m:Int,Mx2 m→Q (.int m) H
theorem ZdY{vs:List V}{H:Hp}{Q:VK}{E:XK}{y z:Str}(h:Jh vs H Q E):vs.length=[y,z].length:=by
 obtain ⟨a,b,rfl,_⟩:=h;rfl
def Zbj(K:Fg):TS:=(tSeq (tAsg (tOp rMod (tOp qAdd (tOp qAdd (tOp (rI CMul fun i j=>.int (i*j)) (tOp rMod (tVar 0) (tC (.int 2147483629))) (tC (.int 16807))) (tOp (rI CMul fun i j=>.int (i*j)) (tC (.int 69621)) (tVar 1))) (tC (.int 11))) (tC (.int 2147483629))) (Zn 2))
 (tSeq (tAsg (tOp rMod (tOp qAdd (tOp qAdd (tOp (rI CMul fun i j=>.int (i*j)) (tVar 2) (tVar 2)) (tOp (rI CMul fun i j=>.int (i*j)) (tC (.int 48271)) (tVar 1))) (tC (.int 7))) (tC (.int 2147483629))) (Zn 2))
 (tRet (tOp rMod (tOp qAdd (tOp (rI CMul fun i j=>.int (i*j)) (tVar 2) (tVar 2)) (tC (.int 69621))) (tC (.int 2147483587))))))
theorem Zff{K:Fg}{vs:List V}{H:Hp}{Q:VK}{E:XK}{N:List Str}(hN:N.length=3)(h:Jh vs H Q E):Zbj K (ends Q) (L2.start N vs) H:=by
 obtain ⟨c,p,rfl,h0,h1,k⟩:=h;rw [show L2.start N [.int c,.int p]=[some (.int c),some (.int p),none] by unfold L2.start;rw [hN];rfl];unfold Zbj;walk_at "rd";generalize hx:(c % 2147483629*16807+69621*p+11) % 2147483629=x;have x0:0≤x∧x < 2147483629:=by omega
 walk_at "rd";generalize hy:(x*x+48271*p+7) % 2147483629=y;have y0:0≤y∧y < 2147483629:=by omega
 walk_at "rd";exact k _ ⟨by omega,by omega⟩
def Zbm(K:Fg):TS:=(tSeq (Wt (Z6 (tOp rNe (tVar 1) (tC (.int 0))))
 (tPar 0 1 (Zc (tVar 1) (Zc (tOp ZgF (tVar 0) (tVar 1)) tNil))))
 (tRet (tCB rAbs (Zc (tVar 0) tNil))))
theorem Zfi{K:Fg}{vs:List V}{H:Hp}{Q:VK}{E:XK}{N:List Str}(hN:N.length=2)(h:qM vs H Q E):Zbm K (ends Q) (L2.start N vs) H:=by
 obtain ⟨a,b,rfl,k⟩:=h;rw [show L2.start N [.int a,.int b]=[some (.int a),some (.int b)] by unfold L2.start;rw [hN];rfl];unfold Zbm
 refine uH (fun σ H'=>H'=H∧∃i j:Int,σ = [some (.int i),some (.int j)]∧Gd.gd i j=Gd.gd a b)
  (fun σ _=>match σ with | [_,some (.int j)]=>j.natAbs | _=>0) ⟨rfl,a,b,rfl,rfl⟩ ?_ ?_
 ·rintro σ H' ⟨rfl,i,j,rfl,e⟩;refine ⟨_,rfl,rfl,_,rfl,ZhJ (fun hj=>?_) (fun hj=>?_)⟩
  ·refine ⟨_,rfl,_,rfl,_,rfl,_,_,rfl,rfl,hj,_,_,rfl,⟨rfl,j,i.fmod j,rfl,(Gd.ZcB i j).trans e⟩,?_⟩;exact Gd.ZcC hj
  ·subst hj;refine ⟨_,rfl,_,rfl,?_⟩;rw [Gd.ZeP,e];exact k
 ·rintro σ H' R R' h ⟨v,e,sc,c,ec,q⟩;exact ⟨v,e,sc,c,ec,h _ _ q⟩
def Zbl(K:Fg):TS:=(tSeq (tAsg (ZG qM [] E0 (Zc (tVar 0) (Zc (tVar 1) tNil))) (Zn 2))
 (tRet (tTup (Zc (tOp zY (tVar 0) (tVar 2)) (Zc (tOp zY (tVar 1) (tVar 2)) tNil)))))
theorem Zfh{K:Fg}{vs:List V}{H:Hp}{Q:VK}{E:XK}{N:List Str}(hN:N.length=3)(h:jm K vs H Q E):Zbl K (ends Q) (L2.start N vs) H:=by
 obtain ⟨t,b,rfl,t0,b0,t1,b1,k⟩:=h;rw [show L2.start N [.int t,.int b]=[some (.int t),some (.int b),none] by unfold L2.start;rw [hN];rfl];unfold Zbl;walk_at "rd";refine ⟨t,b,rfl,?_⟩;have nb:b≠0:=by omega
 have gp:=Gd.FW (a:=t) nb;have gl:=Gd.ZhN (a:=t) nb;have wd:(Gd.gd t b).natAbs < 2 ^ 9000:=Gd.wide (by omega);have L:=Gd.Zhc (t:=t) (b:=b) (d:=Gd.gd t b) nb (.inl ⟨rfl,b0⟩);have M:=Gd.ZfI (t:=t) (b:=b) (d:=Gd.gd t b) nb (.inl ⟨rfl,b0⟩);walk_at "rd";refine k_rI ⟨by omega,wd⟩ ?_;walk_at "rd";refine k_rI ⟨by omega,wd⟩ ?_;walk_at "rd";refine ⟨by show 2≤sizeLine;decide,fun p np=>?_⟩
 have q0:0 < t.fdiv (Gd.gd t b):=by
  have w:=L.worth
  have:=L.pos
  by_cases z:0 < t.fdiv (Gd.gd t b)
  ·exact z
  ·have h1:t.fdiv (Gd.gd t b)*b≤0:=Int.mul_nonpos_of_nonpos_of_nonneg (by omega) (by omega);have h2:0 < t*b.fdiv (Gd.gd t b):=Int.mul_pos t0 L.pos;omega
 have:=L.pos
 exact k p _ _ _ (Zi np _) ⟨q0,L.pos,L.low,by omega,by omega⟩ (.tup Zh (RpL.ints [_,_]))
def WK(K:Fg):Sp:=fun vs H Q _=>∃a b:Int,vs=[.int a,.int b]∧∀(p:Addr) (q d:Int) (H':Hp),Same H H'→zq q d→Rz K H' (.ref p) (dI [q,d])→Q (.ref p) H'
theorem Zcf{K:Fg}{vs:List V}{H:Hp}{Q:VK}{E:XK}{y z:Str}(h:WK K vs H Q E):vs.length=[y,z].length:=by
 obtain ⟨a,b,rfl,_⟩:=h;rfl
def zF(K:Fg):TS:=(tSeq (tIfS (Z6 (tOp rEq (tVar 1) (tC (.int 0))))
 (tRet (tTup (Zc (tC (.int 1)) (Zc (tC (.int 1)) tNil))))
 Z9)
 (tSeq (tIfS (Z6 (tOp rEq (tVar 1) (tC (.int 1))))
 (tRet (ZG (jm K) [] E0 (Zc (tOp qAdd (tC (.int 1)) (tOp rMod (tVar 0) (tC (.int 6)))) (Zc (tOp qAdd (tC (.int 1)) (tOp rMod (tOp rDiv (tVar 0) (tC (.int 6))) (tC (.int 5)))) tNil))))
 Z9)
 (tRet (ZG (jm K) [] E0 (Zc (tOp qAdd (tC (.int 1)) (tOp rMod (tVar 0) (tOp rPow (tC (.int 10)) (tC (.int 9))))) (Zc (tOp qAdd (tC (.int 1)) (tOp rMod (tOp rDiv (tVar 0) (tOp rPow (tC (.int 10)) (tC (.int 9)))) (tOp rPow (tC (.int 10)) (tC (.int 9))))) tNil))))))
theorem p9:(10:Int) ^ (9:Int).toNat=1000000000:=by decide +kernel
theorem gd11:Gd.gd 1 1=1:=by decide +kernel
theorem Zdw{K:Fg}{vs:List V}{H:Hp}{Q:VK}{E:XK}{N:List Str}(hN:N.length=2)(h:WK K vs H Q E):zF K (ends Q) (L2.start N vs) H:=by
 obtain ⟨a,b,rfl,k⟩:=h;rw [show L2.start N [.int a,.int b]=[some (.int a),some (.int b)] by unfold L2.start;rw [hN];rfl];unfold zF;walk_at "rd";refine Yi (fun z=>?_) (fun z=>?_)
 ·walk_at "rd";refine ⟨by show 2≤sizeLine;decide,fun p np=>?_⟩;exact k p 1 1 _ (Zi np _) ⟨by decide,by decide,gd11,by decide,by decide⟩ (.tup Zh (RpL.ints [1,1]))
 walk_at "rd";refine Yi (fun z=>?_) (fun z=>?_)
 ·walk_at "rd";exact ⟨_,_,rfl,by omega,by omega,by omega,by omega,k⟩
 ·walk_at "rd";rw [p9];walk_at "rd";rw [p9];walk_at "rd";rw [p9];walk_at "rd";exact ⟨_,_,rfl,by omega,by omega,by omega,by omega,k⟩
def Ur(K:Fg):Sp:=fun vs H Q _=>∃n m:Int,vs=[.int n,.int m]∧0≤n∧1≤m∧m≤5∧∀(p:Addr) (H':Hp) (ws:List Str),Same H H'→uE ws→ws.length=m.toNat→Rz K H' (.ref p) (.tuple (ws.map Dat.str))→Q (.ref p) H'
theorem ZaT{K:Fg}{vs:List V}{H:Hp}{Q:VK}{E:XK}{y z:Str}(h:Ur K vs H Q E):vs.length=[y,z].length:=by
 obtain ⟨a,b,rfl,_⟩:=h;rfl
theorem Ze0:∀j:Nat,j < 4→(scut "xyz" none (some (j:Int))).length≤3∧Low (scut "xyz" none (some (j:Int))):=by
 intro j hj;have sl:=Zdp ("xyz" : Str) none (some (j:Int));have l3:(("xyz" : Str)).length=3:=by decide +kernel
 refine ⟨?_,ZfH ?_⟩
 ·rw [sl];simp only [hiL,List.length_take,ZeV,l3,Option.getD];omega
 ·intro x hx
  have:(("xyz" : Str)).cps.toList=[120,121,122]:=by decide +kernel
  rw [this] at hx;simp only [List.mem_cons,List.not_mem_nil,or_false] at hx;omega
theorem app_list(a b:Str):(a++b).cps.toList=a.cps.toList++b.cps.toList:=by
 show (a.cps++b.cps).toList=_;exact Array.toList_append
theorem Zb7{a b:Str}(h1:Low a)(h2:Low b):Low (a++b):=fun x hx=>by
 rw [app_list] at hx;rcases List.mem_append.mp hx with q | q
 ·exact h1 x q
 ·exact h2 x q
def jK (K:Fg):TS:=(tSeq (tAsg (tC (.str "abcdefghijklmnopqrstuvwxyz")) (Zn 2))
 (tSeq (tAsg (tLst tNil) (Zn 3))
 (tSeq (tFor (Js (Zc (tVar 1) tNil)) (Zn 4)
 (tSeq (tAsg (tOp rIxS (tVar 2) (tOp rMod (tOp qAdd (tVar 0) (tOp (rI CMul fun i j=>.int (i*j)) (tC (.int 5)) (tVar 4))) (tC (.int 26)))) (Zn 5))
 (YT (tBM K "list" Z5 (tVar 3) (Zc (tOp Zfq (tOp Zfq (tVar 5) (tSl rSlS (tC (.str "xyz")) Ge (yZ (tOp rMod (tOp rDiv (tVar 0) (tC (.int 26))) (tC (.int 4)))))) (tOp Zfm (tVar 5) (tOp rMod (tOp rDiv (tVar 0) (tC (.int 104))) (tC (.int 2))))) tNil)))))
 (tRet (tCB (GJ K) (Zc (tVar 3) tNil))))))
theorem ZbC{K:Fg}{vs:List V}{H:Hp}{Q:VK}{E:XK}{N:List Str}(hN:N.length=6)(h:Ur K vs H Q E):jK K (ends Q) (L2.start N vs) H:=by
 obtain ⟨n,m,rfl,n0,m1,m5,k⟩:=h;rw [show L2.start N [.int n,.int m]=[some (.int n),some (.int m),none,none,none,none] by unfold L2.start;rw [hN];rfl];unfold jK;walk_at "rd";refine ⟨by decide,fun l nl=>?_⟩;walk_at "rd"
 refine YK (fun i σ H2=>∃(ws:List Str) (v4 v5:Option V),σ = [some (.int n),some (.int m),some (.str az),some (.ref l),v4,v5]∧AccZ K H l H2 (ws.map Dat.str)∧ws.length=i∧uE ws ∧
   ∀(j:Nat) (w:Str),ws[j]? = some w→w.cps.toList[0]? = some (97+((n+5*(j:Int)) % 26).toNat))
  ⟨[],none,none,rfl,AccZ.start (Same.refl _) nl,rfl,⟨List.nodup_nil,by simp⟩,by simp⟩ ?_ ?_
 ·rintro i σ H2 hi ⟨ws,v4,v5,rfl,A,hl,hw,hj⟩;have e0:(0:Int)+(i:Int)=(i:Int):=by omega
  rw [e0];have f0:=Int.emod_nonneg (n+5*(i:Int)) (b:=26) (by omega);have f1:=Int.emod_lt_of_pos (n+5*(i:Int)) (b:=26) (by omega);walk_at "rd";refine Zik ZhW (ZiD f0 f1) ?_;have lf:=ZfG (c:=97+((n+5*(i:Int)) % 26).toNat) (by omega) (by omega);have len1:(⟨#[97+((n+5*(i:Int)) % 26).toNat]⟩:Str).length=1:=rfl;have hd1:(⟨#[97+((n+5*(i:Int)) % 26).toNat]⟩:Str).cps.toList[0]? = some (97+((n+5*(i:Int)) % 26).toNat):=rfl;generalize hf:(⟨#[97+((n+5*(i:Int)) % 26).toNat]⟩:Str)=fw at lf len1 hd1 ⊢;walk_at "rd";refine ⟨A.ty,?_⟩;walk_at "rd";have j0:0≤n / 26 % 4:=by omega
  have ej:n / 26 % 4=(((n / 26 % 4).toNat:Nat):Int):=by omega
  have xc:=Ze0 (n / 26 % 4).toNat (by omega);rw [← ej] at xc;refine ⟨_,rfl,by decide +kernel,trivial,j0,?_⟩;generalize scut "xyz" none (some (n / 26 % 4))=mid at xc ⊢;refine ZeN (by rw [len1,show sizeLine=16777216 by decide];omega) ?_;walk_at "rd";refine Zht (by omega) ?_;generalize he:(if n / 104 % 2=0 then Str.empty else fw)=tl
  have tlo:tl.length≤1∧Low tl:=by
   rw [← he];split
   ·exact ⟨by decide,fun x hx=>by cases hx⟩
   ·exact ⟨by omega,lf⟩
  have lnew:(fw++mid++tl).length=fw.length+mid.length+tl.length:=by rw [strLen_append,strLen_append]
  refine ZeN (by rw [strLen_append,len1,show sizeLine=16777216 by decide];omega) ?_;walk_at "rd";refine U8 A (.str _) (Zq (by rw [List.length_map];omega)) fun H3 A3 _ _ _=>?_
  have hd2:(fw++mid++tl).cps.toList[0]? = some (97+((n+5*(i:Int)) % 26).toNat):=by
   rw [app_list,app_list,List.append_assoc,List.getElem?_append_left (by rw [ZeV,len1];omega)];exact hd1
  walk_at "rd";refine ⟨ws++[fw++mid++tl],_,_,rfl,by rw [List.map_append];exact A3,by simp [hl],⟨J0 hw.1 fun hx=>?_,J3 hw.2 ⟨by omega,by omega,Zb7 (Zb7 lf xc.2) tlo.2⟩⟩,fun j w e=>?_⟩
  ·obtain ⟨j,hj1,hj2⟩:=List.mem_iff_getElem.mp hx;have g:=hj j _ (by rw [List.getElem?_eq_getElem hj1,hj2]);rw [hd2] at g;have g':=Option.some.inj g;omega
  ·by_cases lt:j < ws.length
   ·rw [List.getElem?_append_left lt] at e;exact hj j w e
   ·rw [List.getElem?_append_right (by omega)] at e
    have z:j - ws.length=0:=by
     rcases Nat.eq_zero_or_pos (j - ws.length) with z | z
     ·exact z
     ·rw [List.getElem?_eq_none (by simp;omega)] at e;cases e
    rw [z] at e;have e':fw++mid++tl=w:=by simpa using e
    have ej2:j=i:=by omega
    rw [← e',ej2];exact hd2
 ·rintro σ H2 ⟨ws,v4,v5,rfl,A,hl,hw,hj⟩;have e:=AccZ.strs A;walk_at "rd";refine jy (SqL.of e) fun p np=>?_
  exact k p _ ws (A.same.trans (Zi np _)) hw hl (.tup Zh (RpL.strs ws))
def WW(K:Fg):Sp:=fun vs H Q _=>∃(c k m t:Int) (pl:Bool),vs=[.int c,.int k,.int m,.int t,.bl pl]∧0≤k∧k≤100∧0≤m∧m≤5∧2≤t∧t≤4∧∀(p:Addr) (H':Hp) (hs:List Int),Same H H'→HeapOk m.toNat hs→Rz K H' (.ref p) (dI hs)→Q (.ref p) H'
theorem Zck{K:Fg}{vs:List V}{H:Hp}{Q:VK}{E:XK}{v w x y z:Str}(h:WW K vs H Q E):vs.length=[v,w,x,y,z].length:=by
 obtain ⟨a,b,c,d,e,rfl,_⟩:=h;rfl
def zL(K:Fg):TS:=(tSeq (tAsg (tVar 0) (Zn 5))
 (tSeq (tIfS (Z6 (tOp rGt (tVar 1) (tC (.int 5))))
 (tAsg (tOp rDiv (tVar 0) (tC (.int 1024))) (Zn 5))
 Z9)
 (tSeq (tAsg (tLst tNil) (Zn 6))
 (tSeq (tFor (Js (Zc (tVar 2) tNil)) (Zn 7)
 (tIfS (tB (tVar 4))
 (tSeq (YT (tBM K "list" Z5 (tVar 6) (Zc (tOp rMod (tVar 5) (tVar 3)) tNil)))
 (tAsg (tOp rDiv (tVar 5) (tVar 3)) (Zn 5)))
 (YT (tBM K "list" Z5 (tVar 6) (Zc (tOp rMod (ZG Jh [] E0 (Zc (tVar 0) (Zc (tOp qAdd (tOp (rI CMul fun i j=>.int (i*j)) (tC (.int 5)) (tVar 1)) (tVar 7)) tNil))) (tVar 3)) tNil)))))
 (tRet (tCB (GJ K) (Zc (tVar 6) tNil)))))))
theorem ZdC{K:Fg}{vs:List V}{H:Hp}{Q:VK}{E:XK}{N:List Str}(hN:N.length=8)(h:WW K vs H Q E):zL K (ends Q) (L2.start N vs) H:=by
 obtain ⟨c,kk,m,t,pl,rfl,k0,k1,m0,m5,t2,t4,k⟩:=h;rw [show L2.start N [.int c,.int kk,.int m,.int t,.bl pl]=[some (.int c),some (.int kk),some (.int m),some (.int t),some (.bl pl),none,none,none] by unfold L2.start;rw [hN];rfl];unfold zL;walk_at "rd";have rest:∀z0:Int,(tSeq (tAsg (tLst tNil) (Zn 6)) (tSeq (tFor (Js (Zc (tVar 2) tNil)) (Zn 7)
 (tIfS (tB (tVar 4))
 (tSeq (YT (tBM K "list" Z5 (tVar 6) (Zc (tOp rMod (tVar 5) (tVar 3)) tNil)))
 (tAsg (tOp rDiv (tVar 5) (tVar 3)) (Zn 5)))
 (YT (tBM K "list" Z5 (tVar 6) (Zc (tOp rMod (ZG Jh [] E0 (Zc (tVar 0) (Zc (tOp qAdd (tOp (rI CMul fun i j=>.int (i*j)) (tC (.int 5)) (tVar 1)) (tVar 7)) tNil))) (tVar 3)) tNil)))))
 (tRet (tCB (GJ K) (Zc (tVar 6) tNil))))) (ends Q) [some (.int c),some (.int kk),some (.int m),some (.int t),some (.bl pl),some (.int z0),none,none] H:=by
  intro z0;walk_at "rd";refine ⟨by decide,fun l nl=>?_⟩;walk_at "rd";refine YK (fun i σ H2=>∃(ns:List Int) (z:Int) (v:Option V),σ = [some (.int c),some (.int kk),some (.int m),some (.int t),some (.bl pl),some (.int z),some (.ref l),v]∧AccZ K H l H2 (ns.map Dat.int)∧HeapOk i ns) ⟨[],z0,none,rfl,AccZ.start (Same.refl _) nl,rfl,by simp⟩ ?_ ?_
  ·rintro i σ H2 hi ⟨ns,z,v,rfl,A,hl,hb⟩
   have one:∀x:Int,HeapOk (i+1) (ns++[x % t]):=fun x=>⟨by simp [hl],fun y hy=>by
    rcases List.mem_append.mp hy with q | q
    ·exact hb y q
    ·rw [List.mem_singleton.mp q]
     have e1:=Int.emod_nonneg x (b:=t) (by omega)
     have e2:=Int.emod_lt_of_pos x (b:=t) (by omega)
     exact ⟨by omega,by omega⟩⟩
   walk_at "rd";cases pl with
   | true =>
    walk_at "rd";refine ⟨A.ty,?_⟩;walk_at "rd";refine U8 A (.int _) (Zq (by rw [List.length_map];omega)) fun H3 A3 _ _ _=>?_
    walk_at "rd";exact ⟨ns++[z % t],_,_,rfl,by simpa using A3,one z⟩
   | false =>
    walk_at "rd";refine ⟨A.ty,?_⟩;walk_at "rd";refine ⟨c,5*kk+(0+(i:Int)),rfl,by omega,by omega,fun x hx=>?_⟩;walk_at "rd";refine U8 A (.int _) (Zq (by rw [List.length_map];omega)) fun H3 A3 _ _ _=>?_
    walk_at "rd";exact ⟨ns++[x % t],_,_,rfl,by simpa using A3,one x⟩
  ·rintro σ H2 ⟨ns,z,v,rfl,A,hh⟩;walk_at "rd";have e:=AccZ.ints A;refine jy (SqL.of e) fun p np=>?_
   exact k p _ ns (A.same.trans (Zi np _)) hh (.tup Zh (RpL.ints ns))
 refine Yi (fun _=>?_) (fun _=>?_)
 ·walk_at "rd1";walk_at "rd1";walk_at "rd1";walk_at "rd1";walk_at "rd1";walk_at "rd1";exact rest _
 ·exact rest _
end G2
namespace G2
open PySem L2 Fr G1
open PySem.W (Dat kqdOk)
theorem Zeu{K:Fg}{H H3 H':Hp}{l:Addr}{ds:List Dat}(S:Same H H3)(A:AccZ K H3 l H' ds):AccZ K H l H' ds:=⟨S.trans A.same,S.free A.new,A.at_⟩
def spare(h1:Int)(m:Nat):List Int:=(List.range m).map fun j=>if j=0 then (if decide (h1=0)=true then 1 else 0) else 0
def WD(K:Fg):Sp:=fun vs H Q _=>∃(a:Addr) (ns:List Int) (t m s tp:Int) (pl:Bool),vs=[.ref a,.int t,.int m,.int s,.int tp,.bl pl]∧SqL K H a (ns.map V.int)∧0≤t∧1≤m∧m≤5∧2≤s∧s≤8∧2≤tp∧tp≤4 ∧
 ∀(p:Addr) (H':Hp) (hs:List (List Int)),AccZ K H p H' (hs.map dI)→Zde m.toNat hs→2≤hs.length→hs.length≤8→Q (.ref p) H'
theorem Zce{K:Fg}{vs:List V}{H:Hp}{Q:VK}{E:XK}{u v w x y z:Str}(h:WD K vs H Q E):vs.length=[u,v,w,x,y,z].length:=by
 obtain ⟨a,b,c,d,e,f,g,rfl,_⟩:=h;rfl
def zE(K:Fg):TS:=(tSeq (tAsg (tLst tNil) (Zn 6))
 (tSeq (tFor (Js (Zc (tVar 3) tNil)) (Zn 7)
 (tSeq (tAsg (ZG (WW K) [] E0 (Zc (ZG (JL K) [] E0 (Zc (tVar 0) (Zc (tOp qAdd (tVar 1) (tOp rMod (tVar 7) (tC (.int 6)))) tNil))) (Zc (tVar 7) (Zc (tVar 2) (Zc (tVar 4) (Zc (tVar 5) tNil)))))) (Zn 8))
 (tIfS (Z6 (tOp (rInD K true) (tVar 8) (tVar 6)))
 (YT (tBM K "list" Z5 (tVar 6) (Zc (tVar 8) tNil)))
 Z9)))
 (tSeq (tIfS (Z6 (tOp rEq (tCB (Yh K) (Zc (tVar 6) tNil)) (tC (.int 1))))
 (YT (tBM K "list" Z5 (tVar 6) (Zc (tCB (GJ K) (Zc (Y6 (Js (Zc (tVar 2) tNil)) (tCB ZgG (Zc (vd (tOp rEq (tVar 0) (tC (.int 0))) (tOp rEq (tOp (rIxT K) (tOp (rIxL K) (tVar 7) (tC (.int 0))) (tC (.int 0))) (tC (.int 0)))) tNil))) tNil)) tNil)))
 Z9)
 (tRet (tVar 6)))))
theorem Zdv{K:Fg}{vs:List V}{H:Hp}{Q:VK}{E:XK}{N:List Str}(hN:N.length=9)(h:WD K vs H Q E):zE K (ends Q) (L2.start N vs) H:=by
 obtain ⟨a,ns,t,m,s,tp,pl,rfl,hS,t0,m1,m5,s2,s8,p2,p4,k⟩:=h;rw [show L2.start N [.ref a,.int t,.int m,.int s,.int tp,.bl pl]=[some (.ref a),some (.int t),some (.int m),some (.int s),some (.int tp),some (.bl pl),none,none,none] by unfold L2.start;rw [hN];rfl];unfold zE;walk_at "rd";refine ⟨by decide,fun l nl=>?_⟩;walk_at "rd"
 refine YK (fun i σ H2=>∃(hs:List (List Int)) (v7 v8:Option V),σ = [some (.ref a),some (.int t),some (.int m),some (.int s),some (.int tp),some (.bl pl),some (.ref l),v7,v8]∧AccZ K H l H2 (hs.map dI)∧hs.length≤i∧Zde m.toNat hs∧(0 < i→hs≠[]))
  ⟨[],none,none,rfl,AccZ.start (Same.refl _) nl,Nat.le_refl _,⟨List.nodup_nil,by simp⟩,by simp⟩ ?_ ?_
 ·rintro i σ H2 hi ⟨hs,v7,v8,rfl,A,hl,hp,_⟩;walk_at "rd";refine ⟨a,ns,t+(0+(i:Int)) % 6,rfl,A.same.seq hS,by omega,?_⟩;generalize cellOf ns (t+(0+(i:Int)) % 6)=c1;walk_at "rd";refine ⟨c1,0+(i:Int),m,tp,pl,rfl,by omega,by omega,by omega,by omega,p2,p4,fun ph H4 h S4' oh rh=>?_⟩;have A4:=A.on S4';walk_at "rd";refine yE rh.rep A4.rep (fun e he=>by obtain ⟨b,_,rfl⟩:=List.mem_map.mp he;exact ZaO b 7) (ZaO h 7) (fun nm=>?_) (fun mm=>?_)
  ·walk_at "rd";refine ⟨A4.ty,?_⟩;walk_at "rd";refine U8 A4 rh (Zq (by rw [List.length_map];omega)) fun H5 A5 _ _ _=>?_
   walk_at "rd";exact ⟨hs++[h],_,_,rfl,by rw [List.map_append];exact A5,by simp;omega,⟨J0 hp.1 fun z=>nm (Zg6.mpr z),J3 hp.2 oh⟩,by simp⟩
  ·walk_at "rd";exact ⟨hs,_,_,rfl,A4,by omega,hp,fun _ z=>by rw [z] at mm;cases mm⟩
 ·rintro σ H2 ⟨hs,v7,v8,rfl,A,hl,hp,hne⟩;have ne:=hne (by omega);obtain ⟨xs,sx,lx,rx⟩:=A.sq;rw [List.length_map] at lx;walk_at "rd";refine Yu sx ?_;walk_at "rd";refine Yi (fun few=>?_) (fun few=>?_)
  ·have l1:hs.length=1:=by omega
   obtain ⟨h,rfl⟩:∃x,hs=[x]:=List.length_eq_one_iff.mp l1;have oh:=hp.2 h (by simp);obtain ⟨h1,hr,eh⟩:∃h1 hr,h=h1 :: hr:=List.exists_cons_of_length_pos (by have:=oh.1;omega);obtain ⟨v,ev,rv⟩:=RpL.get' (i:=0) rx (d:=dI h) rfl;obtain ⟨ah,ys,e1,sh,rh⟩:=rv.Zgp;cases e1;cases RpL.ints_of rh;walk_at "rd";refine ⟨A.ty,?_⟩;walk_at "rd";refine YD fun Dl nD=>⟨fun j H4=>AccZ K H2 Dl H4 ((spare h1 j).map Dat.int),AccZ.start (Same.refl _) nD,?_,?_⟩
   ·intro j H4 hj B
    have put:∀x:Int,x=(if j=0 then (if decide (h1=0)=true then 1 else 0) else 0)→EltK Dl m.toNat j (fun j H4=>AccZ K H2 Dl H4 ((spare h1 j).map Dat.int)) (.int x) H4:=by
     intro x ex;refine pushed hj (B.Yv (.int x) (Zq ?_) fun H5 B5=>?_)
     ·rw [List.length_map];unfold spare;rw [List.length_map,List.length_range];omega
     ·show AccZ K H2 Dl H5 ((spare h1 (j+1)).map Dat.int);unfold spare;rw [List.range_succ,List.map_append,List.map_append,List.map_singleton,List.map_singleton,← ex];exact B5
    walk_at "rd";refine Yi (fun j0=>?_) (fun j0=>?_)
    ·walk_at "rd";refine Jm (B.same.seq sx) (Yd (j:=0) ev) ?_;walk_at "rd";refine Z_ (B.same.seqT sh) (v:=.int h1) (Yd (j:=0) (by rw [eh];rfl)) ?_;walk_at "rd";refine put _ ?_;rw [if_pos (show j=0 by omega)]
    ·walk_at "rd";refine put _ ?_;rw [if_neg (show ¬ j=0 by omega)];rfl
   ·intro H4 B;have eB:=AccZ.ints B;walk_at "rd";refine jy (SqL.of eB) fun p np=>?_
    walk_at "rd";have Sp:=Zi np (.tup ((spare h1 m.toNat).map V.int));have A5:=(A.on B.same).on Sp;refine U8 A5 (d:=dI (spare h1 m.toNat)) (.tup Zh (RpL.ints _)) (Zq (by simp)) fun H6 A6 _ _ _=>?_
    walk_at "rd"
    have e0:(spare h1 m.toNat)[0]? = some (if decide (h1=0)=true then 1 else 0):=by
     unfold spare;rw [List.getElem?_map,List.getElem?_range (by omega)];rfl
    refine k l H6 ([h]++[_]) (by rw [List.map_append];exact A6) ⟨J0 hp.1 fun z=>?_,J3 hp.2 ⟨?_,fun x hx=>?_⟩⟩ (by simp) (by simp)
    ·have z':=List.mem_singleton.mp z;rw [z',eh] at e0;have z2:h1=(if decide (h1=0)=true then 1 else 0):=Option.some.inj e0;by_cases h10:h1=0
     ·rw [decide_eq_true h10] at z2;simp at z2;omega
     ·rw [decide_eq_false h10] at z2;simp at z2;omega
    ·unfold spare;rw [List.length_map,List.length_range]
    ·unfold spare at hx;obtain ⟨j,_,rfl⟩:=List.mem_map.mp hx;split
     ·split <;> decide
     ·decide
  ·walk_at "rd"
   have:0 < hs.length:=List.length_pos_iff.mpr ne
   exact k l H2 hs A hp (by omega) (by omega)
def dI2(p:Int×Int):Dat:=dI [p.1,p.2]
def FP(s:Int)(p:Int×Int):Prop:=0≤p.1∧p.1 < s∧0≤p.2∧p.1≠p.2
def Uv(K:Fg):Sp:=fun vs H Q _=>∃(a:Addr) (ns:List Int) (t s kd:Int) (pl:Bool),vs=[.ref a,.int t,.int s,.int kd,.bl pl]∧SqL K H a (ns.map V.int)∧0≤t∧2≤s∧s≤8∧0≤kd∧kd≤3 ∧
 ∀(p:Addr) (H':Hp) (ps:List (Nat×Nat)),AccZ K H p H' (ps.map dP)→ps.Nodup→ps.length≤8→ps≠[]→(∀q∈ps,Zav s.toNat q)→Q (.ref p) H'
theorem ZaX{K:Fg}{vs:List V}{H:Hp}{Q:VK}{E:XK}{v w x y z:Str}(h:Uv K vs H Q E):vs.length=[v,w,x,y,z].length:=by
 obtain ⟨a,b,c,d,e,f,rfl,_⟩:=h;rfl
def jO(K:Fg):TS:=(tSeq (tAsg (tLst tNil) (Zn 5))
 (tSeq (tFor (Js (Zc (tVar 2) tNil)) (Zn 6)
 (tSeq (tAsg (tOp rMod (tOp qAdd (tVar 6) (tC (.int 1))) (tVar 2)) (Zn 7))
 (tSeq (tIfS (tAnd (Z6 (tOp rEq (tVar 3) (tC (.int 3)))) (Z6 (tOp rGt (tVar 2) (tC (.int 3)))))
 (YT (tBM K "list" Z5 (tVar 5) (Zc (tTup (Zc (tVar 6) (Zc (tOp qAdd (tOp (rI CMul fun i j=>.int (i*j)) (tOp rDiv (tVar 6) (tC (.int 2))) (tC (.int 2))) (tOp rMod (tOp qAdd (tVar 6) (tC (.int 1))) (tC (.int 2)))) tNil))) tNil)))
 (tIfS (Z6 (tOp rGt (tVar 3) (tC (.int 0))))
 (YT (tBM K "list" Z5 (tVar 5) (Zc (tTup (Zc (tVar 6) (Zc (tVar 7) tNil))) tNil)))
 Z9))
 (tIfS (Z6 (tOp rEq (tVar 3) (tC (.int 2))))
 (YT (tBM K "list" Z5 (tVar 5) (Zc (tTup (Zc (tVar 7) (Zc (tVar 6) tNil))) tNil)))
 Z9))))
 (tSeq (tFor (Js (Zc (tC (.int 8)) tNil)) (Zn 6)
 (tSeq (tAsg (ZG (JL K) [] E0 (Zc (tVar 0) (Zc (tOp qAdd (tVar 1) (tVar 6)) tNil))) (Zn 8))
 (tIfS (tOr (Z6 (tOp rEq (tVar 3) (tC (.int 0)))) (Z6 (tOp rEq (tOp rMod (tVar 8) (tC (.int 5))) (tC (.int 1)))))
 (tSeq (tAsg (tOp rMod (ZG Jh [] E0 (Zc (tVar 8) (Zc (tC (.int 50)) tNil))) (tVar 2)) (Zn 9))
 (tSeq (tAsg (tOp rMod (ZG Jh [] E0 (Zc (tVar 8) (Zc (tC (.int 51)) tNil))) (tOp qSub (tVar 2) (tC (.int 1)))) (Zn 10))
 (tSeq (tIfS (tB (tVar 4))
 (tSeq (tAsg (tOp rMod (tOp rMod (tOp rDiv (tVar 8) (tC (.int 5))) (tC (.int 8))) (tVar 2)) (Zn 9))
 (tAsg (tOp rMod (tOp rMod (tOp rDiv (tVar 8) (tC (.int 40))) (tC (.int 8))) (tOp qSub (tVar 2) (tC (.int 1)))) (Zn 10)))
 Z9)
 (YT (tBM K "list" Z5 (tVar 5) (Zc (tTup (Zc (tVar 9) (Zc (tOp rMod (tOp qAdd (tOp qAdd (tVar 9) (tC (.int 1))) (tVar 10)) (tVar 2)) tNil))) tNil))))))
 Z9)))
 (tSeq (tAsg (tLst tNil) (Zn 11))
 (tSeq (tFor (U9 K (tVar 5)) (gTup K 2 (Yg (Zn 9) (Yg (Zn 12) gNil)))
 (tIfS (tAnd (Z6 (tOp (rInD K true) (tTup (Zc (tVar 9) (Zc (tVar 12) tNil))) (tVar 11))) (tAnd (Z6 (tOp rLt (tVar 12) (tVar 2))) (Z6 (tOp rLt (tCB (Yh K) (Zc (tVar 11) tNil)) (tC (.int 8))))))
 (YT (tBM K "list" Z5 (tVar 11) (Zc (tTup (Zc (tVar 9) (Zc (tVar 12) tNil))) tNil)))
 Z9))
 (tRet (tVar 11)))))))
theorem jA{K:Fg}{H H2:Hp}{l:Addr}{fs:List (Int×Int)}{x y:Int}{Q:VK}{σ : St}(A:AccZ K H l H2 (fs.map dI2))(n:fs.length≤100)(k:∀H3,AccZ K H l H3 ((fs++[(x,y)]).map dI2)→Q .non H3) :
  ([V.int x,.int y].length≤sizeLine∧∀p,H2 p=none→tNil σ (upd H2 p (.tup [.int x,.int y])) fun xs H3=>Z5 (.ref l) (.ref p :: xs) H3 Q):=by
 refine ⟨by show 2≤sizeLine;decide,fun p np=>?_⟩;have S:=Zi np (.tup [V.int x,.int y]);refine ZfP ?_;refine U8 (A.on S) (d:=dI2 (x,y)) (.tup Zh (RpL.ints [x,y])) (Zq (by rw [List.length_map];omega)) fun H3 A3 _ _ _=>k H3 ?_
 rw [List.map_append];exact A3
theorem Gp{s:Int}{fs:List (Int×Int)}{p:Int×Int}(h:∀q∈fs,FP s q)(n:FP s p):∀q∈fs++[p],FP s q:=J3 h n
theorem Zg3{n u v:Int}(h1:0≤u)(h2:u < n)(h3:0≤v)(h4:v < n - 1):(u+1+v) % n≠u:=by
 intro e;by_cases z:u+1+v < n
 ·rw [Int.emod_eq_of_lt (by omega) z] at e;omega
 ·have e2:(u+1+v) % n=u+1+v - n:=by
   rw [← Int.sub_emod_right,Int.emod_eq_of_lt (by omega) (by omega)]
  omega
theorem ZcJ{s:Int}{fs:List (Int×Int)}{p:Int×Int}(h:∃q∈fs,q.2 < s):∃q∈fs++[p],q.2 < s:=by
 obtain ⟨q,h1,h2⟩:=h;exact ⟨q,List.mem_append_left _ h1,h2⟩
theorem qD{s:Int}{fs:List (Int×Int)}{p:Int×Int}(h:p.2 < s):∃q∈fs++[p],q.2 < s:=⟨p,List.mem_append_right _ (List.mem_singleton.mpr rfl),h⟩
theorem ZbG{K:Fg}{vs:List V}{H:Hp}{Q:VK}{E:XK}{N:List Str}(hN:N.length=13)(h:Uv K vs H Q E):jO K (ends Q) (L2.start N vs) H:=by
 obtain ⟨a,ns,t,s,kd,pl,rfl,hS,t0,s2,s8,k0,k3,k⟩:=h;rw [show L2.start N [.ref a,.int t,.int s,.int kd,.bl pl]=[some (.ref a),some (.int t),some (.int s),some (.int kd),some (.bl pl),none,none,none,none,none,none,none,none] by unfold L2.start;rw [hN];rfl];unfold jO;walk_at "rd";refine ⟨by decide,fun l nl=>?_⟩;walk_at "rd"
 refine YK (fun i σ H2=>∃(fs:List (Int×Int)) (v6 v7:Option V),σ = [some (.ref a),some (.int t),some (.int s),some (.int kd),some (.bl pl),some (.ref l),v6,v7,none,none,none,none,none]∧AccZ K H l H2 (fs.map dI2)∧fs.length≤2*i∧(∀q∈fs,FP s q)∧(0 < i→0 < kd→∃q∈fs,q.2 < s))
  ⟨[],none,none,rfl,AccZ.start (Same.refl _) nl,Nat.le_refl _,by simp,by simp⟩ ?_ ?_
 ·rintro i σ H2 hi ⟨fs,v6,v7,rfl,A,hl,hf,hx⟩;have i8:(i:Int) < s:=by omega
  have hm0:=Int.emod_nonneg (0+(i:Int)+1) (b:=s) (by omega);have hm1:=Int.emod_lt_of_pos (0+(i:Int)+1) (b:=s) (by omega)
  have hne:(0+(i:Int)+1) % s≠0+(i:Int):=by
   have z:=Zg3 (n:=s) (u:=0+(i:Int)) (v:=0) (by omega) (by omega) (by omega) (by omega);rw [Int.add_zero] at z;exact z
  have back:∀(gs:List (Int×Int)) (H3:Hp) (D':Ends),AccZ K H l H3 (gs.map dI2)→gs.length≤2*i+1→(∀q∈gs,FP s q)→(0 < kd→∃q∈gs,q.2 < s) →
    (∀σ' H',(∃(fs:List (Int×Int)) (v6 v7:Option V),σ'=[some (.ref a),some (.int t),some (.int s),some (.int kd),some (.bl pl),some (.ref l),v6,v7,none,none,none,none,none]∧AccZ K H l H' (fs.map dI2)∧fs.length≤2*(i+1)∧(∀q∈fs,FP s q)∧(0 < i+1→0 < kd→∃q∈fs,q.2 < s))→D'.nx σ' H') →
    (tIfS (Z6 (tOp rEq (tVar 3) (tC (.int 2))))
     (YT (tBM K "list" Z5 (tVar 5) (Zc (tTup (Zc (tVar 7) (Zc (tVar 6) tNil))) tNil))) Z9) D' [some (.ref a),some (.int t),some (.int s),some (.int kd),some (.bl pl),some (.ref l),some (.int (0+(i:Int))),some (.int ((0+(i:Int)+1) % s)),none,none,none,none,none] H3:=by
   intro gs H3 D' B lg fg xg fin;walk_at "rd";refine Yi (fun _=>?_) (fun _=>?_)
   ·walk_at "rd";refine ⟨B.ty,?_⟩;walk_at "rd";refine jA B (by omega) fun H4 B4=>?_
    exact fin _ _ ⟨_,_,_,rfl,B4,by simp;omega,Gp fg ⟨hm0,hm1,by dsimp only;omega,fun e=>hne e⟩,fun _ z=>ZcJ (xg z)⟩
   ·walk_at "rd";exact fin _ _ ⟨gs,_,_,rfl,B,by omega,fg,fun _ z=>xg z⟩
  walk_at "rd";refine Yi (fun e3=>?_) (fun e3=>?_)
  ·walk_at "rd";refine Yi (fun s3=>?_) (fun s3=>?_)
   ·walk_at "rd";refine ⟨A.ty,?_⟩;walk_at "rd";refine jA A (by omega) fun H3 B=>?_
    refine back _ _ _ B (by simp;omega) (Gp hf ⟨by dsimp only;omega,by dsimp only;omega,by dsimp only;omega,by dsimp only;omega⟩) (fun z=>?_) fun σ' H' z=>z
    by_cases i0:0 < i
    ·exact ZcJ (hx i0 z)
    ·exact qD (by dsimp only;omega)
   ·walk_at "rd";refine Yi (fun _=>?_) (fun z=>absurd z (by omega));walk_at "rd";refine ⟨A.ty,?_⟩;walk_at "rd";refine jA A (by omega) fun H3 B=>?_
    exact back _ _ _ B (by simp;omega) (Gp hf ⟨by dsimp only;omega,by dsimp only;omega,hm0,fun e=>hne e.symm⟩) (fun z=>qD hm1) fun σ' H' z=>z
  ·walk_at "rd";refine Yi (fun kp=>?_) (fun kp=>?_)
   ·walk_at "rd";refine ⟨A.ty,?_⟩;walk_at "rd";refine jA A (by omega) fun H3 B=>?_
    exact back _ _ _ B (by simp;omega) (Gp hf ⟨by dsimp only;omega,by dsimp only;omega,hm0,fun e=>hne e.symm⟩) (fun z=>qD hm1) fun σ' H' z=>z
   ·exact back fs _ _ A (by omega) hf (fun z=>absurd z kp) fun σ' H' z=>z
 rintro σ H2 ⟨fs,v6,v7,rfl,A,hl,hf,hx⟩;have s8':s.toNat≤8:=by omega
 walk_at "rd"
 refine YK (fun i σ H3=>∃(gs:List (Int×Int)) (u6 u7 u8 u9 u10:Option V),σ = [some (.ref a),some (.int t),some (.int s),some (.int kd),some (.bl pl),some (.ref l),u6,u7,u8,u9,u10,none,none]∧AccZ K H l H3 (gs.map dI2)∧gs.length≤16+i∧(∀q∈gs,FP s q)∧(0 < kd∨0 < i→∃q∈gs,q.2 < s))
  ⟨fs,v6,v7,none,none,none,rfl,A,by omega,hf,fun z=>hx (by omega) (by omega)⟩ ?_ ?_
 ·rintro i σ H3 hi ⟨gs,u6,u7,u8,u9,u10,rfl,B,lg,fg,xg⟩;walk_at "rd";refine ⟨a,ns,t+(0+(i:Int)),rfl,B.same.seq hS,by omega,?_⟩;generalize cellOf ns (t+(0+(i:Int)))=c
  have draw:∀(D':Ends),(∀σ' H',(∃(gs:List (Int×Int)) (u6 u7 u8 u9 u10:Option V),σ'=[some (.ref a),some (.int t),some (.int s),some (.int kd),some (.bl pl),some (.ref l),u6,u7,u8,u9,u10,none,none]∧AccZ K H l H' (gs.map dI2)∧gs.length≤16+(i+1)∧(∀q∈gs,FP s q)∧(0 < kd∨0 < i+1→∃q∈gs,q.2 < s))→D'.nx σ' H') →
    (tSeq (tAsg (tOp rMod (ZG Jh [] E0 (Zc (tVar 8) (Zc (tC (.int 50)) tNil))) (tVar 2)) (Zn 9))
    (tSeq (tAsg (tOp rMod (ZG Jh [] E0 (Zc (tVar 8) (Zc (tC (.int 51)) tNil))) (tOp qSub (tVar 2) (tC (.int 1)))) (Zn 10))
    (tSeq (tIfS (tB (tVar 4))
    (tSeq (tAsg (tOp rMod (tOp rMod (tOp rDiv (tVar 8) (tC (.int 5))) (tC (.int 8))) (tVar 2)) (Zn 9))
    (tAsg (tOp rMod (tOp rMod (tOp rDiv (tVar 8) (tC (.int 40))) (tC (.int 8))) (tOp qSub (tVar 2) (tC (.int 1)))) (Zn 10)))
    Z9)
    (YT (tBM K "list" Z5 (tVar 5) (Zc (tTup (Zc (tVar 9) (Zc (tOp rMod (tOp qAdd (tOp qAdd (tVar 9) (tC (.int 1))) (tVar 10)) (tVar 2)) tNil))) tNil)))))) D'
     [some (.ref a),some (.int t),some (.int s),some (.int kd),some (.bl pl),some (.ref l),some (.int (0+(i:Int))),u7,some (.int c),u9,u10,none,none] H3:=by
   intro D' fin
   have last:∀o st:Int,0≤o→o < s→0≤st→st < s - 1→FP s (o,(o+1+st) % s)∧(o+1+st) % s < s:=fun o st h1 h2 h3 h4 =>
    ⟨⟨h1,h2,Int.emod_nonneg _ (by omega),fun e=>Zg3 h1 h2 h3 h4 e.symm⟩,Int.emod_lt_of_pos _ (by omega)⟩
   walk_at "rd";refine ⟨c,50,rfl,by decide,by decide,fun y hy=>?_⟩;have y0:=Int.emod_nonneg y (b:=s) (by omega);have y1:=Int.emod_lt_of_pos y (b:=s) (by omega);walk_at "rd";refine ⟨c,51,rfl,by decide,by decide,fun w hw=>?_⟩;have w0:=Int.emod_nonneg w (b:=s - 1) (by omega);have w1:=Int.emod_lt_of_pos w (b:=s - 1) (by omega);walk_at "rd";cases pl with
   | true =>
    have z0:=Int.emod_nonneg (c / 5 % 8) (b:=s) (by omega);have z1:=Int.emod_lt_of_pos (c / 5 % 8) (b:=s) (by omega);have x0:=Int.emod_nonneg (c / 40 % 8) (b:=s - 1) (by omega);have x1:=Int.emod_lt_of_pos (c / 40 % 8) (b:=s - 1) (by omega);walk_at "rd";refine ⟨B.ty,?_⟩;walk_at "rd";refine jA B (by omega) fun H4 B4=>?_
    obtain ⟨o1,o2⟩:=last (c / 5 % 8 % s) (c / 40 % 8 % (s - 1)) z0 z1 x0 x1;exact fin _ _ ⟨_,_,_,_,_,_,rfl,B4,by simp;omega,Gp fg o1,fun _=>qD o2⟩
   | false =>
    walk_at "rd";refine ⟨B.ty,?_⟩;walk_at "rd";refine jA B (by omega) fun H4 B4=>?_
    obtain ⟨o1,o2⟩:=last (y % s) (w % (s - 1)) y0 y1 w0 w1;exact fin _ _ ⟨_,_,_,_,_,_,rfl,B4,by simp;omega,Gp fg o1,fun _=>qD o2⟩
  walk_at "rd";refine Yi (fun z=>?_) (fun z=>?_)
  ·walk_at "rd1";exact draw _ fun σ' H' z=>z
  ·walk_at "rd";refine Yi (fun y=>?_) (fun y=>?_)
   ·exact draw _ fun σ' H' z=>z
   ·walk_at "rd";exact ⟨gs,_,_,_,_,_,rfl,B,by omega,fg,fun _=>xg (.inl (by omega))⟩
 rintro σ H3 ⟨gs,u6,u7,u8,u9,u10,rfl,B,lg,fg,xg⟩;have xg':=xg (.inr (by decide));obtain ⟨xs,hl3,rx⟩:=B.at_;have lx:xs.length=gs.length:=by rw [rx.length,List.length_map]
 walk_at "rd";refine ⟨by decide,fun l2 nl2=>?_⟩;walk_at "rd";have S2:=Zi nl2 (.lst []);refine Zd7 (SqL.of (S2 _ _ hl3)) ?_
 refine Wa (xs:=xs) (fun i σ H4=>∃(ps:List (Nat×Nat)) (w6 w7 w8 w9 w10 w12:Option V),σ = [some (.ref a),some (.int t),some (.int s),some (.int kd),some (.bl pl),some (.ref l),w6,w7,w8,w9,w10,some (.ref l2),w12]∧AccZ K H3 l2 H4 (ps.map dP)∧ps.Nodup∧ps.length≤8∧(∀q∈ps,Zav s.toNat q)∧((∃q∈gs.take i,q.2 < s)→ps≠[]))
  ⟨[],u6,u7,u8,u9,u10,none,rfl,AccZ.start (Same.refl _) nl2,List.nodup_nil,by decide,by simp,by simp⟩ ?_ ?_ ?_
 ·rintro i σ H4 _ ⟨ps,w6,w7,w8,w9,w10,w12,rfl,C,_⟩;exact SqL.of (C.same _ _ hl3)
 ·rintro i z σ H4 hz ⟨ps,w6,w7,w8,w9,w10,w12,rfl,C,nd,l8,okp,hne⟩;obtain ⟨dd,g1,g2⟩:=rx.get hz;rw [List.getElem?_map] at g1;obtain ⟨g,eg,rfl⟩:=Option.map_eq_some_iff.mp g1;have og:=fg g (List.mem_of_getElem? eg);obtain ⟨tz,zs,e1,st,rt⟩:=(g2.same C.same).Yz;cases e1;cases RpL.ints_of (ns:=[g.1,g.2]) rt;obtain ⟨x,y⟩:=g;obtain ⟨o0,o1,o2,o3⟩:=og;dsimp only at o0 o1 o2 o3
  have oo:y < s→Zav s.toNat (x.toNat,y.toNat):=fun ys=>by
   clear hne xg xg' hx;exact ⟨by show x.toNat < s.toNat;omega,by show y.toNat < s.toNat;omega,by show x.toNat≠y.toNat;omega⟩
  have tk:gs.take (i+1)=gs.take i++[(x,y)]:=by rw [List.take_add_one,eg];rfl
  have old:(∃q∈gs.take (i+1),q.2 < s)→¬ y < s→∃q∈gs.take i,q.2 < s:=by
   rintro ⟨q,h1,h2⟩ ny;rw [tk] at h1;rcases List.mem_append.mp h1 with h | h
   ·exact ⟨q,h,h2⟩
   ·rw [List.mem_singleton.mp h] at h2;exact absurd h2 ny
  have st':H4 tz=some (.tup [.int x,.int y]):=st;refine Y5 (SqT.of st') rfl ?_;walk_at "rd";refine ⟨by show 2≤sizeLine;decide,fun p np=>?_⟩;have S5:=Zi np (.tup [V.int x,.int y]);have C5:=C.on S5;have r5:Rz K (upd H4 p (.tup [V.int x,.int y])) (.ref p) (dI [x,y]):=.tup Zh (RpL.ints [x,y])
  have eP:dI [x,y]=dP (x.toNat,y.toNat):=by
   show dI [x,y]=dI [((x.toNat:Nat):Int),((y.toNat:Nat):Int)];rw [Int.toNat_of_nonneg o0,Int.toNat_of_nonneg o2]
  rw [eP] at r5;walk_at "rd";refine yE r5.rep C5.rep (fun e he=>by obtain ⟨b,_,rfl⟩:=List.mem_map.mp he;exact ZaO _ 7) (ZaO _ 7) (fun nm=>?_) (fun mm=>?_)
  ·walk_at "rd";refine Yi (fun ys=>?_) (fun ys=>?_)
   ·obtain ⟨xs5,s5,n5,_⟩:=C5.sq;rw [List.length_map] at n5;walk_at "rd";refine Yu s5 ?_;walk_at "rd";refine Yi (fun lt=>?_) (fun ge=>?_)
    ·walk_at "rd";refine ⟨C5.ty,?_⟩;walk_at "rd";refine ⟨by show 2≤sizeLine;decide,fun p' np'=>?_⟩;have S6:=Zi np' (.tup [V.int x,.int y]);refine ZfP ?_;refine U8 (C5.on S6) (d:=dP (x.toNat,y.toNat)) (by rw [← eP];exact .tup Zh (RpL.ints [x,y])) (Zq (by rw [List.length_map];omega)) fun H6 C6 _ _ _=>?_
     walk_at "rd";exact ⟨ps++[(x.toNat,y.toNat)],_,_,_,_,_,_,rfl,by rw [List.map_append];exact C6,J0 nd fun z=>nm (Zg5.mpr z),by simp;omega,J3 okp (oo ys),by simp⟩
    ·have lz:ps=[]→False:=fun z=>by
      have z0:ps.length=0:=by rw [z];rfl
      clear hne xg xg' hx;omega
     walk_at "rd";exact ⟨ps,_,_,_,_,_,_,rfl,C5,nd,l8,okp,fun _ z=>lz z⟩
   ·walk_at "rd";exact ⟨ps,_,_,_,_,_,_,rfl,C5,nd,l8,okp,fun z=>hne (old z ys)⟩
  ·walk_at "rd";exact ⟨ps,_,_,_,_,_,_,rfl,C5,nd,l8,okp,fun _ z=>by rw [z] at mm;cases mm⟩
 ·rintro σ H4 ⟨ps,w6,w7,w8,w9,w10,w12,rfl,C,nd,l8,okp,hne⟩;rw [lx,List.take_of_length_le (Nat.le_refl _)] at hne;walk_at "rd";exact k l2 H4 ps (Zeu B.same C) nd l8 (hne xg') okp
end G2
namespace G2
open PySem L2 Fr G1
open PySem.W (Dat kqdOk)
def vf(K:Fg):Sp:=fun vs H Q _=>∃(a:Addr) (ns:List Int) (t:Int),vs=[.ref a,.int t]∧SqL K H a (ns.map V.int)∧0≤t∧∀(p:Addr) (H':Hp) (ws:List Str) (ts:List Tn),Same H H'→ZhZ ws ts→Rz K H' (.ref p) (dV ws ts)→Q (.ref p) H'
theorem ZdU{K:Fg}{vs:List V}{H:Hp}{Q:VK}{E:XK}{x y:Str}(h:vf K vs H Q E):vs.length=[x,y].length:=by
 obtain ⟨a,b,c,rfl,_⟩:=h;rfl
def Zbf(K:Fg):TS:=(tSeq (tAsg (ZG Jh [] E0 (Zc (ZG (JL K) [] E0 (Zc (tVar 0) (Zc (tVar 1) tNil))) (Zc (tC (.int 1)) tNil))) (Zn 2))
 (tSeq (tAsg (tOp qAdd (tC (.int 1)) (tOp rMod (tVar 2) (tC (.int 5)))) (Zn 3))
 (tSeq (tAsg (tOp qAdd (tC (.int 2)) (tOp rMod (tOp rDiv (tVar 2) (tC (.int 5))) (tC (.int 3)))) (Zn 4))
 (tSeq (tAsg (tOp rEq (tOp rMod (tOp rDiv (tVar 2) (tC (.int 1260))) (tC (.int 2))) (tC (.int 1))) (Zn 5))
 (tSeq (tAsg (ZG (WD K) [] E0 (Zc (tVar 0) (Zc (tOp qAdd (tVar 1) (tC (.int 1))) (Zc (tVar 3) (Zc (tOp qAdd (tC (.int 2)) (tOp rMod (tOp rDiv (tVar 2) (tC (.int 15))) (tC (.int 7)))) (Zc (tVar 4) (Zc (tVar 5) tNil))))))) (Zn 6))
 (tSeq (tAsg (ZG (Uv K) [] E0 (Zc (tVar 0) (Zc (tOp qAdd (tVar 1) (tC (.int 7))) (Zc (tCB (Yh K) (Zc (tVar 6) tNil)) (Zc (tOp rMod (tOp rDiv (tVar 2) (tC (.int 105))) (tC (.int 4))) (Zc (tVar 5) tNil)))))) (Zn 7))
 (tSeq (tAsg (tLst tNil) (Zn 8))
 (tSeq (tFor (Js (Zc (tCB (Yh K) (Zc (tVar 7) tNil)) tNil)) (Zn 9)
 (tSeq (tAsg (ZG (JL K) [] E0 (Zc (tVar 0) (Zc (tOp qAdd (tOp qAdd (tVar 1) (tC (.int 7))) (tVar 9)) tNil))) (Zn 10))
 (tSeq (tAsg (tOp (rIxL K) (tVar 7) (tVar 9)) (gTup K 2 (Yg (Zn 11) (Yg (Zn 12) gNil))))
 (YT (tBM K "list" Z5 (tVar 8) (Zc (tTup (Zc (tOp (rIxL K) (tVar 6) (tVar 11)) (Zc (tOp (rIxL K) (tVar 6) (tVar 12)) (Zc (ZG (WK K) [] E0 (Zc (tOp rDiv (tVar 10) (tC (.int 320))) (Zc (tOp rMod (tOp rDiv (tVar 2) (tC (.int 420))) (tC (.int 3))) tNil))) tNil)))) tNil))))))
 (tRet (tTup (Zc (ZG (Ur K) [] E0 (Zc (tOp rDiv (tVar 2) (tC (.int 2520))) (Zc (tVar 3) tNil))) (Zc (tCB (GJ K) (Zc (tVar 8) tNil)) tNil))))))))))))
theorem Zfb{K:Fg}{vs:List V}{H:Hp}{Q:VK}{E:XK}{N:List Str}(hN:N.length=13)(h:vf K vs H Q E):Zbf K (ends Q) (L2.start N vs) H:=by
 obtain ⟨a,ns,t,rfl,hS,t0,k⟩:=h;rw [show L2.start N [.ref a,.int t]=[some (.ref a),some (.int t),none,none,none,none,none,none,none,none,none,none,none] by unfold L2.start;rw [hN];rfl];unfold Zbf;walk_at "rd";refine ⟨a,ns,t,rfl,hS,t0,?_⟩;generalize cellOf ns t=c;walk_at "rd";refine ⟨c,1,rfl,by decide,by decide,fun n ⟨n0,_⟩=>?_⟩;walk_at "rd";generalize decide (n / 1260 % 2=1)=pl;refine ⟨a,ns,t+1,1+n % 5,2+n / 15 % 7,2+n / 5 % 3,pl,rfl,hS,by omega,by omega,by omega,by omega,by omega,by omega,by omega,fun pp H1 hs A1 op h2 h8=>?_⟩;obtain ⟨xs,hpp,rz⟩:=A1.at_;have lx:xs.length=hs.length:=by rw [rz.length,List.length_map]
 have S1:=A1.same;walk_at "rd";refine Yu (SqL.of hpp) ?_;walk_at "rd";refine ⟨a,ns,t+7,(xs.length:Int),n / 105 % 4,pl,rfl,S1.seq hS,by omega,by omega,by omega,by omega,by omega,fun pr H2 ps A2 nd l8 ne okp=>?_⟩;obtain ⟨ys,hpr,ry⟩:=A2.at_;have ly:ys.length=ps.length:=by rw [ry.length,List.length_map]
 have S2:=A2.same;have S02:=S1.trans S2;walk_at "rd";refine ⟨by decide,fun l nl=>?_⟩;walk_at "rd";have Sl:=Zi nl (.lst []);refine Yu (SqL.of (Sl _ _ hpr)) ?_;rw [ly];walk_at "rd";have et:((ps.length:Nat):Int).toNat=ps.length:=by omega
 rw [et]
 refine YK (fun i σ H3=>∃(ts:List Tn) (v9 v10 v11 v12:Option V),σ = [some (.ref a),some (.int t),some (.int n),some (.int (1+n % 5)),some (.int (2+n / 5 % 3)),some (.bl pl),some (.ref pp),some (.ref pr),some (.ref l),v9,v10,v11,v12]∧AccZ K H2 l H3 (ts.map dT)∧ts.map Zen=(ps.take i).map (two hs)∧∀t∈ts,zq t.q t.d)
  ⟨[],none,none,none,none,rfl,AccZ.start (Same.refl _) nl,rfl,by simp⟩ ?_ ?_
 ·rintro i σ H3 hi ⟨ts,v9,v10,v11,v12,rfl,A,em,pc⟩;have S3:=A.same
  have lts:ts.length=i:=by
   have:=congrArg List.length em
   rw [List.length_map,List.length_map,List.length_take] at this;omega
  have eq1:ps[i]? = some ps[i]:=List.getElem?_eq_getElem hi;have oq:=okp _ (List.getElem_mem hi);generalize ps[i]=q at eq1 oq;have oq1:q.1 < hs.length:=by have:=oq.1;omega
  have oq2:q.2 < hs.length:=by have:=oq.2.1;omega
  obtain ⟨w,ew,rw_⟩:=ry.get' (i:=i) (d:=dP q) (by rw [List.getElem?_map,eq1];rfl);walk_at "rd";refine ⟨a,ns,t+7+(0+(i:Int)),rfl,(S02.trans S3).seq hS,by omega,?_⟩;generalize cellOf ns (t+7+(0+(i:Int)))=c2;walk_at "rd";refine Jm (SqL.of (S3 _ _ hpr)) (v:=w) (by rw [Int.zero_add];exact Yd ew) ?_;obtain ⟨tz,zs,rfl,st,rt⟩:=(rw_.same S3).Yz;cases RpL.ints_of (ns:=[(q.1:Int),(q.2:Int)]) rt;have st':H3 tz=some (.tup [.int (q.1:Int),.int (q.2:Int)]):=st;refine Y5 (SqT.of st') rfl ?_;have g1:(hs.map dI)[q.1]? = some (dI (hs.getD q.1 [])):=by rw [List.getElem?_map,List.getD_eq_getElem?_getD,List.getElem?_eq_getElem oq1];rfl
  have g2:(hs.map dI)[q.2]? = some (dI (hs.getD q.2 [])):=by rw [List.getElem?_map,List.getD_eq_getElem?_getD,List.getElem?_eq_getElem oq2];rfl
  obtain ⟨w1,ew1,rw1⟩:=rz.get' g1;obtain ⟨w2,ew2,rw2⟩:=rz.get' g2;have S13:=S2.trans S3;walk_at "rd";refine ⟨A.ty,?_⟩;walk_at "rd";refine Jm (SqL.of (S13 _ _ hpp)) (Yd ew1) ?_;walk_at "rd";refine Jm (SqL.of (S13 _ _ hpp)) (Yd ew2) ?_;walk_at "rd";refine ⟨_,_,rfl,fun pa pq pd H4 S4 ok4 r4=>?_⟩;walk_at "rd";refine ⟨by show 3≤sizeLine;decide,fun pt npt=>?_⟩;have S5:=Zi npt (.tup [w1,w2,.ref pa]);have S15:=S13.trans (S4.trans S5);have r5:Rz K (upd H4 pt (.tup [w1,w2,.ref pa])) (.ref pt) (dT ⟨hs.getD q.1 [],hs.getD q.2 [],pq,pd⟩):=.tup Zh (.cons (rw1.same S15) (.cons (rw2.same S15) (.cons (r4.same S5) .nil)));walk_at "rd";refine U8 (A.on (S4.trans S5)) r5 (Zq (by rw [List.length_map];omega)) fun H6 A6 _ _ _=>?_
  walk_at "rd";refine ⟨ts++[_],_,_,_,_,rfl,by rw [List.map_append];exact A6,?_,J3 pc ok4⟩;rw [List.map_append,em,List.take_add_one,eq1,List.map_append];rfl
 ·rintro σ H3 ⟨ts,v9,v10,v11,v12,rfl,A,em,pc⟩;rw [List.take_of_length_le (Nat.le_refl _)] at em;have S3:=A.same;obtain ⟨zs,hl,rzs⟩:=A.at_;have gd:G1.Good hs ps ts:=⟨nd,l8,em,fun p hp=>by have:=okp p hp;have e:((xs.length:Nat):Int).toNat=hs.length:=(by omega);rw [e] at this;exact this,pc⟩
  have tk:=gd.turns op.1 ne;walk_at "rd";refine ⟨n / 2520,1+n % 5,rfl,by omega,by omega,by omega,fun pw H4 ws S4 ow lw r4=>?_⟩;walk_at "rd";refine jy (SqL.of (S4 _ _ hl)) fun p np=>?_
  have S5:=Zi np (.tup zs);walk_at "rd";refine ⟨by show 2≤sizeLine;decide,fun r nr=>?_⟩;have S6:=Zi nr (.tup [.ref pw,.ref p]);have r5:Rz K (upd H4 p (.tup zs)) (.ref p) (.tuple (ts.map dT)):=.tup Zh ((rzs.same S4).same S5);refine k r _ ws ts (S02.trans (S3.trans (S4.trans (S5.trans S6)))) ⟨ow,by omega,by omega,hs,?_,h8,tk⟩ (.tup Zh (.cons ((r4.same S5).same S6) (.cons (r5.same S6) .nil)));rw [lw];exact op
end G2
namespace Ti
open PySem L2 Fr G1 Sm Vs G2
open PySem.W (Dat kqdOk)
end Ti
namespace Ti
open PySem L2 Fr G1 Sm Vs G2
open PySem.W (Dat kqdOk)
theorem Fj{α : Type}[DecidableEq α]:∀{l hs:List α},l.Nodup→(∀x∈l,x∈hs)→l.length≤hs.length
 | [],_,_,_=>Nat.zero_le _
 | x :: l,hs,nd,sub=>by
  rw [List.nodup_cons] at nd;have hx:=sub x List.mem_cons_self
  have h:=Fj (l:=l) (hs:=hs.erase x) nd.2 fun y hy=>by
   refine (List.mem_erase_of_ne ?_).mpr (sub y (List.mem_cons_of_mem _ hy));rintro rfl;exact nd.1 hy
  rw [List.length_erase_of_mem hx] at h
  have:=List.length_pos_of_mem hx
  rw [List.length_cons];omega
end Ti
namespace L2
open PySem
open PySem.W (Dat)
end L2
namespace Sz
open PySem L2 Fr G1 Sm Vs G2 Rk
open PySem.W (Dat kqdOk)
def dL(r:List Int):Dat:=.list (r.map Dat.int)
theorem Zfz(ns:List Int)(n:Nat):kqdOk (n+1) (dL ns)=true:=by
 show ((ns.map Dat.int).all (kqdOk n))=true;rw [List.all_eq_true];intro x hx;obtain ⟨i,_,rfl⟩:=List.mem_map.mp hx;cases n <;> rfl
theorem kE{K:Fg}{S:Addr→Prop}{H:Hp}{v:V}{r:List Int}(h:Rp K S H v (dL r)):∃b,v = .ref b∧S b∧H b=some (.lst (r.map V.int)):=by
 obtain ⟨b,xs,rfl,s,hb,rx⟩:=Rp.Zha h;rw [RpL.ints_of rx] at hb;exact ⟨b,rfl,s,hb⟩
theorem kj{K:Fg}{S:Addr→Prop}{H:Hp}{b:Addr}{r:List Int}(s:S b)(h:H b=some (.lst (r.map V.int))):Rp K S H (.ref b) (dL r):=.lst s h (RpL.ints r)
def Bnd(n:Nat)(R:List (List Int)):Prop:=∀r∈R,∀c∈r,c.natAbs < 2 ^ n
theorem ZgK{n:Nat}{r:List Int}(h:∀c∈r,c.natAbs < 2 ^ n)(p:Nat):(pt r p).natAbs < 2 ^ n:=by
 unfold pt;rw [List.getD_eq_getElem?_getD];cases e:r[p]? with
 | none=>exact Nat.two_pow_pos n
 | some c=>exact h c (List.mem_of_getElem? e)
theorem qK{r:List Int}{i:Nat}(h:i < r.length):atI (r.map V.int) ((i:Nat):Int)=some (V.int (pt r i)):=by
 refine Yd ?_;unfold pt;rw [List.getElem?_map,List.getD_eq_getElem?_getD,List.getElem?_eq_getElem h];rfl
def chg(t:Tn):List Int:=List.zipWith (fun a b=>b - a) t.fr t.to
def Y7(K:Fg):Sp:=fun vs H Q _=>∃(v:V) (ws:List Str) (ts:List Tn),vs=[v]∧Rz K H v (dV ws ts)∧ts.length≤100∧(∀t∈ts,t.fr.length≤100)∧∀(p:Addr) (H':Hp),Acc K H p H' ((ts.map chg).map dL)→Q (.ref p) H'
theorem gZ{K:Fg}{vs:List V}{H:Hp}{Q:VK}{E:XK}{x:Str}(h:Y7 K vs H Q E):vs.length=[x].length:=by
 obtain ⟨a,b,c,rfl,_⟩:=h;rfl
def zJ(K:Fg):TS:=(tSeq (tAsg (tLst tNil) (Zn 1))
 (tSeq (tFor (iTup K (tOp (rIxT K) (tVar 0) (tC (.int 1)))) (gTup K 3 (Yg (Zn 2) (Yg (Zn 3) (Yg (Zn 4) gNil))))
 (YT (tBM K "list" Z5 (tVar 1) (Zc (YX (iZip K .T .T (Zc (tVar 2) (Zc (tVar 3) tNil))) 2 (gTup K 2 (Yg (Zn 0) (Yg (Zn 1) gNil))) (tOp qSub (tVar 1) (tVar 0))) tNil))))
 (tRet (tVar 1))))
theorem Zdz{K:Fg}{vs:List V}{H:Hp}{Q:VK}{E:XK}{N:List Str}(hN:N.length=5)(h:Y7 K vs H Q E):zJ K (ends Q) (L2.start N vs) H:=by
 obtain ⟨v,ws,ts,rfl,rv,hl,hf,k⟩:=h;obtain ⟨a0,y1,y2,rfl,ha0,_,r2⟩:=jg rv;obtain ⟨a,xs,rfl,ha,rx⟩:=r2.Yz;rw [show L2.start N [.ref a0]=[some (.ref a0),none,none,none,none] by unfold L2.start;rw [hN];rfl];have lx:xs.length=ts.length:=by rw [rx.length,List.length_map]
 unfold zJ;walk_at "rd";refine ⟨by decide,fun l nl=>?_⟩;have Sl:=Zi nl (.lst []);walk_at "rd";refine Z_ (SqT.of (Sl _ _ ha0)) (v:=.ref a) rfl ?_;refine Zhq (SqT.of (Sl _ _ ha)) ?_;refine ZcH (xs:=xs) (fun i σ H2=>∃u2 u3 u4:Option V,σ = [some (.ref a0),some (.ref l),u2,u3,u4]∧Acc K H l H2 (((ts.take i).map chg).map dL)) ⟨none,none,none,rfl,by simpa using Acc.start nl⟩ ?_ ?_ ?_
 ·rintro i σ H2 _ ⟨u2,u3,u4,rfl,A⟩;exact SqT.of (A.same _ _ ha)
 ·rintro i z σ H2 hz ⟨u2,u3,u4,rfl,A⟩;obtain ⟨dd,g1,g2⟩:=rx.get hz;rw [List.getElem?_map] at g1;obtain ⟨t,ht,rfl⟩:=Option.map_eq_some_iff.mp g1;obtain ⟨at_,v1,v2,v3,rfl,hat,r1,r2,_⟩:=Zeq (g2.same A.same);have ti:i < ts.length:=(List.getElem?_eq_some_iff.mp ht).1;have hf3:=hf t (List.mem_of_getElem? ht);obtain ⟨b1,rfl,hb1⟩:=yK r1;obtain ⟨b2,rfl,hb2⟩:=yK r2;refine Y5 (SqT.of hat) rfl ?_;walk_at "rd";refine ⟨A.ty,?_⟩;walk_at "rd";refine ⟨b1,b2,_,_,rfl,SqT.of hb1,SqT.of hb2,?_⟩;refine U_ (xs:=t.fr.map V.int) (ys:=t.to.map V.int) fun D nD=>?_
  have ml:min (t.fr.map V.int).length (t.to.map V.int).length=(chg t).length:=by unfold chg;rw [List.length_zipWith,List.length_map,List.length_map]
  refine ⟨fun i H3=>AccZ K H2 D H3 (((chg t).take i).map Dat.int),AccZ.start (Same.refl _) nD,fun i H3 _ B=>⟨SqT.of (B.same _ _ hb1),SqT.of (B.same _ _ hb2)⟩,?_,?_⟩
  ·intro i y1 y2 H3 T e1 e2 B nT us hu
   obtain ⟨u0,u1,rfl⟩:∃u0 u1,us=[u0,u1]:=by
    match us,hu with
    | [u0,u1],_=>exact ⟨u0,u1,rfl⟩
   rw [List.getElem?_map] at e1 e2;obtain ⟨m1,f1,rfl⟩:=Option.map_eq_some_iff.mp e1;obtain ⟨m2,f2,rfl⟩:=Option.map_eq_some_iff.mp e2;have ec:(chg t)[i]? = some (m2 - m1):=by unfold chg;rw [List.getElem?_zipWith,f1,f2]
   have li:i < (chg t).length:=(List.getElem?_eq_some_iff.mp ec).1;refine Y5 (SqT.of Zh) rfl ?_;walk_at "rd";refine ⟨⟨[some (.int m1),some (.int m2)],rfl,rfl⟩,?_⟩;walk_at "rd";refine pushed (by rw [ml];exact li) ?_;refine (B.on (Zi nT _)).Yv (.int (m2 - m1)) (Zq ?_) fun H4 A4=>?_
   ·rw [List.length_map,List.length_take]
    have:=(List.getElem?_eq_some_iff.mp f1).1
    omega
   ·show AccZ K H2 D H4 (((chg t).take (i+1)).map Dat.int);rw [List.take_add_one,ec,List.map_append];exact A4
  ·intro H3 B;rw [ml,List.take_of_length_le (Nat.le_refl _)] at B;walk_at "rd";obtain ⟨zs,z1,z2,z3⟩:=A.ZgI B.same (d:=dL (chg t)) B.ref;refine ⟨l,zs,_,rfl,rfl,z1,Zq (by rw [z2,List.length_map,List.length_map,List.length_take];omega),?_⟩;refine ⟨_,_,_,rfl,?_⟩;rw [List.take_add_one,ht,List.map_append,List.map_append];exact z3
 ·rintro σ H2 ⟨u2,u3,u4,rfl,A⟩;rw [List.take_of_length_le (by omega)] at A;walk_at "rd";exact k l H2 A
end Sz
namespace Sf
open Rk Sz
def fp(r:List Int):Option Nat:=r.findIdx? (fun x=>decide (x≠0))
theorem yG{r:List Int}{i:Nat}(h:fp r=some i):i < r.length∧pt r i≠0∧∀j,j < i→pt r j=0:=by
 unfold fp at h;rw [List.findIdx?_eq_some_iff_getElem] at h;obtain ⟨l,h1,h2⟩:=h;refine ⟨l,?_,fun j hj=>?_⟩
 ·unfold pt;rw [List.getD_eq_getElem?_getD,List.getElem?_eq_getElem l];simpa using h1
 ·have:=h2 j hj
  unfold pt;rw [List.getD_eq_getElem?_getD,List.getElem?_eq_getElem (by omega)];simpa using this
theorem Zga{r:List Int}(h:fp r=none)(q:Nat):pt r q=0:=by
 unfold fp at h;rw [List.findIdx?_eq_none_iff] at h;unfold pt;rw [List.getD_eq_getElem?_getD];cases e:r[q]? with
 | none=>rfl
 | some c=>simpa using h c (List.mem_of_getElem? e)
def gcdL(r:List Int):Int:=r.foldl Gd.gd 0
theorem Zae(a b:Int):Gd.gd a b∣a∧Gd.gd a b∣b:=⟨Int.gcd_dvd_left ..,Int.gcd_dvd_right ..⟩
theorem G9:∀(r:List Int) (g:Int),r.foldl Gd.gd g∣g∧∀x∈r,r.foldl Gd.gd g∣x
 | [],g=>⟨Int.dvd_refl g,by simp⟩
 | y :: r,g=>by
  obtain ⟨h1,h2⟩:=G9 r (Gd.gd g y);obtain ⟨d1,d2⟩:=Zae g y;refine ⟨Int.dvd_trans h1 d1,fun x hx=>?_⟩;rcases List.mem_cons.mp hx with rfl | hx
  ·exact Int.dvd_trans h1 d2
  ·exact h2 x hx
theorem Gn{r:List Int}{i:Nat}(h:pt r i≠0):gcdL r≠0:=by
 intro z;unfold pt at h;rw [List.getD_eq_getElem?_getD] at h;cases e:r[i]? with
 | none=>rw [e] at h;exact h rfl
 | some c =>
  rw [e] at h
  have:=(G9 r 0).2 c (List.mem_of_getElem? e)
  unfold gcdL at z;rw [z] at this;exact h (Int.zero_dvd.mp this)
def dvs(r:List Int)(i:Nat):Int:=if pt r i < 0 then -gcdL r else gcdL r
def lowR(r:List Int):List Int:=match fp r with
 | none=>r
 | some i=>r.map fun x=>x.fdiv (dvs r i)
theorem ZcM{r:List Int}{i:Nat}(h:pt r i≠0):dvs r i≠0:=by
 have:=Gn h
 unfold dvs;split <;> omega
theorem ZcN(r:List Int)(i:Nat):∀x∈r,dvs r i∣x:=fun x hx=>by
 have:=(G9 r 0).2 x hx
 unfold dvs;split
 ·exact (Int.neg_dvd).mpr this
 ·exact this
theorem Jr(r:List Int):(lowR r).length=r.length:=by
 unfold lowR;split
 ·rfl
 ·rw [List.length_map]
theorem Zb8(r:List Int):∃g:Int,g≠0∧∀q,g*pt (lowR r) q=pt r q:=by
 unfold lowR;split
 ·exact ⟨1,by decide,fun q=>Int.one_mul _⟩
 ·rename_i i e
  have:=(yG e).2.1
  refine ⟨dvs r i,ZcM this,fun q=>?_⟩;unfold pt;rw [List.getD_eq_getElem?_getD,List.getElem?_map,List.getD_eq_getElem?_getD];cases e2:r[q]? with
  | none=>exact Int.mul_zero _
  | some c=>exact Int.mul_fdiv_cancel' (ZcN r i c (List.mem_of_getElem? e2))
def ownR(n i:Nat):List Int:=(List.range n).map fun o=>if o=i then 1 else 0
end Sf
namespace Rw
open PySem L2 Fr G1 Sm Vs G2 Rk Sz Sf
open PySem.W (Dat kqdOk)
def fpV(r:List Int):V:=match fp r with
 | some i=>.int i
 | none=>.non
def WX(K:Fg):Sp:=fun vs H Q _=>∃(a:Addr) (r:List Int),vs=[.ref a]∧H a=some (.lst (r.map V.int))∧∀H',Same H H'→Q (fpV r) H'
theorem Zcm{K:Fg}{vs:List V}{H:Hp}{Q:VK}{E:XK}{x:Str}(h:WX K vs H Q E):vs.length=[x].length:=by
 obtain ⟨a,b,rfl,_⟩:=h;rfl
theorem ZiB{r:List Int}{i:Nat}{c:Int}(h:∀j,j < i→pt r j=0)(hi:r[i]? = some c)(hc:c≠0):fp r=some i:=by
 unfold fp;rw [List.findIdx?_eq_some_iff_getElem];obtain ⟨l,e⟩:=List.getElem?_eq_some_iff.mp hi;refine ⟨l,by rw [e];simpa using hc,fun j hj=>?_⟩
 have:=h j hj
 unfold pt at this;rw [List.getD_eq_getElem?_getD,List.getElem?_eq_getElem (by omega)] at this;simpa using this
theorem ZiA{r:List Int}(h:∀j,j < r.length→pt r j=0):fp r=none:=by
 unfold fp;rw [List.findIdx?_eq_none_iff];intro x hx;obtain ⟨j,l,rfl⟩:=List.mem_iff_getElem.mp hx
 have:=h j l
 unfold pt at this;rw [List.getD_eq_getElem?_getD,List.getElem?_eq_getElem l] at this;simpa using this
def zN(K:Fg):TS:=(tSeq (tFor (Zcy K (Zc (tVar 0) tNil)) (gTup K 2 (Yg (Zn 1) (Yg (Zn 2) gNil)))
 (tIfS (Z6 (tOp rNe (tVar 2) (tC (.int 0))))
 (tRet (tVar 1))
 Z9))
 (tRet (tC .non)))
theorem ZdE{K:Fg}{vs:List V}{H:Hp}{Q:VK}{E:XK}{N:List Str}(hN:N.length=3)(h:WX K vs H Q E):zN K (ends Q) (L2.start N vs) H:=by
 obtain ⟨a,r,rfl,ha,k⟩:=h;rw [show L2.start N [.ref a]=[some (.ref a),none,none] by unfold L2.start;rw [hN];rfl];unfold zN;walk_at "rd";refine ⟨a,_,rfl,SqL.of ha,?_⟩;refine Zak (xs:=r.map V.int) (fun i σ H2=>∃u1 u2:Option V,σ = [some (.ref a),u1,u2]∧Same H H2∧∀j < i,pt r j=0) ⟨none,none,rfl,Same.refl _,fun j hj=>absurd hj (Nat.not_lt_zero _)⟩ (fun i σ H2 _ ⟨_,_,_,S,_⟩=>SqL.of (S _ _ ha)) ?_ ?_
 ·rintro i z σ H2 T hz ⟨u1,u2,rfl,S,d⟩ nT;rw [List.getElem?_map] at hz;obtain ⟨c,hc,rfl⟩:=Option.map_eq_some_iff.mp hz;have S2:=S.trans (Zi nT (.tup [.int (i:Int),.int c]));have hT:upd H2 T (.tup [.int (i:Int),.int c]) T=some (.tup [.int (i:Int),.int c]):=Zh;generalize upd H2 T (.tup [.int (i:Int),.int c])=H3 at S2 hT ⊢;refine Y5 (SqT.of hT) rfl ?_;walk_at "rd";have ec:pt r i=c:=by unfold pt;rw [List.getD_eq_getElem?_getD,hc];rfl
  refine FT (fun nz=>?_) (fun z=>?_)
  ·walk_at "rd"
   have:=k H3 S2
   unfold fpV at this;rw [ZiB d hc nz] at this;exact this
  ·walk_at "rd";refine ⟨_,_,rfl,S2,fun j hj=>?_⟩;by_cases e:j=i
   ·rw [e,ec,z]
   ·exact d j (by omega)
 ·rintro σ H2 ⟨u1,u2,rfl,S,d⟩;walk_at "rd"
  have:=k H2 S
  unfold fpV at this;rw [ZiA fun j hj=>d j (by rw [List.length_map];exact hj)] at this;exact this
def vh(K:Fg):Sp:=fun vs H Q _=>∃(a:Addr) (r:List Int),vs=[.ref a]∧H a=some (.lst (r.map V.int))∧r.length≤100∧(∀c∈r,c.natAbs < 2 ^ 9000)∧∀(p:Addr) (H':Hp),AccZ K H p H' ((lowR r).map Dat.int)→Q (.ref p) H'
theorem ZdZ{K:Fg}{vs:List V}{H:Hp}{Q:VK}{E:XK}{x:Str}(h:vh K vs H Q E):vs.length=[x].length:=by
 obtain ⟨a,b,rfl,_⟩:=h;rfl
theorem ZcF{r:List Int}{i:Nat}{c:Int}(h:r[i]? = some c):(r.take (i+1)).foldl Gd.gd 0=Gd.gd ((r.take i).foldl Gd.gd 0) c:=by
 rw [List.take_add_one,h,List.foldl_append];rfl
theorem ZcE{r:List Int}{i n:Nat}(h:pt r i≠0)(hb:∀c∈r,c.natAbs < 2 ^ n):(gcdL r).natAbs < 2 ^ n:=by
 have d:gcdL r∣pt r i:=by
  unfold pt at h ⊢;rw [List.getD_eq_getElem?_getD] at h ⊢;cases e:r[i]? with
  | none=>rw [e] at h;exact absurd rfl h
  | some c=>exact (G9 r 0).2 c (List.mem_of_getElem? e)
 have:=Nat.le_of_dvd (by omega) (Int.natAbs_dvd_natAbs.mpr d)
 exact Nat.lt_of_le_of_lt this (ZgK hb i)
def zR(K:Fg):Sp:=fun vs H Q _=>∃(a:Addr) (r:List Int),vs=[.ref a]∧H a=some (.lst (r.map V.int))∧∀H',Same H H'→Q (.int (gcdL r)) H'
theorem ZfL{K:Fg}{vs:List V}{H:Hp}{Q:VK}{E:XK}{x:Str}(h:zR K vs H Q E):vs.length=[x].length:=by
 obtain ⟨a,b,rfl,_⟩:=h;rfl
def Ze6(K:Fg):TS:=(tSeq (tAsg (tC (.int 0)) (Zn 1))
 (tSeq (tFor (U9 K (tVar 0)) (Zn 2)
 (tAsg (ZG qM [] E0 (Zc (tVar 1) (Zc (tVar 2) tNil))) (Zn 1)))
 (tRet (tVar 1))))
theorem ZgD{K:Fg}{vs:List V}{H:Hp}{Q:VK}{E:XK}{N:List Str}(hN:N.length=3)(h:zR K vs H Q E):Ze6 K (ends Q) (L2.start N vs) H:=by
 obtain ⟨a,r,rfl,ha,k⟩:=h;rw [show L2.start N [.ref a]=[some (.ref a),none,none] by unfold L2.start;rw [hN];rfl];unfold Ze6;walk_at "rd";refine Zd7 (SqL.of ha) ?_;refine Wa (xs:=r.map V.int) (fun j σ H2=>∃u3:Option V,σ = [some (.ref a),some (.int ((r.take j).foldl Gd.gd 0)),u3]∧Same H H2) ⟨_,rfl,Same.refl _⟩ (fun j σ H2 _ ⟨_,_,S⟩=>SqL.of (S _ _ ha)) ?_ ?_
 ·rintro j z σ H2 hz ⟨u3,rfl,S⟩;rw [List.getElem?_map] at hz;obtain ⟨c,hc,rfl⟩:=Option.map_eq_some_iff.mp hz;walk_at "rd";refine ⟨_,_,rfl,?_⟩;walk_at "rd";refine ⟨_,by rw [ZcF hc];rfl,S⟩
 ·rintro σ H2 ⟨u3,rfl,S⟩;rw [List.take_of_length_le (by rw [List.length_map];exact Nat.le_refl _)];walk_at "rd";exact k H2 S
def Zbk(K:Fg):TS:=(tSeq (tAsg (ZG (WX K) [] E0 (Zc (tVar 0) tNil)) (Zn 1))
 (tSeq (tIfS (Z6 (tOp rIsN (tVar 1) (tC .non)))
 (tRet (tCB (Gi K) (Zc (tVar 0) tNil)))
 Z9)
 (tSeq (tAsg (ZG (zR K) [] E0 (Zc (tVar 0) tNil)) (Zn 2))
 (tSeq (tIfS (Z6 (tOp rLt (tOp (rIxL K) (tVar 0) (tVar 1)) (tC (.int 0))))
 (tAsg (tUn (rU fun i=>.int (-i)) (tVar 2)) (Zn 2))
 Z9)
 (tRet (Y6 (U9 K (tVar 0)) (tOp zY (tVar 0) (tVar 3))))))))
theorem Zfg{K:Fg}{vs:List V}{H:Hp}{Q:VK}{E:XK}{N:List Str}(hN:N.length=3)(h:vh K vs H Q E):Zbk K (ends Q) (L2.start N vs) H:=by
 obtain ⟨a,r,rfl,ha,hl,hb,k⟩:=h;rw [show L2.start N [.ref a]=[some (.ref a),none,none] by unfold L2.start;rw [hN];rfl];unfold Zbk;walk_at "rd";refine ⟨a,r,rfl,ha,fun H1 S1=>?_⟩;unfold fpV;cases f:fp r with
 | none =>
  walk_at "rd";refine Yi (fun _=>?_) (fun z=>absurd rfl z);walk_at "rd";refine g_ (SqL.of (S1 _ _ ha)) fun l nl=>?_
  have e:lowR r=r:=by unfold lowR;rw [f]
  rw [e] at k;exact k l _ ⟨S1.trans (Zi nl _),S1.free nl,_,Zh,RpL.ints r⟩
 | some i =>
  obtain ⟨f1,f2,f3⟩:=yG f;walk_at "rd";refine Yi (fun z=>by cases z) (fun _=>?_);walk_at "rd";refine ⟨a,r,rfl,S1 _ _ ha,fun H2 S2=>?_⟩;have S:=S1.trans S2;walk_at "rd";refine Jm (SqL.of (S _ _ ha)) (qK f1) ?_
  have fin:YS (Itl K a) (tOp zY (tVar 0) (tVar 3)) [some (.ref a),some (.int i),some (.int (dvs r i))] (ends Q).rt H2:=by
   refine YL (xs:=r.map V.int) fun D nD=>⟨fun j H3=>AccZ K H D H3 (((lowR r).take j).map Dat.int),by simpa using AccZ.start S nD,fun j H3 _ A=>SqL.of (A.same _ _ ha),?_,?_⟩
   ·intro j x H3 hx A;have lj:=(List.getElem?_eq_some_iff.mp hx).1;rw [List.getElem?_map] at hx;obtain ⟨c,hc,rfl⟩:=Option.map_eq_some_iff.mp hx;walk_at "rd";refine ⟨c,dvs r i,rfl,rfl,⟨ZcM f2,?_⟩,?_⟩
    ·have:=ZcE f2 hb
     have e:(dvs r i).natAbs=(gcdL r).natAbs:=by unfold dvs;split <;> omega
     rw [e];exact this
    refine pushed lj ?_;refine A.Yv (.int _) (Zq (by rw [List.length_map,List.length_take,Jr];omega)) fun H4 A4=>?_
    have e:(lowR r)[j]? = some (c.fdiv (dvs r i)):=by unfold lowR;rw [f];show (r.map _)[j]? = _;rw [List.getElem?_map,hc];rfl
    show AccZ K H D H4 (((lowR r).take (j+1)).map Dat.int);rw [List.take_add_one,e,List.map_append];exact A4
   ·intro H3 A;rw [List.take_of_length_le (by rw [Jr,List.length_map];exact Nat.le_refl _)] at A;exact k D H3 A
  walk_at "rd";refine Yi (fun ng=>?_) (fun ng=>?_)
  ·walk_at "rd";refine FN (SqL.of (S _ _ ha)) ?_;have e:dvs r i = -gcdL r:=by unfold dvs;rw [if_pos ng]
   rw [e] at fin;exact fin
  ·walk_at "rd";refine FN (SqL.of (S _ _ ha)) ?_;have e:dvs r i=gcdL r:=by unfold dvs;rw [if_neg ng]
   rw [e] at fin;exact fin
def RowV(H:Hp)(x:V)(r:List Int):Prop:=∃c,x = .ref c∧(H c=some (.lst (r.map V.int))∨H c=some (.tup (r.map V.int)))
def Jc(H:Hp)(a:Addr)(R:List (List Int)):Prop:=∃xs,H a=some (.lst xs)∧xs.length=R.length∧∀(i:Nat) (x:V) (r:List Int),xs[i]? = some x→R[i]? = some r→RowV H x r
theorem RowV.same{H H':Hp}{x:V}{r:List Int}(h:RowV H x r)(e:Same H H'):RowV H' x r:=by
 obtain ⟨c,rfl,h⟩:=h;exact ⟨c,rfl,h.imp (e _ _) (e _ _)⟩
theorem ZfR{K:Fg}{H:Hp}{Q:VK}{x:V}{r:List Int}(e:RowV H x r)(h:∀l,H l=none→Q (.ref l) (upd H l (.lst (r.map V.int)))):Gi K [x] H Q:=by
 obtain ⟨c,rfl,e | e⟩:=e
 ·exact g_ (SqL.of e) h
 ·exact ZfQ (SqT.of e) h
theorem Zhy{K:Fg}{H:Hp}{Q:VK}{x:V}{r:List Int}(e:RowV H x r)(h:Q (.int r.length) H):Yh K [x] H Q:=by
 obtain ⟨c,rfl,e | e⟩:=e
 ·exact Yu (SqL.of e) (by rw [List.length_map];exact h)
 ·exact Jx (SqT.of e) (by rw [List.length_map];exact h)
theorem ZcV(xs:List V)(k:Nat):cutV xs (some (k:Int)) none=xs.drop k:=by
 have e:HT.sIx xs.length 0 (some (k:Int))=min k xs.length:=by
  show (if (k:Int) < 0 then ((k:Int)+(xs.length:Nat)).toNat else min (k:Int).toNat xs.length)=_;rw [if_neg (by omega),Int.toNat_natCast]
 have e2:HT.sIx xs.length xs.length none=xs.length:=rfl;unfold cutV;rw [e,e2];by_cases h:k≤xs.length
 ·rw [Nat.min_eq_left h,List.take_of_length_le (by rw [List.length_drop];exact Nat.le_refl _)]
 ·rw [Nat.min_eq_right (by omega),List.drop_eq_nil_of_le (Nat.le_refl _),List.drop_eq_nil_of_le (by omega),List.take_nil]
def Wy(K:Fg):Sp:=fun vs H Q _=>∃n i:Nat,vs=[.int (n:Int),.int (i:Int)]∧n≤100∧∀(p:Addr) (H':Hp),AccZ K H p H' ((ownR n i).map Dat.int)→Q (.ref p) H'
theorem Zcb{K:Fg}{vs:List V}{H:Hp}{Q:VK}{E:XK}{x y:Str}(h:Wy K vs H Q E):vs.length=[x,y].length:=by
 obtain ⟨a,b,rfl,_⟩:=h;rfl
theorem U7(n i:Nat):(ownR n i).length=n:=by unfold ownR;rw [List.length_map,List.length_range]
def zy(K:Fg):TS:=(tRet (Y6 (Js (Zc (tVar 0) tNil)) (tIf (Z6 (tOp rEq (tVar 0) (tVar 2))) (tC (.int 1)) (tC (.int 0)))))
theorem Zds{K:Fg}{vs:List V}{H:Hp}{Q:VK}{E:XK}{N:List Str}(hN:N.length=2)(h:Wy K vs H Q E):zy K (ends Q) (L2.start N vs) H:=by
 obtain ⟨n,i,rfl,hn,k⟩:=h;rw [show L2.start N [.int (n:Int),.int (i:Int)]=[some (.int (n:Int)),some (.int (i:Int))] by unfold L2.start;rw [hN];rfl];unfold zy;walk_at "rd";rw [Int.toNat_natCast];refine YD (n:=n) fun D nD=>⟨fun j H4=>AccZ K H D H4 (((ownR n i).take j).map Dat.int),by simpa using AccZ.start (Same.refl _) nD,?_,?_⟩
 ·intro j H4 hj B;have eo:(ownR n i)[j]? = some (if j=i then 1 else 0):=by unfold ownR;rw [List.getElem?_map,List.getElem?_range hj];rfl
  have fin:∀(v:Int),v=(if j=i then 1 else 0)→EltK D n j (fun j H4=>AccZ K H D H4 (((ownR n i).take j).map Dat.int)) (.int v) H4:=by
   rintro v rfl;refine pushed hj ?_;refine B.Yv (.int _) (Zq (by rw [List.length_map,List.length_take];omega)) fun H5 B5=>?_
   show AccZ K H D H5 (((ownR n i).take (j+1)).map Dat.int);rw [List.take_add_one,eo,List.map_append];exact B5
  rw [Int.zero_add];walk_at "rd";refine Yi (fun e=>?_) (fun e=>?_)
  ·walk_at "rd";exact fin 1 (by rw [if_pos (by omega)])
  ·walk_at "rd";exact fin 0 (by rw [if_neg (by omega)])
 intro H4 B;rw [List.take_of_length_le (by rw [U7];exact Nat.le_refl _)] at B;exact k D H4 B
def z_(n:Nat):List (List Int):=(List.range n).map (ownR n)
theorem vM(n:Nat):(z_ n).length=n:=by unfold z_;rw [List.length_map,List.length_range]
theorem uZ{n i:Nat}(h:i < n):(z_ n)[i]? = some (ownR n i):=by unfold z_;rw [List.getElem?_map,List.getElem?_range h];rfl
def Wx(K:Fg):Sp:=fun vs H Q _=>∃n:Nat,vs=[.int (n:Int)]∧n≤100∧∀(p:Addr) (H':Hp),Acc K H p H' ((z_ n).map dL)→Q (.ref p) H'
theorem Zca{K:Fg}{vs:List V}{H:Hp}{Q:VK}{E:XK}{x:Str}(h:Wx K vs H Q E):vs.length=[x].length:=by
 obtain ⟨a,rfl,_⟩:=h;rfl
def zx(K:Fg):TS:=(tRet (Y6 (Js (Zc (tVar 0) tNil)) (ZG (Wy K) [] E0 (Zc (tVar 1) (Zc (tVar 0) tNil)))))
theorem Zdr{K:Fg}{vs:List V}{H:Hp}{Q:VK}{E:XK}{N:List Str}(hN:N.length=1)(h:Wx K vs H Q E):zx K (ends Q) (L2.start N vs) H:=by
 obtain ⟨n,rfl,hn,k⟩:=h;rw [show L2.start N [.int (n:Int)]=[some (.int (n:Int))] by unfold L2.start;rw [hN];rfl];unfold zx;walk_at "rd";rw [Int.toNat_natCast];refine YD (n:=n) fun D nD=>⟨fun j H3=>Acc K H D H3 (((z_ n).take j).map dL),by simpa using Acc.start nD,?_,?_⟩
 ·intro j H3 hj A;rw [Int.zero_add];walk_at "rd";refine ⟨n,j,rfl,hn,fun p H4 C=>?_⟩;refine pushed hj ?_;refine A.Yv C.same (d:=dL (ownR n j)) C.ref (Zq (by rw [List.length_map,List.length_take];omega)) fun H5 A5=>?_
  show Acc K H D H5 (((z_ n).take (j+1)).map dL);rw [List.take_add_one,uZ hj,List.map_append];exact A5
 ·intro H3 A;rw [List.take_of_length_le (by rw [vM];exact Nat.le_refl _)] at A;exact k D H3 A
end Rw
namespace Rw
open PySem L2 Fr G1 Sm Vs G2 Rk Sz Sf
open PySem.W (Dat kqdOk)
def Us(K:Fg):Sp:=fun vs H Q _=>∃(v:V) (n:Nat) (ws:List Str) (ts:List Tn) (t:Tn),vs=[v,.int (n:Int)]∧Rz K H v (dV ws ts)∧ts[n]? = some t∧∀z,Rz K H z (dT t)→Q z H
theorem ZaU{K:Fg}{vs:List V}{H:Hp}{Q:VK}{E:XK}{x y:Str}(h:Us K vs H Q E):vs.length=[x,y].length:=by
 obtain ⟨a,b,c,d,e,rfl,_⟩:=h;rfl
def jL(K:Fg):TS:=(tSeq (tAsg (tOp (rIxT K) (tVar 0) (tC (.int 1))) (Zn 2))
 (tSeq (tIfS (tOr (tNot (tB (ZG Jp [] E0 (Zc (tVar 1) tNil)))) (tNot (Z6 (Zbr rLe rLt (tC (.int 0)) (tVar 1) (tCB (Yh K) (Zc (tVar 2) tNil))))))
 ZeA
 Z9)
 (tRet (tOp (rIxT K) (tVar 2) (tVar 1)))))
theorem ZbD{K:Fg}{vs:List V}{H:Hp}{Q:VK}{E:XK}{N:List Str}(hN:N.length=3)(h:Us K vs H Q E):jL K (ends Q) (L2.start N vs) H:=by
 obtain ⟨v,n,ws,ts,t,rfl,rv,ht,k⟩:=h;obtain ⟨a,v1,v2,rfl,ha,_,r2⟩:=jg rv;obtain ⟨b,xs,rfl,hb,rx⟩:=r2.Yz;have lx:xs.length=ts.length:=by rw [rx.length,List.length_map]
 have ln:n < ts.length:=(List.getElem?_eq_some_iff.mp ht).1;rw [show L2.start N [.ref a,.int (n:Int)]=[some (.ref a),some (.int (n:Int)),none] by unfold L2.start;rw [hN];rfl];unfold jL;walk_at "rd";refine Z_ (SqT.of ha) (v:=.ref b) rfl ?_;walk_at "rd";refine ⟨(n:Int),rfl,?_⟩;walk_at "rd";refine Yi (fun _=>?_) (fun z=>absurd z (by omega));walk_at "rd";refine Jx (SqT.of hb) ?_;walk_at "rd";refine FT (fun z=>absurd z (by omega)) (fun _=>?_);walk_at "rd";obtain ⟨u,eu,ru⟩:=rx.get' (i:=n) (d:=dT t) (by rw [List.getElem?_map,ht];rfl);refine Z_ (SqT.of hb) (v:=u) (Yd eu) ?_;exact k u ru
def Zbu(K:Fg):Sp:=fun vs H Q _=>∃(v:V) (n:Nat) (ws:List Str) (ts:List Tn) (t:Tn),vs=[v,.int (n:Int)]∧Rz K H v (dV ws ts)∧ts[n]? = some t∧t.fr.length≤100∧∀(p:Addr) (H':Hp),Same H H'→Rz K H' (.ref p) (dI (chg t))→Q (.ref p) H'
theorem ZfM{K:Fg}{vs:List V}{H:Hp}{Q:VK}{E:XK}{x y:Str}(h:Zbu K vs H Q E):vs.length=[x,y].length:=by
 obtain ⟨a,b,c,d,e,rfl,_⟩:=h;rfl
def Ze7(K:Fg):TS:=(tSeq (tAsg (ZG (Us K) [] E0 (Zc (tVar 0) (Zc (tVar 1) tNil))) (Zn 2))
 (tRet (tCB (GJ K) (Zc (YX (iZip K .T .T (Zc (tOp (rIxT K) (tVar 2) (tC (.int 0))) (Zc (tOp (rIxT K) (tVar 2) (tC (.int 1))) tNil))) 2 (gTup K 2 (Yg (Zn 0) (Yg (Zn 1) gNil))) (tOp qSub (tVar 1) (tVar 0))) tNil))))
theorem ZgE{K:Fg}{vs:List V}{H:Hp}{Q:VK}{E:XK}{N:List Str}(hN:N.length=3)(h:Zbu K vs H Q E):Ze7 K (ends Q) (L2.start N vs) H:=by
 obtain ⟨v,n,ws,ts,t,rfl,rv,ht,hf3,k3⟩:=h;rw [show L2.start N [v,.int (n:Int)]=[some v,some (.int (n:Int)),none] by unfold L2.start;rw [hN];rfl];unfold Ze7;walk_at "rd";refine ⟨v,n,ws,ts,t,rfl,rv,ht,fun u ru=>?_⟩;obtain ⟨at_,w1,w2,w3,rfl,hat,q1,q2,_⟩:=Zeq ru;obtain ⟨b1,rfl,hb1⟩:=yK q1;obtain ⟨b2,rfl,hb2⟩:=yK q2;walk_at "rd";refine Z_ (SqT.of hat) (v:=.ref b1) rfl ?_;walk_at "rd";refine Z_ (SqT.of hat) (v:=.ref b2) rfl ?_;walk_at "rd";refine ⟨b1,b2,_,_,rfl,SqT.of hb1,SqT.of hb2,?_⟩;refine U_ (xs:=t.fr.map V.int) (ys:=t.to.map V.int) fun D nD=>?_
 have ml:min (t.fr.map V.int).length (t.to.map V.int).length=(chg t).length:=by unfold chg;rw [List.length_zipWith,List.length_map,List.length_map]
 refine ⟨fun i H2=>AccZ K H D H2 (((chg t).take i).map Dat.int),AccZ.start (Same.refl _) nD,fun i H2 _ A=>⟨SqT.of (A.same _ _ hb1),SqT.of (A.same _ _ hb2)⟩,?_,?_⟩
 ·intro i y1 y2 H2 T e1 e2 A nT us hu
  obtain ⟨u0,u1,rfl⟩:∃u0 u1,us=[u0,u1]:=by
   match us,hu with
   | [u0,u1],_=>exact ⟨u0,u1,rfl⟩
  rw [List.getElem?_map] at e1 e2;obtain ⟨m1,f1,rfl⟩:=Option.map_eq_some_iff.mp e1;obtain ⟨m2,f2,rfl⟩:=Option.map_eq_some_iff.mp e2;have ec:(chg t)[i]? = some (m2 - m1):=by unfold chg;rw [List.getElem?_zipWith,f1,f2]
  have li:i < (chg t).length:=(List.getElem?_eq_some_iff.mp ec).1;refine Y5 (SqT.of Zh) rfl ?_;walk_at "rd";refine ⟨⟨[some (.int m1),some (.int m2)],rfl,rfl⟩,?_⟩;walk_at "rd";refine pushed (by rw [ml];exact li) ?_;refine (A.on (Zi nT _)).Yv (.int (m2 - m1)) (Zq ?_) fun H4 A4=>?_
  ·rw [List.length_map,List.length_take]
   have:=(List.getElem?_eq_some_iff.mp f1).1
   omega
  ·show AccZ K H D H4 (((chg t).take (i+1)).map Dat.int);rw [List.take_add_one,ec,List.map_append];exact A4
 ·intro H2 A;rw [ml,List.take_of_length_le (Nat.le_refl _)] at A;walk_at "rd";refine jy (SqL.of (AccZ.ints A)) fun p np=>?_
  exact k3 p _ (A.same.trans (Zi np _)) (.tup Zh (RpL.ints _))
def vm(K:Fg):Sp:=fun vs H Q _=>∃(v:V) (ws:List Str) (ts:List Tn),vs=[v]∧Rz K H v (dV ws ts)∧ts.length≤100∧(∀t∈ts,t.fr.length≤100)∧∀(p:Addr) (H':Hp),AccZ K H p H' ((ts.map chg).map dI)→Q (.ref p) H'
theorem Zd1{K:Fg}{vs:List V}{H:Hp}{Q:VK}{E:XK}{x:Str}(h:vm K vs H Q E):vs.length=[x].length:=by
 obtain ⟨a,b,c,rfl,_⟩:=h;rfl
def Zbn(K:Fg):TS:=(tRet (Y6 (Js (Zc (tCB (Yh K) (Zc (tOp (rIxT K) (tVar 0) (tC (.int 1))) tNil)) tNil)) (ZG (Zbu K) [] E0 (Zc (tVar 1) (Zc (tVar 0) tNil)))))
theorem Zfj{K:Fg}{vs:List V}{H:Hp}{Q:VK}{E:XK}{N:List Str}(hN:N.length=1)(h:vm K vs H Q E):Zbn K (ends Q) (L2.start N vs) H:=by
 obtain ⟨v,ws,ts,rfl,rv,hl,hf,k⟩:=h;have rv0:=rv;obtain ⟨a,v1,v2,rfl,ha,_,r2⟩:=jg rv;obtain ⟨b,xs,rfl,hb,rx⟩:=r2.Yz;have lx:xs.length=ts.length:=by rw [rx.length,List.length_map]
 rw [show L2.start N [.ref a]=[some (.ref a)] by unfold L2.start;rw [hN];rfl];unfold Zbn;walk_at "rd";refine Z_ (SqT.of ha) (v:=.ref b) rfl ?_;walk_at "rd";refine Jx (SqT.of hb) ?_;walk_at "rd";rw [lx,Int.toNat_natCast];refine YD (n:=ts.length) fun D nD=>⟨fun j H2=>AccZ K H D H2 (((ts.take j).map chg).map dI),by simpa using AccZ.start (Same.refl _) nD,?_,?_⟩
 ·intro j H2 hj A;obtain ⟨t,ht⟩:∃t,ts[j]? = some t:=⟨_,List.getElem?_eq_getElem hj⟩
  rw [Int.zero_add];walk_at "rd";refine ⟨.ref a,j,ws,ts,t,rfl,rv0.same A.same,ht,hf t (List.mem_of_getElem? ht),fun p H3 S3 rp=>?_⟩;refine pushed hj ?_;refine (A.on S3).Yv rp (Zq (by rw [List.length_map,List.length_map,List.length_take];omega)) fun H4 A4=>?_
  show AccZ K H D H4 (((ts.take (j+1)).map chg).map dI);rw [List.take_add_one,ht,List.map_append,List.map_append];exact A4
 ·intro H2 A;rw [List.take_of_length_le (Nat.le_refl _)] at A;exact k D H2 A
structure ChOk (w:Nat) (ts:List Tn):Prop where
 le:ts.length≤8
 w5:w≤5
 fr:∀t∈ts,t.fr.length=w
 wide:Wide w (ts.map chg)
 bnd:Bnd 2 (ts.map chg)
theorem chOk{ws:List Str}{ts:List Tn}(vo:ZhZ ws ts):ChOk ws.length ts:=by
 obtain ⟨hs,po,_,tk⟩:=vo.turns;have ho:∀t∈ts,HeapOk ws.length t.fr∧HeapOk ws.length t.to:=fun t ht=>⟨po.2 _ (tk.ok t ht).1,po.2 _ (tk.ok t ht).2.1⟩
 refine ⟨tk.le,vo.w5,fun t ht=>(ho t ht).1.1,fun r hr=>?_,fun r hr c hc=>?_⟩
 ·obtain ⟨t,ht,rfl⟩:=List.mem_map.mp hr;unfold chg;rw [List.length_zipWith,(ho t ht).1.1,(ho t ht).2.1,Nat.min_self]
 ·obtain ⟨t,ht,rfl⟩:=List.mem_map.mp hr;unfold chg at hc;obtain ⟨i,hi⟩:=List.getElem?_of_mem hc;rw [List.getElem?_zipWith] at hi;cases e1:t.fr[i]? with
  | none=>rw [e1] at hi;simp at hi
  | some x =>
   cases e2:t.to[i]? with
   | none=>rw [e1,e2] at hi;simp at hi
   | some y =>
    rw [e1,e2] at hi;have hi':=Option.some.inj hi;have b1:=(ho t ht).1.2 x (List.mem_of_getElem? e1);have b2:=(ho t ht).2.2 y (List.mem_of_getElem? e2);show c.natAbs < 4;omega
end Rw
namespace Cl
open Rk Sz Sf
end Cl
namespace Mk
open Rk Sz Sf Cl
theorem ZcD{g:Int}:∀(r:List Int) (d:Int),(r.map fun x=>g*x).foldl Gd.gd (g*d)=(g.natAbs:Int)*r.foldl Gd.gd d∨(r=[]∧(r.map fun x=>g*x).foldl Gd.gd (g*d)=g*d)
 | [],d=>.inr ⟨rfl,rfl⟩
 | x :: r,d=>by
  refine .inl ?_
  have e:Gd.gd (g*d) (g*x)=(g.natAbs:Int)*Gd.gd d x:=by
   unfold Gd.gd;rw [Int.gcd_mul_left];simp
  show (r.map fun x=>g*x).foldl Gd.gd (Gd.gd (g*d) (g*x))=(g.natAbs:Int)*r.foldl Gd.gd (Gd.gd d x);rw [e]
  have abs:∀(r:List Int) (d:Int),(r.map fun x=>g*x).foldl Gd.gd ((g.natAbs:Int)*d)=(g.natAbs:Int)*r.foldl Gd.gd d:=by
   intro r
   induction r with
   | nil=>intro d;rfl
   | cons y r ih =>
    intro d
    have e:Gd.gd ((g.natAbs:Int)*d) (g*y)=(g.natAbs:Int)*Gd.gd d y:=by
     unfold Gd.gd
     have:Int.gcd ((g.natAbs:Int)*d) (g*y)=Int.gcd (g*d) (g*y):=by
      rw [Int.gcd_eq_natAbs_gcd_natAbs,Int.gcd_eq_natAbs_gcd_natAbs,Int.natAbs_mul,Int.natAbs_mul,Int.natAbs_mul];simp
     rw [this,Int.gcd_mul_left];simp
    show (r.map fun x=>g*x).foldl Gd.gd (Gd.gd ((g.natAbs:Int)*d) (g*y))=_;rw [e,ih];rfl
  exact abs r _
theorem qy:∀(r:List Int) (d:Int),0≤d→0≤r.foldl Gd.gd d
 | [],d,h=>h
 | x :: r,d,_=>qy r _ (Gd.FZ d x)
theorem ZdS{r:List Int}{i:Nat}(h:fp r=some i):gcdL (lowR r)=1∧fp (lowR r)=some i∧0 < pt (lowR r) i:=by
 obtain ⟨f1,f2,f3⟩:=yG h;have d0:=ZcM f2;have dd:=ZcN r i;have el:lowR r=r.map fun x=>x.fdiv (dvs r i):=by unfold lowR;rw [h]
 have back:r=(lowR r).map fun x=>dvs r i*x:=by
  rw [el,List.map_map]
  conv=>lhs;rw [← List.map_id r]
  refine List.map_congr_left fun x hx=>?_
  show x=dvs r i*x.fdiv (dvs r i);rw [Int.mul_fdiv_cancel' (dd x hx)]
 have ptl:∀q,dvs r i*pt (lowR r) q=pt r q:=by
  intro q;rw [el];unfold pt;rw [List.getD_eq_getElem?_getD,List.getElem?_map,List.getD_eq_getElem?_getD];cases e2:r[q]? with
  | none=>exact Int.mul_zero _
  | some c=>exact Int.mul_fdiv_cancel' (dd c (List.mem_of_getElem? e2))
 have g0:=Gn f2;have gn:0≤gcdL r:=qy r 0 (Int.le_refl _);have gp:0 < gcdL r:=by omega
 have da:((dvs r i).natAbs:Int)=gcdL r:=by unfold dvs;split <;> omega
 refine ⟨?_,?_,?_⟩
 ·have:=ZcD (g:=dvs r i) (lowR r) 0
  rw [Int.mul_zero,← back] at this;rcases this with e | ⟨e,_⟩
  ·have e':gcdL r=gcdL r*gcdL (lowR r):=by rw [da] at e;exact e
   have:gcdL r*gcdL (lowR r)=gcdL r*1:=by omega
   exact Int.eq_of_mul_eq_mul_left g0 this
  ·rw [e] at back;rw [back] at f1;simp at f1
 ·have nz:pt (lowR r) i≠0:=fun z=>f2 (by rw [← ptl i,z,Int.mul_zero])
  have l:i < (lowR r).length:=by rw [Jr];exact f1
  unfold fp;rw [List.findIdx?_eq_some_iff_getElem];refine ⟨l,?_,fun j hj=>?_⟩
  ·unfold pt at nz;rw [List.getD_eq_getElem?_getD,List.getElem?_eq_getElem l] at nz;simpa using nz
  ·have z:pt (lowR r) j=0:=by
    have:=ptl j
    rw [f3 j hj] at this;exact (Int.mul_eq_zero.mp this).resolve_left d0
   unfold pt at z;rw [List.getD_eq_getElem?_getD,List.getElem?_eq_getElem (by omega)] at z;simpa using z
 ·have e:=ptl i;unfold dvs at e;split at e
  ·rename_i ng;by_cases z:0 < pt (lowR r) i
   ·exact z
   ·have:0≤gcdL r * -pt (lowR r) i:=Int.mul_nonneg gn (by omega)
    rw [Int.mul_neg] at this;rw [Int.neg_mul] at e;omega
  ·rename_i ng;by_cases z:0 < pt (lowR r) i
   ·exact z
   ·have:0≤gcdL r * -pt (lowR r) i:=Int.mul_nonneg gn (by omega)
    rw [Int.mul_neg] at this;omega
end Mk
namespace Rw
open PySem L2 Fr G1 Sm Vs G2 Rk Sz Sf Cl
open PySem.W (Dat kqdOk)
theorem ZhX(n:Nat):(List.replicate n true).all id=true:=by
 rw [List.all_eq_true];intro x hx;rw [(List.mem_replicate.mp hx).2];rfl
def wrt(m r:List Int):Int:=(List.zipWith (· * ·) m r).sum
end Rw
namespace L2
open PySem
section
variable{K:Fg}{te:TE}{σ : St}{Q:VK}{H:Hp}
theorem uo{lo:Int}{n k:Nat}{g:TG}(h:∀D,H D=none→∃Pv:Nat→Hp→Prop,Pv 0 (upd H D (.lst []))∧(∀i H2,i < n→Pv i H2→EltG g k te σ (.int (lo+i)) H2 D n i Pv)∧∀H2,Pv n H2→Q (.ref D) H2):uF (Itr lo n) k g te σ Q H:=by
 intro D nD;obtain ⟨Pv,h0,hs,hd⟩:=h D nD;refine ⟨fun i m H=>m=n - i∧i≤n∧Pv i H,⟨n,by simp,Nat.zero_le _,h0⟩,?_⟩;rintro i m H ⟨rfl,hi,p⟩;by_cases hlt:i < n
 ·refine .inr ⟨hlt,fun v H' y us hu=>?_⟩;obtain ⟨rfl,rfl⟩:=y;exact hs i _ hlt p us hu
 ·have e:i=n:=by omega
  subst e;exact .inl ⟨Nat.le_refl _,hd H p⟩
end
end L2
namespace Rw
open PySem L2 Fr G1 Sm Vs G2 Rk Sz Sf Cl
open PySem.W (Dat kqdOk)
end Rw
namespace Rw
open PySem L2 Fr G1 Sm Vs G2 Rk Sz Sf Cl
open PySem.W (Dat kqdOk)
end Rw
namespace L2
open PySem
theorem k_while{c:TT}{tb:TS}{D:Ends}{σ : St}{H:Hp}(W:Nat→St→Hp→Prop)(m:Nat)(h0:W m σ H)(hs:∀m σ H,W m σ H→c σ H fun b H1=>if b=true then ∃N:St→Hp→Prop,(∀σ' H',N σ' H'→∃m',m' < m∧W m' σ' H')∧tb { D with nx:=N,ct:=N,bk:=D.nx } σ H1 else D.nx σ H1):Wt c tb D σ H:=⟨W,⟨m,h0⟩,hs⟩
theorem ZcX{K:Fg}{te:TE}{tc:TT}{σ : St}{Q:VK}{H:Hp}{a:Addr}{xs:List V}{n:Nat}{g:TG}(h:∀D,H D=none→∃Pv:Nat→Hp→Prop,Pv 0 (upd H D (.lst []))∧(∀i H2,i≤xs.length→Pv i H2→SqT K H2 a xs)∧(∀i x H2,xs[i]? = some x→Pv i H2→EltF g n tc te σ x H2 D xs.length i Pv)∧∀H2,Pv xs.length H2→Q (.ref D) H2):yS (Itt K a) n g tc te σ Q H:=by
 intro D nD;obtain ⟨Pv,h0,hl,hs,hd⟩:=h D nD;refine ⟨fun i m H=>m=xs.length - i∧i≤xs.length∧Pv i H,⟨_,rfl,Nat.zero_le _,h0⟩,?_⟩;rintro i m H ⟨rfl,hi,p⟩;have q:=hl i H hi p;by_cases hlt:i < xs.length
 ·refine .inr ⟨⟨xs,xs[i],q,List.getElem?_eq_getElem hlt⟩,fun v H' y us hu=>?_⟩;obtain ⟨rfl,z⟩:=y;exact hs i v _ (z xs q) p us hu
 ·have e:i=xs.length:=by omega
  subst e;exact .inl ⟨⟨xs,q,Nat.le_refl _⟩,hd H p⟩
theorem Zcw{k:Nat}:∀{S:List Nat},inV (.int (k:Int)) ((Dn.nI S).map V.int)=decide (k∈S)
 | []=>rfl
 | j :: S=>by
  have ih:=Zcw (k:=k) (S:=S);show (eqV (.int (j:Int)) (.int (k:Int)) || inV (.int (k:Int)) ((Dn.nI S).map V.int))=_;rw [ih]
  have e:eqV (.int (j:Int)) (.int (k:Int))=decide (j=k):=by
   show ((j:Int) == (k:Int))=_;by_cases h:j=k
   ·subst h;simp
   ·have : ¬ (j:Int)=k:=by omega
    simp [h,this]
  rw [e];by_cases h:j=k
  ·subst h;simp
  ·have:k≠j:=fun z=>h z.symm
   simp [h,this]
theorem kh:∀ns:List Int,(ns.map V.int).all jf=true
 | []=>rfl
 | n :: ns=>by show (true && (ns.map V.int).all jf)=true;rw [kh ns];rfl
theorem Zd9{K:Fg}{H:Hp}{Q:VK}{a:Addr}{k:Nat}{S:List Nat}(e:SqT K H a ((Dn.nI S).map V.int))(h:Q (.bl (!decide (k∈S))) H):rIn K true (.int (k:Int)) (.ref a) H Q:=by
 refine ⟨a,_,rfl,.inr e,rfl,kh _,?_⟩;show Q (.bl (!inV (.int (k:Int)) _)) H;rw [Zcw];exact h
theorem AccZ.ext{K:Fg}{H0 H:Hp}{l b:Addr}{ds es:List PySem.W.Dat}{zs:List V}(A:AccZ K H0 l H ds)(hb:H b=some (.lst zs))(rz:RzL K H zs es)(n:ds.length+es.length≤1000){Q:VK}(h:∀H2,AccZ K H0 l H2 (ds++es)→(∀{us:List V} {fs:List PySem.W.Dat},RzL K H us fs→RzL K H2 us fs)→(∀c,c≠l→H2 c=H c)→Q .non H2):j4 (.ref l) [.ref b] H Q:=by
 obtain ⟨xs,h1,h2⟩:=A.at_
 have lz:xs.length+zs.length≤sizeLine:=by
  have:=Zq n
  rw [h2.length,rz.length];omega
 refine ⟨l,b,xs,zs,rfl,rfl,h1,hb,lz,h _ ⟨fun c o q=>?_,A.new,_,L2.Zh,?_⟩ (fun r=>r.agr (Agr.Fe h1 fun w=>w)) fun c hc=>L2.ZD hc⟩
 ·rw [L2.ZD (Zz q A.new)];exact A.same c o q
 ·exact (h2.append rz).agr (Agr.Fe h1 fun w=>w)
end L2
namespace Dn
open PySem L2 Fr G1 Sm Vs G2 Rk Sz
open PySem.W (Dat kqdOk)
def dS(S:List Nat):Dat:=dI (nI S)
def Ut(K:Fg):Sp:=fun vs H Q _=>∃n:Nat,vs=[.int (n:Int)]∧n≤5∧∀(p:Addr) (H':Hp),AccZ K H p H' ((vC n).map dS)→Q (.ref p) H'
theorem ZaV{K:Fg}{vs:List V}{H:Hp}{Q:VK}{E:XK}{x:Str}(h:Ut K vs H Q E):vs.length=[x].length:=by
 obtain ⟨a,rfl,_⟩:=h;rfl
theorem Za3{K:Fg}{H:Hp}{v:V}{S:List Nat}(h:Rz K H v (dS S)):∃a:Addr,v = .ref a∧H a=some (.tup ((nI S).map V.int)):=yK h
theorem Y4(S:List Nat):(nI S).length=S.length:=List.length_map _
theorem Fp{S:List Nat}{i:Nat}{x:V}(h:((nI S).map V.int)[i]? = some x):∃k,S[i]? = some k∧x = .int (k:Int):=by
 unfold nI at h;rw [List.getElem?_map,List.getElem?_map] at h;cases e:S[i]? with
 | none=>rw [e] at h;cases h
 | some k=>rw [e] at h;cases h;exact ⟨k,rfl,rfl⟩
theorem Zda{S:List Nat}(h:S≠[]):atI ((nI S).map V.int) (-1)=some (.int ((S.getLastD 0:Nat):Int)):=by
 have e:S.dropLast++[S.getLastD 0]=S:=by
  rw [List.getLastD_eq_getLast?,List.getLast?_eq_some_getLast h];exact List.dropLast_concat_getLast h
 have e2:(nI S).map V.int=(nI S.dropLast).map V.int++[V.int ((S.getLastD 0:Nat):Int)]:=by
  conv=>lhs;rw [← e]
  unfold nI;rw [List.map_append,List.map_append];rfl
 rw [e2];exact L2.Wf _ _
def jM(K:Fg):TS:=(tSeq (tAsg (tLst tNil) (Zn 1))
 (tSeq (tAsg (Y6 (Js (Zc (tVar 0) tNil)) (tTup (Zc (tVar 0) tNil))) (Zn 2))
 (tSeq (Wt (Z6 (tOp rGt (tCB (Yh K) (Zc (tVar 2) tNil)) (tC (.int 0))))
 (tSeq (YT (tBM K "list" j4 (tVar 1) (Zc (tVar 2) tNil)))
 (tSeq (tAsg (tLst tNil) (Zn 3))
 (tSeq (tFor (U9 K (tVar 2)) (Zn 4)
 (YT (tBM K "list" j4 (tVar 3) (Zc (Y6 (Zea (Zc (tOp qAdd (tOp (rIxT K) (tVar 4) (tUn (rU fun i=>.int (-i)) (tC (.int 1)))) (tC (.int 1))) (Zc (tVar 0) tNil))) (tOp (ZgH K) (tVar 5) (tTup (Zc (tVar 0) tNil)))) tNil))))
 (tAsg (tVar 3) (Zn 2))))))
 (tRet (tVar 1)))))
theorem ZbE{K:Fg}{vs:List V}{H:Hp}{Q:VK}{E:XK}{N:List Str}(hN:N.length=5)(h:Ut K vs H Q E):jM K (ends Q) (L2.start N vs) H:=by
 obtain ⟨n,rfl,hn,k⟩:=h;rw [show L2.start N [.int (n:Int)]=[some (.int (n:Int)),none,none,none,none] by unfold L2.start;rw [hN];rfl];have n6:n < 6:=by omega
 unfold jM;walk_at "rd";refine ⟨by decide,fun T nT=>?_⟩;have AT:AccZ K H T (upd H T (.lst [])) (([]:List (List Nat)).map dS):=AccZ.start (Same.refl _) nT;have hT0:upd H T (.lst []) T=some (.lst []):=Zh;generalize upd H T (.lst [])=H0 at AT hT0 ⊢;walk_at "rd";rw [Int.toNat_natCast];refine YD (n:=n) fun L nL=>⟨fun j H2=>AccZ K H0 L H2 (((lvl n 0).take j).map dS),by simpa using AccZ.start (Same.refl _) nL,?_,?_⟩
 ·intro j H2 hj A;have e0:(lvl n 0)[j]? = some [j]:=by show ((List.range n).map _)[j]? = _;rw [List.getElem?_map,List.getElem?_range hj];rfl
  rw [Int.zero_add];walk_at "rd";refine ⟨by show 1≤sizeLine;decide,fun p np=>?_⟩;refine pushed hj ?_;refine (A.on (Zi np _)).Yv (d:=dS [j]) (.tup Zh (RpL.ints (nI [j]))) (Zq (by rw [List.length_map,List.length_take];omega)) fun H3 A3=>?_
  show AccZ K H0 L H3 (((lvl n 0).take (j+1)).map dS);rw [List.take_add_one,e0,List.map_append];exact A3
 intro H2 A;rw [List.take_of_length_le (by show ((List.range n).map _).length≤n;rw [List.length_map,List.length_range];exact Nat.le_refl _)] at A;walk_at "rd";have neTL:T≠L:=Zz hT0 nL;refine k_while (fun m σ H3=>∃(i:Nat) (L:Addr) (u3 u4:Option V),m=n - i∧i≤n∧σ = [some (.int (n:Int)),some (.ref T),some (.ref L),u3,u4]∧T≠L∧AccZ K H T H3 ((tld n i).map dS)∧AccZ K H L H3 ((lvl n i).map dS)) n ⟨0,L,none,none,rfl,Nat.zero_le _,rfl,neTL,AT.on A.same,⟨AT.same.trans A.same,AT.same.free A.new,A.at_⟩⟩ ?_;clear A neTL nL L AT hT0 nT;rintro m σ H3 ⟨i,L,u3,u4,rfl,hi,rfl,neTL,AT,AL⟩;obtain ⟨zs,hz,rz⟩:=AL.at_;have lz:zs.length=(lvl n i).length:=by rw [rz.length,List.length_map]
 walk_at "rd";refine Yu (SqL.of hz) ?_;walk_at "rd";refine Yi (fun c=>?_) (fun c=>?_)
 ·have li:i < n:=by
   rcases Nat.lt_or_ge i n with l | l
   ·exact l
   ·have e:i=n:=by omega
    subst e;rw [ZfF i n6] at lz;rw [lz] at c;exact absurd c (by decide)
  obtain ⟨l1,l2⟩:=gK n n6 i (by omega);refine ⟨fun σ H4=>∃(L:Addr) (u3 u4:Option V),σ = [some (.int (n:Int)),some (.ref T),some (.ref L),u3,u4]∧T≠L∧AccZ K H T H4 ((tld n (i+1)).map dS)∧AccZ K H L H4 ((lvl n (i+1)).map dS),fun σ' H' ⟨L,u3,u4,e,q⟩=>⟨n - (i+1),by omega,i+1,L,u3,u4,rfl,by omega,e,q⟩,?_⟩;walk_at "rd";refine ⟨AT.ty,?_⟩;walk_at "rd";refine AT.ext hz rz (by rw [List.length_map,List.length_map];omega) fun H4 AT4 keep oth=>?_
  have AT4':AccZ K H T H4 ((tld n (i+1)).map dS):=by
   show AccZ K H T H4 ((tld n i++lvl n i).map dS);rw [List.map_append];exact AT4
  have hz4:H4 L=some (.lst zs):=by rw [oth L neTL.symm];exact hz
  have nL:=AL.new;have rz4:RzL K H4 zs ((lvl n i).map dS):=keep rz;clear AT4 AT AL oth keep hz rz;walk_at "rd";refine ⟨by decide,fun G nG=>?_⟩;have SG:=Zi nG (.lst []);have AT5:=AT4'.on SG
  have neTG:T≠G:=by
   obtain ⟨_,q,_⟩:=AT4'.at_;exact Zz q nG
  have neLG:L≠G:=Zz hz4 nG;have AG:AccZ K H G (upd H4 G (.lst [])) ((((lvl n i).take 0).flatMap (nxt1 n)).map dS):=⟨AT5.same,AT4'.same.free nG,[],Zh,.nil⟩
  have hz5:=SG _ _ hz4;have rz5:=rz4.same SG;generalize upd H4 G (.lst [])=H5 at SG AT5 AG hz5 rz5 ⊢;walk_at "rd";refine Zd7 (SqL.of hz5) ?_;refine Wa (xs:=zs) (fun j σ H6=>∃u4:Option V,σ = [some (.int (n:Int)),some (.ref T),some (.ref L),some (.ref G),u4]∧AccZ K H T H6 ((tld n (i+1)).map dS)∧H6 L=some (.lst zs)∧RzL K H6 zs ((lvl n i).map dS)∧AccZ K H G H6 ((((lvl n i).take j).flatMap (nxt1 n)).map dS)) ⟨_,rfl,AT5,hz5,rz5,AG⟩ (fun j σ H6 _ ⟨_,_,_,h,_⟩=>SqL.of h) ?_ ?_
  ·clear AT5 hz5 rz5 AG SG AT4' hz4 rz4;rintro j x σ H6 hx ⟨u4,rfl,AT,hz,rz,AG⟩;obtain ⟨d,g1,g2⟩:=rz.get hx;rw [List.getElem?_map] at g1;obtain ⟨S,hS,rfl⟩:=Option.map_eq_some_iff.mp g1;obtain ⟨b0,rfl,hb0⟩:=Za3 g2;have Sin:=List.mem_of_getElem? hS;obtain ⟨S1,S2,S3⟩:=Zg9 n n6 i (by omega) S Sin;have S4:=ZdP n n6 i (by omega) S Sin;walk_at "rd";refine ⟨AG.ty,?_⟩;walk_at "rd";refine Z_ (SqT.of hb0) (Zda S1) ?_;walk_at "rd"
   have lastn:S.getLastD 0 < n:=by
    obtain ⟨y,ys,rfl⟩:=List.exists_cons_of_ne_nil S1;exact S3 _ (by rw [List.getLastD_eq_getLast?,List.getLast?_eq_some_getLast S1];exact List.getLast_mem S1)
   refine Zie ⟨by omega,by omega,by omega,by omega⟩ ?_;rw [show ((n:Int) - (((S.getLastD 0:Nat):Int)+1)).toNat=n - (S.getLastD 0+1) by omega];refine YD (n:=n - (S.getLastD 0+1)) fun C nC=>⟨fun m H7=>AccZ K H6 C H7 (((nxt1 n S).take m).map dS),by simpa using AccZ.start (Same.refl _) nC,?_,?_⟩
   ·intro m H7 hm AC;have e0:(nxt1 n S)[m]? = some (S++[S.getLastD 0+1+m]):=by unfold nxt1;rw [List.getElem?_map,List.getElem?_range hm];rfl
    have ev:(((S.getLastD 0:Nat):Int)+1+(m:Int))=((S.getLastD 0+1+m:Nat):Int):=by omega
    rw [ev];walk_at "rd";refine ⟨by show 1≤sizeLine;decide,fun p np=>?_⟩;have Sp:=Zi np (.tup [.int ((S.getLastD 0+1+m:Nat):Int)]);have hp:upd H7 p (.tup [.int ((S.getLastD 0+1+m:Nat):Int)]) p=some (.tup [.int ((S.getLastD 0+1+m:Nat):Int)]):=Zh;have AC2:=AC.on Sp;generalize upd H7 p (.tup [.int ((S.getLastD 0+1+m:Nat):Int)])=H8 at Sp hp AC2 ⊢;refine ⟨b0,p,_,_,rfl,rfl,SqT.of (AC2.same _ _ hb0),SqT.of hp,?_,?_,fun z=>(List.cons_ne_nil _ _ z).elim,fun _ q nq=>?_⟩
    ·intro z;apply S1
     have:=congrArg List.length z
     rw [List.length_map,Y4] at this;exact List.length_eq_zero_iff.mp this
    ·have:=Zq (n:=S.length+1) (by omega)
     rw [List.length_map,Y4];show S.length+1≤sizeLine;omega
    ·refine pushed hm ?_;refine (AC2.on (Zi nq _)).Yv (d:=dS (S++[S.getLastD 0+1+m])) ?_ (Zq (by rw [List.length_map,List.length_take];omega)) fun H9 A9=>?_
     ·have e:(nI S).map V.int++[.int ((S.getLastD 0+1+m:Nat):Int)]=(nI (S++[S.getLastD 0+1+m])).map V.int:=by
       unfold nI;rw [List.map_append,List.map_append];rfl
      rw [e];exact .tup Zh (RpL.ints _)
     ·show AccZ K H6 C H9 (((nxt1 n S).take (m+1)).map dS);rw [List.take_add_one,e0,List.map_append];exact A9
   ·intro H7 AC;rw [List.take_of_length_le (by unfold nxt1;rw [List.length_map,List.length_range];exact Nat.le_refl _)] at AC;obtain ⟨cs,hc,rc⟩:=AC.at_;have AG7:=AG.on AC.same;have AT7:=AT.on AC.same;have hz7:=AC.same _ _ hz;have rz7:=rz.same AC.same
    have fl:((lvl n i).take (j+1)).flatMap (nxt1 n)=((lvl n i).take j).flatMap (nxt1 n)++nxt1 n S:=by
     rw [List.take_add_one,hS,List.flatMap_append];simp
    have len5:(((lvl n i).take (j+1)).flatMap (nxt1 n)).length≤10:=by
     have h1:=(gK n n6 (i+1) (by omega)).1
     have h2:((lvl n i).take (j+1)).flatMap (nxt1 n)++((lvl n i).drop (j+1)).flatMap (nxt1 n)=lvl n (i+1):=by
      rw [← List.flatMap_append,List.take_append_drop];rfl
     rw [← h2,List.length_append] at h1;omega
    walk_at "rd";refine AG7.ext hc rc ?_ fun H8 A8 keep oth=>?_
    ·rw [fl,List.length_append] at len5;rw [List.length_map,List.length_map];omega
    ·obtain ⟨ys,hy,ry⟩:=AT7.at_;refine ⟨_,rfl,⟨A8.same,AT7.new,ys,by rw [oth T neTG];exact hy,keep ry⟩,by rw [oth L neLG];exact hz7,keep rz7,?_⟩;rw [fl,List.map_append];exact A8
  ·rintro σ H6 ⟨u4,rfl,AT,hz,rz,AG⟩;rw [List.take_of_length_le (by omega)] at AG;walk_at "rd";exact ⟨G,_,_,rfl,neTG,AT,AG⟩
 ·have e:i=n:=by
   rcases Nat.lt_or_ge i n with l | l
   ·have:=List.length_pos_iff.mpr (Zg8 n n6 i l)
    exact absurd (show (0:Int) < (zs.length:Nat) by omega) c
   ·omega
  subst e;walk_at "rd";exact k T H3 AT
def Ji(K:Fg):Sp:=fun vs H Q _=>∃(v w:V) (h:List Int) (S:List Nat),vs=[v,w]∧Rz K H v (dI h)∧Rz K H w (dS S)∧(∀k∈S,k < h.length)∧S.length≤100∧∀H',Same H H'→Q (.bl (hs h S)) H'
theorem gW{K:Fg}{vs:List V}{H:Hp}{Q:VK}{E:XK}{x y:Str}(h:Ji K vs H Q E):vs.length=[x,y].length:=by
 obtain ⟨a,b,c,d,rfl,_⟩:=h;rfl
theorem any_map{α : Type}(f : α→Bool)(l:List α):(l.map f).any id=l.any f:=by rw [List.any_map];rfl
theorem all_map{α : Type}(f : α→Bool)(l:List α):(l.map f).all id=l.all f:=by rw [List.all_map];rfl
def Wr(K:Fg):TS:=(tRet (tCB (rAny K) (Zc (Y6 (iTup K (tVar 1)) (tOp rGt (tOp (rIxT K) (tVar 1) (tVar 0)) (tC (.int 0)))) tNil)))
theorem ZaK{K:Fg}{vs:List V}{H:Hp}{Q:VK}{E:XK}{N:List Str}(hN:N.length=2)(h:Ji K vs H Q E):Wr K (ends Q) (L2.start N vs) H:=by
 obtain ⟨v,w,h,S,rfl,rv,rw_,hS,hl,k⟩:=h;obtain ⟨a,rfl,ha⟩:=yK rv;obtain ⟨b,rfl,hb⟩:=Za3 rw_;rw [show L2.start N [.ref a,.ref b]=[some (.ref a),some (.ref b)] by unfold L2.start;rw [hN];rfl];unfold Wr;walk_at "rd";refine Zcq (SqT.of hb) ?_;have lS:((nI S).map V.int).length=S.length:=by rw [List.length_map,Y4]
 refine J2 (xs:=(nI S).map V.int) fun D nD=>⟨fun j H2=>AccZ K H D H2 (((S.take j).map fun k=>decide (0 < pt h k)).map Dat.bool),by simpa using AccZ.start (Same.refl _) nD,fun j H2 _ A=>SqT.of (A.same _ _ hb),?_,?_⟩
 ·intro j x H2 hx A;have lj:=(List.getElem?_eq_some_iff.mp hx).1;obtain ⟨m,hm,rfl⟩:=Fp hx;walk_at "rd";refine Z_ (SqT.of (A.same _ _ ha)) (qK (hS m (List.mem_of_getElem? hm))) ?_;walk_at "rd";refine pushed lj ?_;refine A.Yv (d:=.bool (decide (0 < pt h m))) (.bl _) (Zq (by rw [List.length_map,List.length_map,List.length_take];omega)) fun H3 A3=>?_
  show AccZ K H D H3 (((S.take (j+1)).map fun k=>decide (0 < pt h k)).map Dat.bool);rw [List.take_add_one,hm,List.map_append,List.map_append];exact A3
 ·intro H2 A;rw [lS,List.take_of_length_le (Nat.le_refl _)] at A;walk_at "rd";refine Ziv A.bls ?_;rw [any_map];exact k H2 A.same
def pr(t:Tn):Tp:=(t.fr,t.to)
def JG(K:Fg):Sp:=fun vs H Q _=>∃(v w:V) (ws:List Str) (ts:List Tn) (S:List Nat),vs=[v,w]∧Rz K H v (dV ws ts)∧Rz K H w (dS S)∧(∀t∈ts,∀k∈S,k < t.fr.length∧k < t.to.length)∧S.length≤100∧ts.length≤100∧∀H',Same H H'→Q (.bl (isD (ts.map pr) S)) H'
theorem gU{K:Fg}{vs:List V}{H:Hp}{Q:VK}{E:XK}{x y:Str}(h:JG K vs H Q E):vs.length=[x,y].length:=by
 obtain ⟨a,b,c,d,e,rfl,_⟩:=h;rfl
def Wo(K:Fg):TS:=(tRet (tCB (rAll K) (Zc (Y6 (iTup K (tOp (rIxT K) (tVar 0) (tC (.int 1)))) (tOrV (ZG (Ji K) [] E0 (Zc (tOp (rIxT K) (tVar 0) (tC (.int 0))) (Zc (tVar 2) tNil))) (Zdm (ZG (Ji K) [] E0 (Zc (tOp (rIxT K) (tVar 0) (tC (.int 1))) (Zc (tVar 2) tNil)))))) tNil)))
theorem ZaJ{K:Fg}{vs:List V}{H:Hp}{Q:VK}{E:XK}{N:List Str}(hN:N.length=2)(h:JG K vs H Q E):Wo K (ends Q) (L2.start N vs) H:=by
 obtain ⟨v,w,ws,ts,S,rfl,rv,rw_,hS,hl,ht,k⟩:=h;obtain ⟨a,v1,v2,rfl,ha,_,r2⟩:=jg rv;obtain ⟨b,xs,rfl,hb,rx⟩:=r2.Yz;have lx:xs.length=ts.length:=by rw [rx.length,List.length_map]
 rw [show L2.start N [.ref a,w]=[some (.ref a),some w] by unfold L2.start;rw [hN];rfl];unfold Wo;walk_at "rd";refine Z_ (SqT.of ha) (v:=.ref b) rfl ?_;refine Zcq (SqT.of hb) ?_;refine J2 (xs:=xs) fun D nD=>⟨fun j H2=>AccZ K H D H2 (((ts.take j).map fun t=>hs t.fr S || !hs t.to S).map Dat.bool),by simpa using AccZ.start (Same.refl _) nD,fun j H2 _ A=>SqT.of (A.same _ _ hb),?_,?_⟩
 ·intro j x H2 hx A;have lj:=(List.getElem?_eq_some_iff.mp hx).1;obtain ⟨d,g1,g2⟩:=rx.get hx;rw [List.getElem?_map] at g1;obtain ⟨t,htj,rfl⟩:=Option.map_eq_some_iff.mp g1;obtain ⟨c,w1,w2,w3,rfl,hc,q1,q2,_⟩:=Zeq g2;have hk:=hS t (List.mem_of_getElem? htj)
  have fin:∀(H3:Hp) (bb:Bool),Same H2 H3→bb=(hs t.fr S || !hs t.to S)→EltK D xs.length j (fun j H2=>AccZ K H D H2 (((ts.take j).map fun t=>hs t.fr S || !hs t.to S).map Dat.bool)) (.bl bb) H3:=by
   rintro H3 bb S3 rfl;refine pushed lj ?_;refine (A.on S3).Yv (d:=.bool (hs t.fr S || !hs t.to S)) (.bl _) (Zq (by rw [List.length_map,List.length_map,List.length_take];omega)) fun H4 A4=>?_
   show AccZ K H D H4 (((ts.take (j+1)).map fun t=>hs t.fr S || !hs t.to S).map Dat.bool);rw [List.take_add_one,htj,List.map_append,List.map_append];exact A4
  walk_at "rd";refine Z_ (SqT.of (A.same _ _ hc)) (v:=w1) rfl ?_;walk_at "rd";refine ⟨w1,w,t.fr,S,rfl,q1.same A.same,rw_.same A.same,fun k h=>(hk k h).1,hl,fun H3 S3=>?_⟩;walk_at "rd";cases e1:hs t.fr S with
  | true =>
   walk_at "rd";exact fin H3 true S3 (by rw [e1];rfl)
  | false =>
   walk_at "rd";refine Z_ (SqT.of ((A.on S3).same _ _ hc)) (v:=w2) rfl ?_;walk_at "rd";refine ⟨w2,w,t.to,S,rfl,q2.same (A.on S3).same,rw_.same (A.on S3).same,fun k h=>(hk k h).2,hl,fun H4 S4=>?_⟩;walk_at "rd";exact fin H4 _ (S3.trans S4) (by rw [e1];rfl)
 ·intro H2 A;rw [lx,List.take_of_length_le (Nat.le_refl _)] at A;walk_at "rd";refine k_all A.bls ?_;rw [all_map]
  have:=k H2 A.same
  unfold isD at this;rw [List.all_map] at this;exact this
end Dn
namespace L2
open PySem
theorem qH{te:TE}{tc:TT}{σ : St}{Q:VK}{H:Hp}{lo:Int}{n k:Nat}{g:TG}(h:∀D,H D=none→∃Pv:Nat→Hp→Prop,Pv 0 (upd H D (.lst []))∧(∀i H2,i < n→Pv i H2→EltF g k tc te σ (.int (lo+i)) H2 D n i Pv)∧∀H2,Pv n H2→Q (.ref D) H2):yS (Itr lo n) k g tc te σ Q H:=by
 intro D nD;obtain ⟨Pv,h0,hs,hd⟩:=h D nD;refine ⟨fun i m H=>m=n - i∧i≤n∧Pv i H,⟨n,by simp,Nat.zero_le _,h0⟩,?_⟩;rintro i m H ⟨rfl,hi,p⟩;by_cases hlt:i < n
 ·refine .inr ⟨hlt,fun v H' y us hu=>?_⟩;obtain ⟨rfl,rfl⟩:=y;exact hs i _ hlt p us hu
 ·have e:i=n:=by omega
  subst e;exact .inl ⟨Nat.le_refl _,hd H p⟩
end L2
namespace Dn
open PySem L2 Fr G1 Sm Vs G2 Rk Sz
open PySem.W (Dat kqdOk kas_sort)
def Y_(n b:Nat):List Nat:=(List.range n).filter fun k=>b / 2 ^ k % 2 == 1
def J5(n sz j:Nat):List (List Nat):=((List.range j).map (Y_ n)).filter fun S=>S.length == sz
def someR(n sz:Nat):List (List Nat):=J5 n sz (2 ^ n)
def Zfu(n sz:Nat):Option (Array Nat):=runT (fun i j=>lxx (((someR n sz).map nI).getD i []) (((someR n sz).map nI).getD j [])) (someR n sz).length (kas_sort (someR n sz).length)
def ZeI(n sz:Nat):Bool:=match Zfu n (sz+1) with
 | some p=>p.size == (someR n (sz+1)).length && p.toList.all (fun i=>decide (i < (someR n (sz+1)).length)) && (p.toList.map fun i=>(someR n (sz+1)).getD i []) == lvl n sz
 | none=>false
theorem Zfs:∀n < 6,∀sz < n,ZeI n sz=true:=by decide +kernel
theorem Zdn:∀n < 6,∀sz < n,1≤(someR n (sz+1)).length∧(someR n (sz+1)).length < 64:=by decide +kernel
theorem Zft{n sz:Nat}(hn:n < 6)(hs:sz < n):∃p,Zfu n (sz+1)=some p∧p.size=(someR n (sz+1)).length∧(∀i∈p.toList,i < (someR n (sz+1)).length)∧(p.toList.map fun i=>(someR n (sz+1)).getD i [])=lvl n sz:=by
 have h:=Zfs n hn sz hs;unfold ZeI at h;cases e:Zfu n (sz+1) with
 | none=>rw [e] at h;cases h
 | some p =>
  rw [e] at h;simp only [Bool.and_eq_true,beq_iff_eq,List.all_eq_true,decide_eq_true_eq] at h;exact ⟨p,rfl,h.1.1,h.1.2,h.2⟩
theorem Zbw{n sz j:Nat}:∀S∈J5 n (sz+1) j,S≠[]:=fun S hS=>by
 unfold J5 at hS
 have:=(List.mem_filter.mp hS).2
 rintro rfl;simp at this
theorem ZaD(n sz j:Nat):(J5 n sz j).length≤j:=by
 unfold J5;exact Nat.le_trans (List.length_filter_le _ _) (by rw [List.length_map,List.length_range];exact Nat.le_refl _)
theorem zU(n sz j:Nat):J5 n sz (j+1)=J5 n sz j++(if (Y_ n j).length=sz then [Y_ n j] else []):=by
 unfold J5;rw [List.range_succ,List.map_append,List.filter_append];congr 1;by_cases h:(Y_ n j).length=sz
 ·rw [if_pos h];show [Y_ n j].filter _=_;rw [List.filter_cons_of_pos (by simpa using h)];rfl
 ·rw [if_neg h];show [Y_ n j].filter _=_;rw [List.filter_cons_of_neg (by simpa using h)];rfl
theorem ZhU:∀b < 32,∀k < 5,(Builtin.bitAnd (((b:Nat):Int) / 2 ^ k) 1=1↔b / 2 ^ k % 2=1):=by decide +kernel
theorem RpL.pick{K:Fg}{S:Addr→Prop}{H:Hp}{vs:List V}{L:List (List Nat)}(r:RpL K S H vs (L.map dS)):∀(p:List Nat),(∀i∈p,i < vs.length)→RpL K S H (p.map fun i=>vs.getD i .non) ((p.map fun i=>L.getD i []).map dS)
 | [],_=>.nil
 | i :: p,h=>by
  refine .cons ?_ (RpL.pick r p fun j hj=>h j (List.mem_cons_of_mem _ hj));have li:=h i List.mem_cons_self;obtain ⟨d,g1,g2⟩:=r.get (List.getElem?_eq_getElem li);rw [List.getElem?_map] at g1;obtain ⟨M,hM,rfl⟩:=Option.map_eq_some_iff.mp g1;show Rp K S H (vs.getD i .non) (dS (L.getD i []));rw [List.getD_eq_getElem?_getD,List.getElem?_eq_getElem li,List.getD_eq_getElem?_getD,hM];exact g2
def WQ(K:Fg):Sp:=fun vs H Q _=>∃n:Nat,vs=[.int (n:Int)]∧n≤5∧∀(p:Addr) (H':Hp),AccZ K H p H' ((vC n).map dS)→Q (.ref p) H'
theorem Zch{K:Fg}{vs:List V}{H:Hp}{Q:VK}{E:XK}{x:Str}(h:WQ K vs H Q E):vs.length=[x].length:=by
 obtain ⟨a,rfl,_⟩:=h;rfl
def zH(K:Fg):TS:=(tSeq (tAsg (tLst tNil) (Zn 1))
 (tSeq (tFor (Zea (Zc (tC (.int 1)) (Zc (tOp qAdd (tVar 0) (tC (.int 1))) tNil))) (Zn 2)
 (tSeq (tAsg (tLst tNil) (Zn 3))
 (tSeq (tFor (Js (Zc (tOp (rI CPow fun i j=>.int (i*2 ^ j.toNat)) (tC (.int 1)) (tVar 0)) tNil)) (Zn 4)
 (tSeq (tAsg (tCB (GJ K) (Zc (Gr (Js (Zc (tVar 0) tNil)) 1 (Zn 0) (Z6 (tOp rEq (tOp (rI0 fun i j=>.int (Builtin.bitAnd i j)) (tOp (rI (fun _ j=>0≤j) fun i j=>.int (i / 2 ^ j.toNat)) (tVar 5) (tVar 0)) (tC (.int 1))) (tC (.int 1)))) (tVar 0)) tNil)) (Zn 5))
 (tIfS (Z6 (tOp rEq (tCB (Yh K) (Zc (tVar 5) tNil)) (tVar 2)))
 (YT (tBM K "list" Z5 (tVar 3) (Zc (tVar 5) tNil)))
 Z9)))
 (tAsg (tOp rCat (tVar 1) (tCB (ZeF K) (Zc (tVar 3) tNil))) (Zn 1)))))
 (tRet (tVar 1))))
theorem Zdy{K:Fg}{vs:List V}{H:Hp}{Q:VK}{E:XK}{N:List Str}(hN:N.length=6)(h:WQ K vs H Q E):zH K (ends Q) (L2.start N vs) H:=by
 obtain ⟨n,rfl,hn,k⟩:=h;rw [show L2.start N [.int (n:Int)]=[some (.int (n:Int)),none,none,none,none,none] by unfold L2.start;rw [hN];rfl];have n6:n < 6:=by omega
 unfold zH;walk_at "rd";refine ⟨by decide,fun F0 nF0=>?_⟩;have AF0:AccZ K H F0 (upd H F0 (.lst [])) ((tld n 0).map dS):=AccZ.start (Same.refl _) nF0;generalize upd H F0 (.lst [])=H0 at AF0 ⊢;walk_at "rd";refine Zid ⟨by decide,by decide,by omega,by omega⟩ ?_;rw [show ((n:Int)+1 - 1).toNat=n by omega];refine YK (fun i σ H2=>∃(F:Addr) (u2 u3 u4 u5:Option V),σ = [some (.int (n:Int)),some (.ref F),u2,u3,u4,u5]∧AccZ K H F H2 ((tld n i).map dS)) ⟨F0,none,none,none,none,rfl,AF0⟩ ?_ ?_
 ·clear AF0 nF0 F0;rintro i σ H2 hi ⟨F,u2,u3,u4,u5,rfl,AF⟩;walk_at "rd";refine ⟨by decide,fun G nG=>?_⟩;have SG:=Zi nG (.lst [])
  have neFG:F≠G:=by
   obtain ⟨_,q,_⟩:=AF.at_;exact Zz q nG
  have AF1:=AF.on SG;have AG:AccZ K H G (upd H2 G (.lst [])) ((J5 n (i+1) 0).map dS):=⟨AF1.same,AF.same.free nG,[],Zh,.nil⟩
  generalize upd H2 G (.lst [])=H3 at AF1 AG ⊢;clear SG AF nG;walk_at "rd";refine k_rI ⟨by omega,by omega,by decide⟩ ?_;walk_at "rd";have p32:2 ^ n≤2 ^ 5:=Nat.pow_le_pow_right (by decide) hn
  have ep:(1:Int)*2 ^ ((n:Int)).toNat=((2 ^ n:Nat):Int):=by
   rw [Int.one_mul,Int.toNat_natCast]
   push_cast
   rfl
  have q32:((2 ^ n:Nat):Int)≤32:=by omega
  have q0:(0:Int)≤((2 ^ n:Nat):Int):=Int.natCast_nonneg _;refine ⟨((2 ^ n:Nat):Int),by rw [ep],Int.le_trans (by decide) q0,Int.lt_of_le_of_lt q32 (by decide),?_⟩;rw [Int.toNat_natCast];refine YK (fun j σ H4=>∃u4 u5:Option V,σ = [some (.int (n:Int)),some (.ref F),some (.int (1+(i:Int))),some (.ref G),u4,u5]∧AccZ K H F H4 ((tld n i).map dS)∧AccZ K H G H4 ((J5 n (i+1) j).map dS)) ⟨_,_,rfl,AF1,AG⟩ ?_ ?_
  ·clear AF1 AG;rintro j σ H4 hj ⟨u4,u5,rfl,AF,AG⟩;have j32:j < 32:=by omega
   walk_at "rd";refine ⟨_,rfl,by omega,by omega,?_⟩;rw [Int.toNat_natCast];refine qH (n:=n) fun D nD=>⟨fun m H5=>AccZ K H4 D H5 ((nI (((List.range m)).filter fun k=>j / 2 ^ k % 2 == 1)).map Dat.int),by simpa [nI] using AccZ.start (Same.refl _) nD,?_,?_⟩
   ·intro m H5 hm A us hu;obtain ⟨u0,rfl⟩:∃u,us=[u]:=List.length_eq_one_iff.mp hu;rw [Int.zero_add];walk_at "rd";refine ⟨⟨[some (.int (m:Int))],rfl,rfl⟩,?_⟩;walk_at "rd";refine k_rI (by omega) ?_;walk_at "rd"
    have eb:Builtin.bitAnd ((0+(j:Int)) / 2 ^ ((m:Int)).toNat) 1=1↔j / 2 ^ m % 2=1:=by
     rw [Int.zero_add,Int.toNat_natCast];exact ZhU j j32 m (by omega)
    have lf:((List.range m).filter fun k=>j / 2 ^ k % 2 == 1).length≤m:=Nat.le_trans (List.length_filter_le _ _) (by rw [List.length_range];exact Nat.le_refl _);have er:((List.range (m+1)).filter fun k=>j / 2 ^ k % 2 == 1)=((List.range m).filter fun k=>j / 2 ^ k % 2 == 1)++[m].filter fun k=>j / 2 ^ k % 2 == 1:=by rw [List.range_succ,List.filter_append]
    refine Yi (fun c=>?_) (fun c=>?_)
    ·walk_at "rd";refine pushed hm ?_;refine A.Yv (.int (m:Int)) (Zq (by rw [List.length_map,Y4];omega)) fun H6 A6=>?_
     show AccZ K H4 D H6 ((nI ((List.range (m+1)).filter fun k=>j / 2 ^ k % 2 == 1)).map Dat.int);rw [er,List.filter_cons_of_pos (by simpa using eb.mp c)];unfold nI at A6 ⊢;rw [List.map_append,List.map_append];exact A6
    ·refine skipped hm ?_;show AccZ K H4 D H5 ((nI ((List.range (m+1)).filter fun k=>j / 2 ^ k % 2 == 1)).map Dat.int);rw [er,List.filter_cons_of_neg (by simpa using fun z=>c (eb.mpr z))];simpa using A
   ·intro H5 A;have hD:H5 D=some (.lst ((nI (Y_ n j)).map V.int)):=AccZ.ints A;have AF5:=AF.on A.same;have AG5:=AG.on A.same;walk_at "rd";refine jy (SqL.of hD) fun p np=>?_
    have Sp:=Zi np (.tup ((nI (Y_ n j)).map V.int));have hp:upd H5 p (.tup ((nI (Y_ n j)).map V.int)) p=some (.tup ((nI (Y_ n j)).map V.int)):=Zh;have AF6:=AF5.on Sp;have AG6:=AG5.on Sp;generalize upd H5 p (.tup ((nI (Y_ n j)).map V.int))=H6 at Sp hp AF6 AG6 ⊢;walk_at "rd";refine Jx (SqT.of hp) ?_;rw [List.length_map,Y4];walk_at "rd";rw [zU];refine Yi (fun c=>?_) (fun c=>?_)
    ·rw [if_pos (show (Y_ n j).length=i+1 by omega)];walk_at "rd";refine ⟨AG6.ty,?_⟩;walk_at "rd";refine U8 AG6 (d:=dS (Y_ n j)) (.tup hp (RpL.ints _)) (Zq (by rw [List.length_map];have:=ZaD n (i+1) j;omega)) fun H7 A7 _ _ oth=>?_
     refine ⟨_,_,rfl,oth neFG AF6,?_⟩;rw [List.map_append];exact A7
    ·rw [if_neg (show ¬ (Y_ n j).length=i+1 by omega),List.append_nil];walk_at "rd";exact ⟨_,_,rfl,AF6,AG6⟩
  ·clear AF1 AG;rintro σ H4 ⟨u4,u5,rfl,AF,AG⟩;obtain ⟨gs,hg,rg⟩:=AG.at_;obtain ⟨fs,hf,rf⟩:=AF.at_;obtain ⟨p,p1,p2,p3,p4⟩:=Zft n6 hi;obtain ⟨s1,s2⟩:=Zdn n n6 i hi;have lg:gs.length=(someR n (i+1)).length:=by rw [rg.length,List.length_map];rfl
   have lf:fs.length≤31:=by rw [rf.length,List.length_map];exact (gK n n6 i (by omega)).2
   walk_at "rd";refine ⟨G,gs,(someR n (i+1)).map nI,p,rfl,SqL.of hg,by omega,by omega,?_,?_,by rw [lg];exact p1,by omega,by rw [lg];exact p3,fun l nl=>?_⟩
   ·rw [List.map_map];exact rg
   ·intro x hx;obtain ⟨S,hS,rfl⟩:=List.mem_map.mp hx;intro z
    have:=congrArg List.length z
    rw [Y4] at this;exact Zbw S hS (List.length_eq_zero_iff.mp this)
   have Sl:=Zi nl (.lst (p.toList.map fun i=>gs.getD i .non));have hl:upd H4 l (.lst (p.toList.map fun i=>gs.getD i .non)) l=some (.lst (p.toList.map fun i=>gs.getD i .non)):=Zh;generalize upd H4 l (.lst (p.toList.map fun i=>gs.getD i .non))=H5 at Sl hl ⊢;refine ⟨F,l,fs,_,rfl,rfl,Sl _ _ hf,hl,?_,fun q nq=>?_⟩
   ·have:=Zq (n:=fs.length+p.size) (by omega)
    have e:(p.toList.map fun i=>gs.getD i .non).length=p.size:=by simp
    rw [e];omega
   ·have Sq:=Zi nq (.lst (fs++p.toList.map fun i=>gs.getD i .non));walk_at "rd";refine ⟨q,_,_,_,_,rfl,(AF.same.trans Sl).trans Sq,(AF.same.trans Sl).free nq,_,Zh,?_⟩;show RzL K _ _ ((tld n i++lvl n i).map dS);rw [List.map_append];refine ((rf.same Sl).same Sq).append ?_;rw [← p4];exact ((RpL.pick rg p.toList (by rw [lg];exact p3)).same Sl).same Sq
 ·rintro σ H2 ⟨F,u2,u3,u4,u5,rfl,AF⟩;walk_at "rd";exact k F H2 AF
def Jf(K:Fg):Sp:=fun vs H Q _=>∃(v w:V) (h:List Int) (S:List Nat),vs=[v,w]∧Rz K H v (dI h)∧Rz K H w (dS S)∧(∀k∈S,k < h.length)∧S.length≤100∧∀H',Same H H'→Q (.bl (hs h S)) H'
theorem gO{K:Fg}{vs:List V}{H:Hp}{Q:VK}{E:XK}{x y:Str}(h:Jf K vs H Q E):vs.length=[x,y].length:=by
 obtain ⟨a,b,c,d,rfl,_⟩:=h;rfl
theorem Zdj(h:List Int)(S:List Nat):decide ((0:Int) < (((S.filter fun k=>decide (0 < pt h k)).length:Nat):Int))=hs h S:=by
 cases e:hs h S with
 | true =>
  obtain ⟨k,hk,p⟩:=ZhK.mp e
  have:0 < (S.filter fun k=>decide (0 < pt h k)).length:=List.length_pos_iff.mpr fun z=>by
   have m:k∈S.filter fun k=>decide (0 < pt h k):=List.mem_filter.mpr ⟨hk,by simpa using p⟩
   rw [z] at m;cases m
  exact decide_eq_true (by omega)
 | false =>
  have z:S.filter (fun k=>decide (0 < pt h k))=[]:=List.filter_eq_nil_iff.mpr fun k hk=>by simpa using Ziy.mp e k hk
  rw [z];rfl
def Wj(K:Fg):TS:=(tRet (tOp rGt (tCB (Yh K) (Zc (Gr (iTup K (tVar 1)) 1 (Zn 0) (Z6 (tOp rGt (tOp (rIxT K) (tVar 1) (tVar 0)) (tC (.int 0)))) (tVar 0)) tNil)) (tC (.int 0))))
theorem ZaF{K:Fg}{vs:List V}{H:Hp}{Q:VK}{E:XK}{N:List Str}(hN:N.length=2)(h:Jf K vs H Q E):Wj K (ends Q) (L2.start N vs) H:=by
 obtain ⟨v,w,h,S,rfl,rv,rw_,hS,hl,k⟩:=h;obtain ⟨a,rfl,ha⟩:=yK rv;obtain ⟨b,rfl,hb⟩:=Za3 rw_;rw [show L2.start N [.ref a,.ref b]=[some (.ref a),some (.ref b)] by unfold L2.start;rw [hN];rfl];unfold Wj;walk_at "rd";refine ⟨b,rfl,⟨_,SqT.of hb⟩,?_⟩;have lS:((nI S).map V.int).length=S.length:=by rw [List.length_map,Y4]
 refine ZcX (xs:=(nI S).map V.int) fun D nD=>⟨fun j H2=>AccZ K H D H2 ((nI ((S.take j).filter fun k=>decide (0 < pt h k))).map Dat.int),by simpa [nI] using AccZ.start (Same.refl _) nD,fun j H2 _ A=>SqT.of (A.same _ _ hb),?_,?_⟩
 ·intro j x H2 hx A us hu;obtain ⟨u0,rfl⟩:∃u,us=[u]:=List.length_eq_one_iff.mp hu;have lj:=(List.getElem?_eq_some_iff.mp hx).1;obtain ⟨m,hm,rfl⟩:=Fp hx;have lf:((S.take j).filter fun k=>decide (0 < pt h k)).length≤100:=Nat.le_trans (List.length_filter_le _ _) (by rw [List.length_take];omega);have er:((S.take (j+1)).filter fun k=>decide (0 < pt h k))=((S.take j).filter fun k=>decide (0 < pt h k))++[m].filter fun k=>decide (0 < pt h k):=by rw [List.take_add_one,hm,List.filter_append];rfl
  walk_at "rd";refine ⟨⟨[some (.int (m:Int))],rfl,rfl⟩,?_⟩;walk_at "rd";refine Z_ (SqT.of (A.same _ _ ha)) (qK (hS m (List.mem_of_getElem? hm))) ?_;walk_at "rd";refine Yi (fun c=>?_) (fun c=>?_)
  ·walk_at "rd";refine pushed lj ?_;refine A.Yv (.int (m:Int)) (Zq (by rw [List.length_map,Y4];omega)) fun H3 A3=>?_
   show AccZ K H D H3 ((nI ((S.take (j+1)).filter fun k=>decide (0 < pt h k))).map Dat.int);rw [er,List.filter_cons_of_pos (by simpa using c)];unfold nI at A3 ⊢;rw [List.map_append,List.map_append];exact A3
  ·refine skipped lj ?_;show AccZ K H D H2 ((nI ((S.take (j+1)).filter fun k=>decide (0 < pt h k))).map Dat.int);rw [er,List.filter_cons_of_neg (by simpa using c)];simpa using A
 ·intro H2 A;rw [lS,List.take_of_length_le (Nat.le_refl _)] at A;walk_at "rd";refine Yu (SqL.of (AccZ.ints A)) ?_;rw [List.length_map,Y4];walk_at "rd";rw [Zdj];exact k H2 A.same
def GX(fl:Bool)(T:List Tp)(S:List Nat):Bool:=T.all fun t=>!(hs (if fl then t.2 else t.1) S && !hs (if fl then t.1 else t.2) S)
theorem Zf7(T:List Tp)(S:List Nat):GX true T S=isD T S:=by
 unfold GX isD;congr 1;funext t;show (!(hs t.2 S && !hs t.1 S))=_;cases hs t.1 S <;> cases hs t.2 S <;> rfl
def i1(fl:Bool):Int:=if fl then 1 else 0
def i2(fl:Bool):Int:=if fl then 0 else 1
def WT(K:Fg):Sp:=fun vs H Q _=>∃(v w:V) (ws:List Str) (ts:List Tn) (S:List Nat) (fl:Bool),vs=[v,w,.int (i1 fl),.int (i2 fl)]∧Rz K H v (dV ws ts)∧Rz K H w (dS S)∧(∀t∈ts,∀k∈S,k < t.fr.length∧k < t.to.length)∧S.length≤100∧∀H',Same H H'→Q (.bl (GX fl (ts.map pr) S)) H'
theorem Zcj{K:Fg}{vs:List V}{H:Hp}{Q:VK}{E:XK}{x y z u:Str}(h:WT K vs H Q E):vs.length=[x,y,z,u].length:=by
 obtain ⟨a,b,c,d,e,f,rfl,_⟩:=h;rfl
def zK(K:Fg):TS:=(tSeq (tFor (iTup K (tOp (rIxT K) (tVar 0) (tC (.int 1)))) (Zn 4)
 (tIfS (tAnd (tB (ZG (Jf K) [] E0 (Zc (tOp (rIxT K) (tVar 4) (tVar 2)) (Zc (tVar 1) tNil)))) (tNot (tB (ZG (Jf K) [] E0 (Zc (tOp (rIxT K) (tVar 4) (tVar 3)) (Zc (tVar 1) tNil))))))
 (tRet (tC (.bl false)))
 Z9))
 (tRet (tC (.bl true))))
theorem ZdB{K:Fg}{vs:List V}{H:Hp}{Q:VK}{E:XK}{N:List Str}(hN:N.length=5)(h:WT K vs H Q E):zK K (ends Q) (L2.start N vs) H:=by
 obtain ⟨v,w,ws,ts,S,fl,rfl,rv,rw_,hS,hl,k⟩:=h;obtain ⟨a,v1,v2,rfl,ha,_,r2⟩:=jg rv;obtain ⟨b,xs,rfl,hb,rx⟩:=r2.Yz;have lx:xs.length=ts.length:=by rw [rx.length,List.length_map]
 rw [show L2.start N [.ref a,w,.int (i1 fl),.int (i2 fl)]=[some (.ref a),some w,some (.int (i1 fl)),some (.int (i2 fl)),none] by unfold L2.start;rw [hN];rfl];unfold zK;walk_at "rd";refine Z_ (SqT.of ha) (v:=.ref b) rfl ?_;refine Zhq (SqT.of hb) ?_;refine ZcH (xs:=xs) (fun i σ H2=>∃u4:Option V,σ = [some (.ref a),some w,some (.int (i1 fl)),some (.int (i2 fl)),u4]∧Same H H2∧GX fl ((ts.take i).map pr) S=true) ⟨none,rfl,Same.refl _,rfl⟩ (fun i σ H2 _ ⟨_,_,S,_⟩=>SqT.of (S _ _ hb)) ?_ ?_
 ·rintro i x σ H2 hx ⟨u4,rfl,S2,ok⟩;obtain ⟨d,g1,g2⟩:=rx.get hx;rw [List.getElem?_map] at g1;obtain ⟨t,hti,rfl⟩:=Option.map_eq_some_iff.mp g1;obtain ⟨c,w1,w2,w3,rfl,hc,q1,q2,_⟩:=Zeq g2;have hk:=hS t (List.mem_of_getElem? hti);have e1:atI [w1,w2,w3] (i1 fl)=some (if fl then w2 else w1):=by cases fl <;> rfl
  have e2:atI [w1,w2,w3] (i2 fl)=some (if fl then w1 else w2):=by cases fl <;> rfl
  have r1:Rz K H (if fl then w2 else w1) (dI (if fl then t.to else t.fr)):=by
   cases fl
   ·exact q1
   ·exact q2
  have r2:Rz K H (if fl then w1 else w2) (dI (if fl then t.fr else t.to)):=by
   cases fl
   ·exact q2
   ·exact q1
  have k1:∀m∈S,m < (if fl then t.to else t.fr).length:=fun m h=>by
   have:=hk m h
   cases fl
   ·exact this.1
   ·exact this.2
  have k2:∀m∈S,m < (if fl then t.fr else t.to).length:=fun m h=>by
   have:=hk m h
   cases fl
   ·exact this.2
   ·exact this.1
  have tk:GX fl ((ts.take (i+1)).map pr) S = !(hs (if fl then t.to else t.fr) S && !hs (if fl then t.fr else t.to) S):=by
   rw [List.take_add_one,hti,List.map_append];unfold GX at ok ⊢;rw [List.all_append,ok];show (true && (_ && true))=_;rw [Bool.true_and,Bool.and_true];rfl
  walk_at "rd";refine Z_ (SqT.of (S2 _ _ hc)) e1 ?_;walk_at "rd";refine ⟨_,w,_,S,rfl,r1.same S2,rw_.same S2,k1,hl,fun H3 S3=>?_⟩;have S23:=S2.trans S3;walk_at "rd";cases h1:hs (if fl then t.to else t.fr) S with
  | false =>
   walk_at "rd";exact ⟨_,rfl,S23,by rw [tk,h1];rfl⟩
  | true =>
   walk_at "rd";refine Z_ (SqT.of (S23 _ _ hc)) e2 ?_;walk_at "rd";refine ⟨_,w,_,S,rfl,r2.same S23,rw_.same S23,k2,hl,fun H4 S4=>?_⟩;have S24:=S23.trans S4;walk_at "rd";cases h2:hs (if fl then t.fr else t.to) S with
   | true =>
    walk_at "rd";exact ⟨_,rfl,S24,by rw [tk,h1,h2];rfl⟩
   | false =>
    walk_at "rd"
    have e:GX fl (ts.map pr) S=false:=by
     unfold GX;rw [List.all_eq_false];refine ⟨pr t,List.mem_map.mpr ⟨t,List.mem_of_getElem? hti,rfl⟩,?_⟩;show ¬ (!(hs (if fl then t.to else t.fr) S && !hs (if fl then t.fr else t.to) S))=true;rw [h1,h2];decide
    have:=k H4 S24
    rw [e] at this;exact this
 ·rintro σ H2 ⟨u4,rfl,S2,ok⟩;rw [List.take_of_length_le (by omega)] at ok;walk_at "rd"
  have:=k H2 S2
  rw [ok] at this;exact this
end Dn
namespace Dn
open PySem L2 Fr G1 Sm Vs G2 Rk Sz
open PySem.W (Dat kqdOk)
end Dn
namespace Mk
open Rk Sz Sf Cl
end Mk
namespace L2
open PySem
theorem Zcr{to ti:TE}{t:TSet}{v:V}{σ : St}{H:Hp}{Q:St→Hp→Prop}(h:to σ H fun o H1=>ti σ H1 fun i H2=>t o i v H2 fun H3=>Q σ H3):gSub to ti t v σ H Q:=h
end L2
namespace Dn
open PySem L2 Fr G1 Sm Vs G2 Rk Sz Rw
open PySem.W (Dat kqdOk)
end Dn
namespace Dn
open PySem L2 Fr G1 Sm Vs G2 Rk Sz Sf Rw Cl
end Dn
namespace Lo
open Ti
end Lo
namespace L2
open PySem
theorem Zc8:bootBuiltins "min" = some (.builtin "min"):=by decide +kernel
end L2
namespace Lo
open PySem L2 Fr G1 Sm Vs G2 Ti Sz Rw
open PySem.W (Dat kqdOk)
end Lo
namespace Bo
def sm:Nat→(Nat→Int)→Int
 | 0,_=>0
 | n+1,f=>sm n f+f n
theorem ZK{n:Nat}{f g:Nat→Int}(h:∀k,k < n→f k=g k):sm n f=sm n g:=by
 induction n with
 | zero=>rfl
 | succ n ih=>rw [sm,sm,ih fun k hk=>h k (by omega),h n (by omega)]
theorem vq{n:Nat}{f:Nat→Int}(h:∀k,k < n→0≤f k):0≤sm n f:=by
 induction n with
 | zero=>exact Int.le_refl _
 | succ n ih =>
  have:=ih fun k hk=>h k (by omega)
  have:=h n (by omega)
  rw [sm];omega
theorem J6(n:Nat)(f g:Nat→Int):sm n (fun k=>f k+g k)=sm n f+sm n g:=by
 induction n with
 | zero=>rfl
 | succ n ih=>rw [sm,sm,sm,ih];omega
theorem Ye(n:Nat)(c:Int)(f:Nat→Int):sm n (fun k=>c*f k)=c*sm n f:=by
 induction n with
 | zero=>rw [sm,sm,Int.mul_zero]
 | succ n ih=>rw [sm,sm,ih,Int.mul_add]
theorem JM{n j:Nat}{f:Nat→Int}(hj:j < n)(h:∀k,k < n→k≠j→f k=0):sm n f=f j:=by
 induction n with
 | zero=>omega
 | succ n ih =>
  rw [sm];by_cases e:j=n
  ·subst e;rw [show sm j f=0 from ?_,Int.zero_add]
   have:sm j f=sm j fun _=>0:=ZK fun k hk=>h k (by omega) (by omega)
   rw [this];clear this ih h hj
   induction j with
   | zero=>rfl
   | succ j ih=>rw [sm,ih];rfl
  ·rw [ih (by omega) fun k hk ne=>h k (by omega) ne,h n (by omega) (by omega),Int.add_zero]
structure Bd where
 L:Nat→Nat→Int
 h:Nat→Nat
structure Ok (m W:Nat) (b:Bd):Prop where
 lt:∀i,i < m→b.h i < W
 own:∀i,i < m→0 < b.L i (b.h i)
 oth:∀i j,i < m→j < m→i≠j→b.L i (b.h j)=0
structure Stp (m W:Nat) (b b':Bd) (i p:Nat):Prop where
 im:i < m
 pw:p < W
 short:b.L i W < 0
 low:b.L i p < 0
 first:∀k,k < p→0≤b.L i k
 least:∀j,j < m→b.L j W < 0→b.h i≤b.h j
 hi:b'.h i=p
 hj:∀j,j < m→j≠i→b'.h j=b.h j
 li:∀k,b'.L i k = - b.L i k
 lj:∀j,j < m→j≠i→∃g:Int,0 < g∧∀k,g*b'.L j k=(- b.L i p)*b.L j k - b.L j p*(- b.L i k)
theorem Stp.ne{m W:Nat}{b b':Bd}{i p:Nat}(s:Stp m W b b' i p)(o:Ok m W b):∀j,j < m→b.h j≠p:=by
 intro j hj e;by_cases z:i=j
 ·subst z
  have:=o.own i hj
  have:=s.low
  rw [e] at *;omega
 ·have:=o.oth i j s.im hj z
  rw [e] at this
  have:=s.low
  omega
theorem Stp.ok{m W:Nat}{b b':Bd}{i p:Nat}(s:Stp m W b b' i p)(o:Ok m W b):Ok m W b':=by
 refine ⟨fun j hj=>?_,fun j hj=>?_,fun j l hj hl ne=>?_⟩
 ·by_cases e:j=i
  ·rw [e,s.hi];exact s.pw
  ·rw [s.hj j hj e];exact o.lt j hj
 ·by_cases e:j=i
  ·rw [e,s.hi,s.li]
   have:=s.low
   omega
  ·rw [s.hj j hj e];obtain ⟨g,g0,gk⟩:=s.lj j hj e;have h1:=gk (b.h j);rw [o.oth i j s.im hj (fun z=>e z.symm),Int.neg_zero,Int.mul_zero,Int.sub_zero] at h1;have p1:0 < -b.L i p*b.L j (b.h j):=Int.mul_pos (by have:=s.low;omega) (o.own j hj);rw [← h1] at p1;exact Int.pos_of_mul_pos_right (a:=g) p1 g0 |> fun z=>z
 ·by_cases e:l=i
  ·subst e;rw [s.hi];obtain ⟨g,g0,gk⟩:=s.lj j hj ne;have h1:=gk p;have z : -b.L l p*b.L j p - b.L j p * -b.L l p=0:=by rw [Int.mul_comm (-b.L l p)];omega
   rw [z] at h1;rcases Int.mul_eq_zero.mp h1 with y | y
   ·omega
   ·exact y
  ·rw [s.hj l hl e];by_cases f:j=i
   ·rw [f,s.li,o.oth i l s.im hl (fun z=>e z.symm)];rfl
   ·obtain ⟨g,g0,gk⟩:=s.lj j hj f;have h1:=gk (b.h l);rw [o.oth i l s.im hl (fun z=>e z.symm),o.oth j l hj hl ne,Int.neg_zero,Int.mul_zero,Int.mul_zero] at h1;rcases Int.mul_eq_zero.mp h1 with y | y
    ·omega
    ·exact y
def ev(W:Nat)(r:Nat→Int)(z:Nat→Int):Int:=sm W fun k=>r k*z k
def Sat(m W:Nat)(b:Bd)(z:Nat→Int)(D:Int):Prop:=∀i,i < m→ev W (b.L i) z=D*b.L i W
theorem ZcK(W:Nat)(r z:Nat→Int):ev W (fun k=>- r k) z = - ev W r z:=by
 unfold ev;rw [show (fun k=>- r k*z k)=fun k=>(-1)*(r k*z k) from funext fun k=>by rw [Int.neg_mul,Int.neg_one_mul],Ye,Int.neg_one_mul]
theorem ZeR(W:Nat)(g a c:Int)(q r s z:Nat→Int)(h:∀k,g*q k=a*r k - c*s k):g*ev W q z=a*ev W r z - c*ev W s z:=by
 unfold ev;rw [← Ye,← Ye,← Ye,Int.sub_eq_add_neg,← Int.neg_one_mul,← Ye,← J6];refine ZK fun k _=>?_
 rw [← Int.mul_assoc,h k,Int.sub_mul,Int.mul_assoc,Int.mul_assoc];omega
theorem Stp.sat{m W:Nat}{b b':Bd}{i p:Nat}(s:Stp m W b b' i p){z:Nat→Int}{D:Int}:Sat m W b z D↔Sat m W b' z D:=by
 have ei:ev W (b'.L i) z = - ev W (b.L i) z:=by
  rw [show b'.L i=fun k=>- b.L i k from funext s.li,ZcK]
 constructor
 ·intro h j hj;by_cases e:j=i
  ·subst e;rw [ei,h j hj,s.li,Int.mul_neg]
  ·obtain ⟨g,g0,gk⟩:=s.lj j hj e;have e1:=ZeR W g _ _ _ _ _ z gk;have e2:=gk W;rw [ZcK,h j hj,h i s.im] at e1;refine Int.eq_of_mul_eq_mul_left (a:=g) (by omega) ?_;rw [e1,show g*(D*b'.L j W)=D*(g*b'.L j W) from Int.mul_left_comm ..,e2,Int.mul_sub,Int.mul_left_comm,← Int.mul_neg,Int.mul_left_comm D,Int.mul_left_comm (b.L j p) D]
 ·intro h j hj
  have hi:ev W (b.L i) z=D*b.L i W:=by
   have:=h i s.im
   rw [ei,s.li,Int.mul_neg] at this;omega
  by_cases e:j=i
  ·subst e;exact hi
  ·obtain ⟨g,g0,gk⟩:=s.lj j hj e;have e1:=ZeR W g _ _ _ _ _ z gk;have e2:=gk W;rw [ZcK,h j hj,hi] at e1;have lo:=s.low;refine Int.eq_of_mul_eq_mul_left (a:=- b.L i p) (by omega) ?_;have e3:g*(D*b'.L j W)=D*(-b.L i p*b.L j W) - D*(b.L j p * -b.L i W):=by rw [Int.mul_left_comm,e2,Int.mul_sub]
   rw [e3] at e1;rw [show -b.L i p*(D*b.L j W)=D*(-b.L i p*b.L j W) from Int.mul_left_comm ..];have e4:D*(b.L j p * -b.L i W)=b.L j p * -(D*b.L i W):=by rw [Int.mul_left_comm,Int.mul_neg]
   omega
theorem ZbX{m W:Nat}{b:Bd}(o:Ok m W b):∃(z:Nat→Int) (D:Int),0 < D∧Sat m W b z D∧(∀i,i < m→b.L i (b.h i)*z (b.h i)=D*b.L i W)∧∀k,(∀i,i < m→b.h i≠k)→z k=0:=by
 have pr:∀n,n≤m→∃D:Int,0 < D∧∀i,i < n→∃c,D=b.L i (b.h i)*c:=by
  intro n
  induction n with
  | zero=>exact fun _=>⟨1,by decide,fun i hi=>absurd hi (Nat.not_lt_zero _)⟩
  | succ n ih =>
   intro hn;obtain ⟨D,D0,hD⟩:=ih (by omega);have on:=o.own n (by omega);refine ⟨D*b.L n (b.h n),Int.mul_pos D0 on,fun i hi=>?_⟩;by_cases e:i=n
   ·subst e;exact ⟨D,Int.mul_comm ..⟩
   ·obtain ⟨c,hc⟩:=hD i (by omega);exact ⟨c*b.L n (b.h n),by rw [hc,Int.mul_assoc]⟩
 obtain ⟨D,D0,hD⟩:=pr m (Nat.le_refl _)
 have inj:∀i j,i < m→j < m→b.h i=b.h j→i=j:=by
  intro i j hi hj e;by_cases z:i=j
  ·exact z
  ·have:=o.oth i j hi hj z
   rw [← e] at this
   have:=o.own i hi
   omega
 have ex:∃z:Nat→Int,(∀i,i < m→b.L i (b.h i)*z (b.h i)=D*b.L i W)∧∀k,(∀i,i < m→b.h i≠k)→z k=0:=by
  have go:∀n,n≤m→∃z:Nat→Int,(∀i,i < n→b.L i (b.h i)*z (b.h i)=D*b.L i W)∧∀k,(∀i,i < n→b.h i≠k)→z k=0:=by
   intro n
   induction n with
   | zero=>exact fun _=>⟨fun _=>0,fun i hi=>absurd hi (Nat.not_lt_zero _),fun _ _=>rfl⟩
   | succ n ih =>
    intro hn;obtain ⟨z,h1,h2⟩:=ih (by omega);obtain ⟨c,hc⟩:=hD n (by omega);refine ⟨fun k=>if k=b.h n then c*b.L n W else z k,fun i hi=>?_,fun k hk=>?_⟩
    ·by_cases e:i=n
     ·subst e;show _*(if b.h i=b.h i then _ else _)=_;rw [if_pos rfl,hc,Int.mul_assoc]
     ·have ne:b.h i≠b.h n:=fun z=>e (inj i n (by omega) (by omega) z)
      show _*(if b.h i=b.h n then _ else _)=_;rw [if_neg ne];exact h1 i (by omega)
    ·show (if k=b.h n then _ else _)=_;rw [if_neg (fun e=>hk n (by omega) e.symm)];exact h2 k fun i hi=>hk i (by omega)
  exact go m (Nat.le_refl _)
 obtain ⟨z,h1,h2⟩:=ex;refine ⟨z,D,D0,fun i hi=>?_,h1,h2⟩;unfold ev;rw [JM (o.lt i hi) fun k _ ne=>?_,h1 i hi];by_cases e:∃j,j < m∧b.h j=k
 ·obtain ⟨j,hj,rfl⟩:=e;rw [o.oth i j hi hj (fun z=>ne (by rw [z])),Int.zero_mul]
 ·rw [h2 k fun j hj z=>e ⟨j,hj,z⟩,Int.mul_zero]
def Hold(m:Nat)(b:Bd)(k:Nat):Prop:=∃i,i < m∧b.h i=k
theorem key{m W:Nat}{b c b' c':Bd}{i p j t:Nat}(o1:Ok m W b)(o2:Ok m W c)(s1:Stp m W b b' i p)(s2:Stp m W c c' j t)(ht:b.h i=t)(hr:c.h j≤t)(sol:∀z D,Sat m W b z D→Sat m W c z D)(st:∀k,t < k→(Hold m b k↔Hold m c k)):False:=by
 obtain ⟨z,D,D0,sz,z1,z2⟩:=ZbX o1;have e:=sol z D sz j s2.im;have lt:ev W (c.L j) z < 0:=by rw [e];exact Int.mul_neg_of_pos_of_neg D0 s2.short
 refine absurd (vq fun k hk=>?_) (Int.not_le.mpr lt);by_cases hb:Hold m b k
 ·obtain ⟨l,hl,rfl⟩:=hb;have zl:=z1 l hl;have ol:=o1.own l hl;rcases Nat.lt_trichotomy (b.h l) t with q | q | q
  ·refine Int.mul_nonneg (s2.first _ q) ?_
   have e0:0≤b.L l W:=by
    rcases Int.lt_or_le (b.L l W) 0 with y | y
    ·have:=s1.least l hl y
     omega
    ·exact y
   have:0≤b.L l (b.h l)*z (b.h l):=by rw [zl];exact Int.mul_nonneg (Int.le_of_lt D0) e0
   exact Int.nonneg_of_mul_nonneg_right this ol
  ·have el:l=i:=by
    by_cases y:l=i
    ·exact y
    ·have:=o1.oth l i hl s1.im y
     rw [ht,← q] at this;omega
   subst el
   have:b.L l (b.h l)*z (b.h l) < 0:=by rw [zl];exact Int.mul_neg_of_pos_of_neg D0 s1.short
   have zn:z (b.h l) < 0:=by
    rcases Int.lt_or_le (z (b.h l)) 0 with y | y
    ·exact y
    ·have:=Int.mul_nonneg (Int.le_of_lt ol) y
     omega
   have cn:=s2.low;rw [← q] at cn;exact Int.le_of_lt (Int.mul_pos_of_neg_of_neg cn zn)
  ·obtain ⟨n,hn,en⟩:=(st _ q).mp ⟨l,hl,rfl⟩;have ne:j≠n:=fun y=>by rw [← y] at en;omega
   have:=o2.oth j n s2.im hn ne
   rw [en] at this;rw [this,Int.zero_mul];exact Int.le_refl _
 ·rw [z2 k fun l hl y=>hb ⟨l,hl,y⟩,Int.mul_zero];exact Int.le_refl _
theorem Stp.hold{m W:Nat}{b b':Bd}{i p k:Nat}(s:Stp m W b b' i p)(h1:b.h i≠k)(h2:p≠k):Hold m b k↔Hold m b' k:=by
 constructor
 ·rintro ⟨j,hj,e⟩;have ne:j≠i:=fun z=>h1 (by rw [← z];exact e)
  exact ⟨j,hj,by rw [s.hj j hj ne];exact e⟩
 ·rintro ⟨j,hj,e⟩;by_cases z:j=i
  ·rw [z,s.hi] at e;exact absurd e h2
  ·exact ⟨j,hj,by rw [← s.hj j hj z];exact e⟩
structure Run (m W:Nat) (s:Nat→Bd) (i p:Nat→Nat) (a n:Nat):Prop where
 ok:∀k,a≤k→k≤a+n→Ok m W (s k)
 stp:∀k,a≤k→k < a+n→Stp m W (s k) (s (k+1)) (i k) (p k)
def In(s:Nat→Bd)(i p:Nat→Nat)(t k:Nat):Prop:=(s k).h (i k)=t∨p k=t
theorem Run.sat{m W:Nat}{s:Nat→Bd}{i p:Nat→Nat}{a n:Nat}(r:Run m W s i p a n){z:Nat→Int}{D:Int}:∀(d u:Nat),a≤u→u+d≤a+n→(Sat m W (s u) z D↔Sat m W (s (u+d)) z D)
 | 0,_,_,_=>Iff.rfl
 | d+1,u,h1,h2=>(r.sat d u h1 (by omega)).trans (r.stp (u+d) (by omega) (by omega)).sat
theorem Run.hold{m W:Nat}{s:Nat→Bd}{i p:Nat→Nat}{a n k:Nat}(r:Run m W s i p a n):∀(d u:Nat),a≤u→u+d≤a+n→(∀v,u≤v→v < u+d→¬ In s i p k v)→(Hold m (s u) k↔Hold m (s (u+d)) k)
 | 0,_,_,_,_=>Iff.rfl
 | d+1,u,h1,h2,h3=>(r.hold d u h1 (by omega) fun v q1 q2=>h3 v q1 (by omega)).trans ((r.stp (u+d) (by omega) (by omega)).hold (fun z=>h3 (u+d) (by omega) (by omega) (.inl z)) fun z=>h3 (u+d) (by omega) (by omega) (.inr z))
theorem Run.once{m W:Nat}{s:Nat→Bd}{i p:Nat→Nat}{a n t:Nat}(r:Run m W s i p a n)(top:∀k,a≤k→k < a+n→(s k).h (i k)≤t∧p k≤t):∀(d u:Nat),a≤u→u+(d+1) < a+n→In s i p t u→In s i p t (u+(d+1))→False:=by
 intro d
 induction d using Nat.strongRecOn with
 | _ d ih =>
  intro u h1 h2 e1 e2;by_cases mid:∃v,u < v∧v < u+(d+1)∧In s i p t v
  ·obtain ⟨v,v1,v2,v3⟩:=mid;exact ih (v - u - 1) (by omega) u h1 (by omega) e1 (by rw [show u+(v - u - 1+1)=v by omega];exact v3)
  ·have none:∀v,u+1≤v→v < u+1+d→¬ In s i p t v:=fun v q1 q2 q3=>mid ⟨v,by omega,by omega,q3⟩
   have ev_:u+(d+1)=u+1+d:=by omega
   rw [ev_] at e2 h2;have su:=r.stp u h1 (by omega);have sv:=r.stp (u+1+d) (by omega) h2;have ou:=r.ok u h1 (by omega);have ov:=r.ok (u+1+d) (by omega) (by omega);have same:=r.hold (k:=t) d (u+1) (by omega) (by omega) none;have tu:=top u h1 (by omega);have tv:=top (u+1+d) (by omega) h2
   have far:∀k,t < k→(Hold m (s u) k↔Hold m (s (u+1+d)) k):=fun k hk=>by
    have:=r.hold (k:=k) (d+1) u h1 (by omega) fun v q1 q2 q3=>by
     have:=top v (by omega) (by omega)
     rcases q3 with q3 | q3 <;> omega
    rw [show u+1+d=u+(d+1) by omega];exact this
   have sol:∀z D,(Sat m W (s u) z D↔Sat m W (s (u+1+d)) z D):=fun z D=>by
    have:=r.sat (z:=z) (D:=D) (d+1) u h1 (by omega)
    rw [show u+1+d=u+(d+1) by omega];exact this
   have ok1:=su.ok ou;by_cases hu:(s u).h (i u)=t
   ·have nt : ¬ Hold m (s (u+1)) t:=by
     rintro ⟨j,hj,e⟩;by_cases z:j=i u
     ·rw [z,su.hi] at e;exact su.ne ou (i u) su.im (hu.trans e.symm)
     ·rw [su.hj j hj z] at e
      have:=ou.oth j (i u) hj su.im z
      rw [hu,← e] at this
      have:=ou.own j hj
      omega
    rcases e2 with e2 | e2
    ·exact nt (same.mpr ⟨_,sv.im,e2⟩)
    ·have sv2:=sv;rw [e2] at sv2;exact key ou ov su sv2 hu tv.1 (fun z D=>(sol z D).mp) far
   ·have pu:p u=t:=e1.resolve_left hu;have yt:Hold m (s (u+1+d)) t:=same.mp ⟨i u,su.im,by rw [su.hi,pu]⟩;rcases e2 with e2 | e2
    ·have su2:=su;rw [pu] at su2;exact key ov ou sv su2 e2 tu.1 (fun z D=>(sol z D).mpr) fun k hk=>(far k hk).symm
    ·obtain ⟨j,hj,e⟩:=yt;exact sv.ne ov j hj (by rw [e,e2])
theorem Run.part{m W:Nat}{s:Nat→Bd}{i p:Nat→Nat}{a n b l:Nat}(r:Run m W s i p a n)(h1:a≤b)(h2:b+l≤a+n):Run m W s i p b l:=⟨fun k q1 q2=>r.ok k (by omega) (by omega),fun k q1 q2=>r.stp k (by omega) (by omega)⟩
theorem Run.few{m W:Nat}{s:Nat→Bd}{i p:Nat→Nat}:∀(T a n:Nat),Run m W s i p a n→(∀k,a≤k→k < a+n→(s k).h (i k) < T∧p k < T)→n+1≤2 ^ T
 | 0,a,n,r,top=>by
  cases n with
  | zero=>exact Nat.le_refl _
  | succ n=>exact absurd (top a (Nat.le_refl _) (by omega)).1 (Nat.not_lt_zero _)
 | T+1,a,n,r,top=>by
  have p2:2 ^ (T+1)=2 ^ T+2 ^ T:=by rw [Nat.pow_succ];omega
  by_cases h:∃v,a≤v∧v < a+n∧In s i p T v
  ·obtain ⟨v,v1,v2,v3⟩:=h
   have only:∀k,a≤k→k < a+n→k≠v→¬ In s i p T k:=by
    intro k k1 k2 ne k3;rcases Nat.lt_or_ge k v with q | q
    ·exact r.once (fun k q1 q2=>by have:=top k q1 q2;omega) (v - k - 1) k k1 (by omega) k3 (by rw [show k+(v - k - 1+1)=v by omega];exact v3)
    ·exact r.once (fun k q1 q2=>by have:=top k q1 q2;omega) (k - v - 1) v v1 (by omega) v3 (by rw [show v+(k - v - 1+1)=k by omega];exact k3)
   have lo:∀k,a≤k→k < a+n→k≠v→(s k).h (i k) < T∧p k < T:=fun k q1 q2 q3=>by
    have:=top k q1 q2
    have n1:=only k q1 q2 q3;exact ⟨Nat.lt_of_le_of_ne (by omega) fun z=>n1 (.inl z),Nat.lt_of_le_of_ne (by omega) fun z=>n1 (.inr z)⟩
   have x1:=Run.few T a (v - a) (r.part (Nat.le_refl _) (by omega)) fun k q1 q2=>lo k q1 (by omega) (by omega)
   have x2:=Run.few T (v+1) (a+n - (v+1)) (r.part (by omega) (by omega)) fun k q1 q2=>lo k (by omega) (by omega) (by omega)
   omega
  ·have:=Run.few T a n r fun k q1 q2=>by
    have t1:=top k q1 q2;have n1 : ¬ In s i p T k:=fun z=>h ⟨k,q1,q2,z⟩
    exact ⟨Nat.lt_of_le_of_ne (by omega) fun z=>n1 (.inl z),Nat.lt_of_le_of_ne (by omega) fun z=>n1 (.inr z)⟩
   omega
end Bo
namespace Bo
theorem ZgQ{f:Nat→Nat}{N K:Nat}(h:∀X,X < N→f X < K)(lt:K < N):∃X Y,X < Y∧Y < N∧f X=f Y:=by
 refine Classical.byContradiction fun no=>?_
 have nd:((List.range N).map f).Nodup:=by
  unfold List.Nodup;rw [List.pairwise_map];refine List.Pairwise.imp_of_mem (fun {a b} ha hb (l:a < b) e=>no ⟨a,b,l,List.mem_range.mp hb,e⟩) List.pairwise_lt_range
 have:=Ti.Fj (hs:=List.range K) nd fun x hx=>by
  obtain ⟨X,hX,rfl⟩:=List.mem_map.mp hx;exact List.mem_range.mpr (h X (List.mem_range.mp hX))
 rw [List.length_map,List.length_range,List.length_range] at this;omega
def dig(b:Nat):Nat→Nat→Nat
 | X,0=>X % b
 | X,j+1=>dig b (X / b) j
theorem Zan{b:Nat}(h:0 < b):∀(j X:Nat),dig b X j < b
 | 0,X=>Nat.mod_lt _ h
 | j+1,X=>Zan h j (X / b)
theorem ZcO{b:Nat}(h:0 < b):∀(n X Y:Nat),X < b ^ n→Y < b ^ n→(∀j,j < n→dig b X j=dig b Y j)→X=Y
 | 0,X,Y,h1,h2,_=>by rw [Nat.pow_zero] at h1 h2;omega
 | n+1,X,Y,h1,h2,h3=>by
  have e0:X % b=Y % b:=h3 0 (by omega);have e1:X / b=Y / b:=ZcO h n (X / b) (Y / b) (by rw [Nat.div_lt_iff_lt_mul h,← Nat.pow_succ];exact h1) (by rw [Nat.div_lt_iff_lt_mul h,← Nat.pow_succ];exact h2) fun j hj=>h3 (j+1) (by omega)
  rw [← Nat.div_add_mod X b,← Nat.div_add_mod Y b,e0,e1]
def enc(R:Nat):Nat→(Nat→Nat)→Nat
 | 0,_=>0
 | k+1,y=>enc R k y+y k*R ^ k
theorem Zal{R:Nat}{y:Nat→Nat}:∀k,(∀i,i < k→y i < R)→enc R k y < R ^ k
 | 0,_=>by rw [Nat.pow_zero];exact Nat.one_pos
 | k+1,h=>by
  have a:=Zal k fun i hi=>h i (by omega)
  have c:(y k+1)*R ^ k≤R*R ^ k:=Nat.mul_le_mul_right _ (h k (by omega));rw [Nat.pow_succ,Nat.mul_comm (R ^ k) R,enc];rw [Nat.add_mul,Nat.one_mul] at c;omega
theorem ZcL{R:Nat}{y z:Nat→Nat}:∀k,(∀i,i < k→y i < R)→(∀i,i < k→z i < R)→enc R k y=enc R k z→∀i,i < k→y i=z i
 | 0,_,_,_,i,hi=>absurd hi (Nat.not_lt_zero _)
 | k+1,h1,h2,e,i,hi=>by
  have a:=Zal k fun i hi=>h1 i (by omega)
  have c:=Zal k fun i hi=>h2 i (by omega)
  have pos:0 < R ^ k:=by omega
  rw [enc,enc] at e
  have ek:y k=z k:=by
   have d1:(enc R k y+y k*R ^ k) / R ^ k=y k:=by rw [Nat.add_mul_div_right _ _ pos,Nat.div_eq_of_lt a,Nat.zero_add]
   have d2:(enc R k z+z k*R ^ k) / R ^ k=z k:=by rw [Nat.add_mul_div_right _ _ pos,Nat.div_eq_of_lt c,Nat.zero_add]
   rw [← d1,← d2,e]
  by_cases q:i=k
  ·rw [q];exact ek
  ·rw [ek] at e;exact ZcL k (fun i hi=>h1 i (by omega)) (fun i hi=>h2 i (by omega)) (by omega) i (by omega)
theorem Zgw{n:Nat}{f:Nat→Int}{C:Int}(h:∀k,k < n→-C≤f k∧f k≤C) : -(n*C)≤sm n f∧sm n f≤n*C:=by
 induction n with
 | zero=>rw [sm];simp
 | succ n ih =>
  have a:=ih fun k hk=>h k (by omega)
  have c:=h n (by omega);have e:((n+1:Nat):Int)*C=n*C+C:=by rw [Int.natCast_add,Int.add_mul];simp
  rw [e,sm];omega
theorem Zg4{a x:Int}{M B:Nat}(ha : -(M:Int)≤a∧a≤M)(h0:0≤x)(hx:x≤B) : -((M:Int)*B)≤a*x∧a*x≤(M:Int)*B:=by
 have h1:a*x≤M*x:=Int.mul_le_mul_of_nonneg_right ha.2 h0;have h2 : -(M:Int)*x≤a*x:=Int.mul_le_mul_of_nonneg_right ha.1 h0;have h3:(M:Int)*x≤M*B:=Int.mul_le_mul_of_nonneg_left hx (by omega);rw [Int.neg_mul] at h2;omega
theorem ZeB{k M:Nat}{A:Nat→Nat→Int}(m1:1≤M)(hA:∀i,i < k→∀j,j < k+1→-(M:Int)≤A i j∧A i j≤M) :
  ∃x:Nat→Int,(∃j,j < k+1∧x j≠0)∧(∀j,-(((2*((k+1)*M)) ^ k:Nat):Int)≤x j∧x j≤((2*((k+1)*M)) ^ k:Nat))∧∀i,i < k→sm (k+1) (fun j=>A i j*x j)=0:=by
 generalize hC:(k+1)*M=C;have c1:1≤C:=by rw [← hC];exact Nat.mul_pos (by omega) m1
 generalize hB:(2*C) ^ k=B
 have lt:(2*C*B+1) ^ k < (B+1) ^ (k+1):=by
  have e1:2*C*B+1≤2*C*(B+1):=by rw [Nat.mul_add];omega
  have e2:(2*C*B+1) ^ k≤(2*C*(B+1)) ^ k:=Nat.pow_le_pow_left e1 k;rw [Nat.mul_pow,hB] at e2;rw [Nat.pow_succ,Nat.mul_comm ((B+1) ^ k)];have p1:0 < (B+1) ^ k:=Nat.pow_pos (by omega)
  have:B*(B+1) ^ k < (B+1)*(B+1) ^ k:=Nat.mul_lt_mul_of_pos_right (by omega) p1
  omega
 have bd:∀(X i:Nat),i < k→-((C*B:Nat):Int)≤sm (k+1) (fun j=>A i j*(dig (B+1) X j:Int))∧sm (k+1) (fun j=>A i j*(dig (B+1) X j:Int))≤((C*B:Nat):Int):=by
  intro X i hi
  have:=Zgw (n:=k+1) (f:=fun j=>A i j*(dig (B+1) X j:Int)) (C:=(M:Int)*B) fun j hj=>Zg4 (hA i hi j hj) (by omega) (by have:=Zan (b:=B+1) (by omega) j X;omega)
  have e:(((k+1:Nat):Int)*((M:Int)*B))=((C*B:Nat):Int):=by rw [← hC,← Int.mul_assoc];simp
  rw [e] at this;exact this
 have yl:∀(X i:Nat),i < k→(sm (k+1) (fun j=>A i j*(dig (B+1) X j:Int))+(C*B:Nat)).toNat < 2*C*B+1:=fun X i hi=>by
  have:=bd X i hi
  have e:2*C*B=C*B+C*B:=by rw [Nat.mul_assoc,Nat.two_mul]
  omega
 obtain ⟨X,Y,l1,l2,e⟩:=ZgQ (f:=fun X=>enc (2*C*B+1) k fun i=>(sm (k+1) (fun j=>A i j*(dig (B+1) X j:Int))+(C*B:Nat)).toNat) (N:=(B+1) ^ (k+1)) (fun X _=>Zal k fun i hi=>yl X i hi) lt;have ei:=ZcL k (fun i hi=>yl X i hi) (fun i hi=>yl Y i hi) e;refine ⟨fun j=>(dig (B+1) X j:Int) - dig (B+1) Y j,?_,fun j=>?_,fun i hi=>?_⟩
 ·refine Classical.byContradiction fun no=>?_
  have:=ZcO (b:=B+1) (by omega) (k+1) X Y (by omega) l2 fun j hj=>Classical.byContradiction fun ne=>no ⟨j,hj,by show ((dig (B+1) X j:Int) - dig (B+1) Y j)≠0;omega⟩
  omega
 ·have a:=Zan (b:=B+1) (by omega) j X;have c:=Zan (b:=B+1) (by omega) j Y;show -((B:Nat):Int)≤(dig (B+1) X j:Int) - dig (B+1) Y j∧(dig (B+1) X j:Int) - dig (B+1) Y j≤(B:Nat);omega
 ·have h:=ei i hi;have b1:=bd X i hi;have b2:=bd Y i hi;have es:sm (k+1) (fun j=>A i j*(dig (B+1) X j:Int))=sm (k+1) (fun j=>A i j*(dig (B+1) Y j:Int)):=by omega
  have e3:sm (k+1) (fun j=>A i j*((dig (B+1) X j:Int) - dig (B+1) Y j))=sm (k+1) (fun j=>A i j*(dig (B+1) X j:Int))+sm (k+1) (fun j=>(-1)*(A i j*(dig (B+1) Y j:Int))):=by
   rw [← J6];refine ZK fun j _=>?_
   rw [Int.mul_sub];omega
  show sm (k+1) (fun j=>A i j*((dig (B+1) X j:Int) - dig (B+1) Y j))=0;rw [e3,Ye,es];omega
end Bo
namespace Bo
structure From (m W n:Nat) (f b:Bd):Prop where
 ok:Ok m W b
 lin:∀i,i < m→∀k,b.L i k=sm m fun l=>b.L i (n+l)*f.L l k
 prim:∀i,i < m→∀d:Int,(∀k,k≤W→d∣b.L i k)→d∣1
 span:∀l,l < m→∃D:Int,0 < D∧∃c:Nat→Int,∀k,D*f.L l k=sm m fun j=>c j*b.L j k
theorem W0{n:Nat}{f:Nat→Int}(h:∀k,k < n→f k=0):sm n f=0:=by
 induction n with
 | zero=>rfl
 | succ n ih=>rw [sm,ih fun k hk=>h k (by omega),h n (by omega)];rfl
theorem From.start{m W n:Nat}{f:Bd}(o:Ok m W f)(u:∀l,l < m→∀k,k < m→f.L l (n+k)=if l=k then 1 else 0)(w:n+m≤W+1):From m W n f f:=by
 refine ⟨o,fun i hi k=>?_,fun i hi d hd=>?_,fun l hl=>⟨1,by decide,fun j=>if j=l then 1 else 0,fun k=>?_⟩⟩
 ·rw [JM hi fun l hl ne=>?_,u i hi i hi,if_pos rfl,Int.one_mul];rw [u i hi l hl,if_neg (fun z=>ne z.symm),Int.zero_mul]
 ·have:=hd (n+i) (by omega)
  rw [u i hi i hi,if_pos rfl] at this;exact this
 ·rw [JM (j:=l) hl fun j hj ne=>?_]
  ·show 1*f.L l k=(if l=l then 1 else 0)*f.L l k;rw [if_pos rfl]
  ·show (if j=l then 1 else 0)*f.L j k=0;rw [if_neg ne,Int.zero_mul]
theorem From.step{m W n:Nat}{f b b':Bd}{i p:Nat}(F:From m W n f b)(s:Stp m W b b' i p)(pr:∀j,j < m→j≠i→∀d:Int,(∀k,k≤W→d∣b'.L j k)→d∣1):From m W n f b':=by
 have lo:=s.low;refine ⟨s.ok F.ok,fun j hj k=>?_,fun j hj d hd=>?_,fun l hl=>?_⟩
 ·by_cases e:j=i
  ·subst e;rw [s.li,F.lin j hj k,← Int.neg_one_mul,← Ye];refine ZK fun l _=>?_
   rw [s.li,← Int.mul_assoc,Int.neg_one_mul]
  ·obtain ⟨g,g0,gk⟩:=s.lj j hj e;refine Int.eq_of_mul_eq_mul_left (a:=g) (by omega) ?_;rw [gk k,← Ye,F.lin j hj k,F.lin i s.im k,← Ye,← Int.neg_one_mul (sm m _),← Ye,← Ye,Int.sub_eq_add_neg,← Int.neg_one_mul (sm m _),← Ye,← J6];refine ZK fun l _=>?_
   rw [← Int.mul_assoc g,gk,Int.sub_mul];rw [Int.mul_assoc (-b.L i p),Int.neg_one_mul,Int.neg_one_mul,Int.mul_assoc (b.L j p),Int.neg_mul (b.L i (n+l))];omega
 ·by_cases e:j=i
  ·subst e;refine F.prim j hj d fun k hk=>?_
   have:=hd k hk
   rw [s.li] at this;exact (Int.dvd_neg).mp this
  ·exact pr j hj e d hd
 ·obtain ⟨D,D0,c,hc⟩:=F.span l hl
  have G:∃g:Nat→Int,∀j,j < m→j≠i→∀k,g j*b'.L j k=(- b.L i p)*b.L j k - b.L j p*(- b.L i k):=by
   refine ⟨fun j=>if h:j < m∧j≠i then Classical.choose (s.lj j h.1 h.2) else 0,fun j hj ne k=>?_⟩;show (if h:j < m∧j≠i then Classical.choose (s.lj j h.1 h.2) else 0)*_=_;rw [dif_pos ⟨hj,ne⟩];exact (Classical.choose_spec (s.lj j hj ne)).2 k
  obtain ⟨g,hg⟩:=G;generalize hX:sm m (fun j=>c j*b.L j p)=X;refine ⟨- b.L i p*D,Int.mul_pos (by omega) D0,fun j=>if j=i then X else c j*g j,fun k=>?_⟩
  have split:∀(q:Nat→Int),sm m q=q i+sm m fun j=>if j=i then 0 else q j:=fun q=>by
   have e1:sm m (fun j=>if j=i then q i else 0)=q i:=by
    rw [JM s.im fun j _ ne=>if_neg ne,if_pos rfl]
   rw [← e1,← J6];refine ZK fun j _=>?_
   by_cases e:j=i
   ·rw [if_pos e,if_pos e,e,Int.add_zero]
   ·rw [if_neg e,if_neg e,Int.zero_add]
  have e1:sm m (fun j=>if j=i then 0 else (if j=i then X else c j*g j)*b'.L j k)=sm m fun j=>-b.L i p*(c j*b.L j k)+b.L i k*(c j*b.L j p):=by
   refine ZK fun j hj=>?_
   by_cases e:j=i
   ·rw [if_pos e,e,Int.neg_mul,Int.mul_left_comm (b.L i p),Int.mul_left_comm (b.L i k),Int.mul_comm (b.L i k)];omega
   ·rw [if_neg e,if_neg e,Int.mul_assoc,hg j hj e k,Int.mul_sub,Int.mul_left_comm (c j),Int.mul_neg (b.L j p),Int.mul_neg (c j),← Int.mul_assoc (c j) (b.L j p),Int.mul_comm (c j*b.L j p)];omega
  rw [split fun j=>(if j=i then X else c j*g j)*b'.L j k,e1,J6,Ye,Ye,hX,if_pos rfl,s.li,Int.mul_neg,Int.mul_comm X,Int.mul_assoc,hc k];omega
theorem From.line{m W n:Nat}{f b:Bd}{i:Nat}(F:From m W n f b)(hi:i < m){y:Nat→Int}(z:∀j,j < m→j≠i→sm m (fun l=>y l*f.L l (b.h j))=0)(k:Nat) :
  b.L i (b.h i)*sm m (fun l=>y l*f.L l k)=sm m (fun l=>y l*f.L l (b.h i))*b.L i k:=by
 have all:∀q,q≤m→∃D:Int,0 < D∧∃c:Nat→Int,∀k,D*sm q (fun l=>y l*f.L l k)=sm m fun j=>c j*b.L j k:=by
  intro q
  induction q with
  | zero=>exact fun _=>⟨1,by decide,fun _=>0,fun k=>by rw [sm,W0 fun j _=>Int.zero_mul _];rfl⟩
  | succ q ih =>
   intro hq;obtain ⟨D,D0,c,hc⟩:=ih (by omega);obtain ⟨E,E0,d,hd⟩:=F.span q (by omega);refine ⟨D*E,Int.mul_pos D0 E0,fun j=>E*c j+D*y q*d j,fun k=>?_⟩;rw [sm,Int.mul_add,Int.mul_comm D E,Int.mul_assoc E D,hc k];have e:E*D*(y q*f.L q k)=D*y q*(E*f.L q k):=by rw [Int.mul_comm E D,Int.mul_assoc,Int.mul_assoc,Int.mul_left_comm E]
   rw [e,hd k,← Ye,← Ye,← J6];refine ZK fun j _=>?_
   rw [Int.add_mul,Int.mul_assoc E,Int.mul_assoc (D*y q)]
 obtain ⟨D,D0,c,hc⟩:=all m (Nat.le_refl _)
 have cz:∀j,j < m→j≠i→c j=0:=by
  intro j hj ne
  have:=hc (b.h j)
  rw [z j hj ne,Int.mul_zero,JM hj fun l hl nl=>by rw [F.ok.oth l j hl hj nl,Int.mul_zero]] at this;have o:=F.ok.own j hj;rcases Int.mul_eq_zero.mp this.symm with y | y
  ·exact y
  ·omega
 have at_:∀k,D*sm m (fun l=>y l*f.L l k)=c i*b.L i k:=fun k=>by
  rw [hc k,JM hi fun j hj ne=>by rw [cz j hj ne,Int.zero_mul]]
 refine Int.eq_of_mul_eq_mul_left (a:=D) (by omega) ?_;rw [Int.mul_left_comm,at_ k,← Int.mul_assoc D,at_ (b.h i),Int.mul_left_comm,← Int.mul_assoc (c i)]
theorem Zgv{n C:Nat}{f:Nat→Int}(h:∀k,k < n→(f k).natAbs≤C):(sm n f).natAbs≤n*C:=by
 induction n with
 | zero=>rw [sm];exact Nat.zero_le _
 | succ n ih =>
  rw [sm,Nat.succ_mul];have a:=ih fun k hk=>h k (by omega)
  have c:=h n (by omega)
  have:=Int.natAbs_add_le (sm n f) (f n)
  omega
theorem ZeM{x:Int}{B:Nat}(h : -(B:Int)≤x∧x≤B):x.natAbs≤B:=by omega
theorem ZbO{W:Nat}{r s:Nat→Int}{a q:Int}(a0:0 < a)(q0:q≠0)(e:∀k,a*s k=q*r k)(pr:∀d:Int,(∀k,k≤W→d∣r k)→d∣1)(k:Nat):(r k).natAbs≤(s k).natAbs:=by
 have A0:0 < a.natAbs:=by omega
 have Q0:0 < q.natAbs:=by omega
 have en:∀k,a.natAbs*(s k).natAbs=q.natAbs*(r k).natAbs:=fun k=>by rw [← Int.natAbs_mul,e k,Int.natAbs_mul]
 have g0:0 < Nat.gcd a.natAbs q.natAbs:=Nat.gcd_pos_of_pos_left _ A0;obtain ⟨A1,hA⟩:=Nat.gcd_dvd_left a.natAbs q.natAbs;obtain ⟨Q1,hQ⟩:=Nat.gcd_dvd_right a.natAbs q.natAbs
 have co:Nat.Coprime A1 Q1:=by
  have:=Nat.coprime_div_gcd_div_gcd g0
  rw [show a.natAbs / Nat.gcd a.natAbs q.natAbs=A1 from Nat.div_eq_of_eq_mul_right g0 hA,show q.natAbs / Nat.gcd a.natAbs q.natAbs=Q1 from Nat.div_eq_of_eq_mul_right g0 hQ] at this;exact this
 have e1:∀k,A1*(s k).natAbs=Q1*(r k).natAbs:=fun k=>by
  refine Nat.eq_of_mul_eq_mul_left g0 ?_;rw [← Nat.mul_assoc,← Nat.mul_assoc,← hA,← hQ];exact en k
 have one:A1=1:=by
  have:=pr (A1:Int) fun k _=>by
   rw [Int.ofNat_dvd_left];exact co.dvd_of_dvd_mul_left ⟨_,(e1 k).symm⟩
  have:A1∣1:=by
   rw [Int.ofNat_dvd_left] at this;exact this
  exact Nat.dvd_one.mp this
 have Qp:0 < Q1:=by
  rcases Nat.eq_zero_or_pos Q1 with z | z
  ·rw [z,Nat.mul_zero] at hQ;omega
  ·exact z
 have:=e1 k
 rw [one,Nat.one_mul] at this;rw [this];exact Nat.le_mul_of_pos_left _ Qp
def skip(i j:Nat):Nat:=if j < i then j else j+1
theorem From.small{q W n M:Nat}{f b:Bd}(F:From (q+1) W n f b)(u:∀l,l < q+1→∀k,k < q+1→f.L l (n+k)=if l=k then 1 else 0)(m1:1≤M)(hM:∀l,l < q+1→∀k,(f.L l k).natAbs≤M){i:Nat}(hi:i < q+1)(k:Nat) :
  (b.L i k).natAbs≤(q+1)*((2*((q+1)*M)) ^ q*M):=by
 obtain ⟨y,⟨j,hj,nz⟩,yb,ye⟩:=ZeB (k:=q) (M:=M) (A:=fun j l=>f.L l (b.h (skip i j))) m1 fun j hj l hl=>by have:=hM l hl (b.h (skip i j));omega
 have z:∀j,j < q+1→j≠i→sm (q+1) (fun l=>y l*f.L l (b.h j))=0:=by
  intro j hj ne;by_cases lt:j < i
  ·have:=ye j (by omega)
   rw [show skip i j=j from if_pos lt] at this;rw [← this];exact ZK fun l _=>Int.mul_comm ..
  ·have:=ye (j - 1) (by omega)
   rw [show skip i (j - 1)=j by unfold skip;rw [if_neg (by omega)];omega] at this;rw [← this];exact ZK fun l _=>Int.mul_comm ..
 have un:∀l,l < q+1→sm (q+1) (fun l'=>y l'*f.L l' (n+l))=y l:=fun l hl=>by
  rw [JM hl fun l' hl' ne=>by rw [u l' hl' l hl,if_neg ne,Int.mul_zero],u l hl l hl,if_pos rfl,Int.mul_one]
 have ln:=F.line hi z;have o:=F.ok.own i hi
 have q0:sm (q+1) (fun l=>y l*f.L l (b.h i))≠0:=by
  intro e
  have:=ln (n+j)
  rw [e,Int.zero_mul,un j hj] at this;rcases Int.mul_eq_zero.mp this with x | x
  ·omega
  ·exact nz x
 refine Nat.le_trans (ZbO (W:=W) (r:=b.L i) o q0 ln (F.prim i hi) k) ?_;refine Zgv fun l hl=>?_
 rw [Int.natAbs_mul];exact Nat.mul_le_mul (ZeM (yb l)) (hM l hl k)
theorem From.told{m W n M:Nat}{f b:Bd}(F:From m W n f b)(m1:1≤M)(hM:∀l,l < m→∀k,(f.L l k).natAbs≤M) :
  ∃(z:Nat→Int) (D:Int),D≠0∧(∀k,(z k).natAbs≤(2*((W+1)*M)) ^ W)∧(∀i,i < m→b.L i (b.h i)*z (b.h i)=D*b.L i W)∧∀k,k < W→(∀i,i < m→b.h i≠k)→z k=0:=by
 have key:∃A:Nat→Nat→Int,(∀k,k < W→∀c,-(M:Int)≤A k c∧A k c≤M)∧(∀i,i < m→∀c,A (b.h i) c=if c=W then - f.L i W else f.L i c)∧∀k,k < W→(∀i,i < m→b.h i≠k)→∀c,A k c=if c=k then 1 else 0:=by
  have inj:∀i j,i < m→j < m→b.h i=b.h j→i=j:=by
   intro i j hi hj e;by_cases z:i=j
   ·exact z
   ·have:=F.ok.oth i j hi hj z
    rw [← e] at this
    have:=F.ok.own i hi
    omega
  refine ⟨fun k c=>if h:∃i,i < m∧b.h i=k then (if c=W then - f.L (Classical.choose h) W else f.L (Classical.choose h) c) else if c=k then 1 else 0,fun k _ c=>?_,fun i hi c=>?_,fun k _ no c=>?_⟩
  ·show _≤(if h:∃i,i < m∧b.h i=k then _ else _)∧(if h:∃i,i < m∧b.h i=k then _ else _)≤_;by_cases h:∃i,i < m∧b.h i=k
   ·rw [dif_pos h];have h1:=hM _ (Classical.choose_spec h).1 W;have h2:=hM _ (Classical.choose_spec h).1 c;split <;> omega
   ·rw [dif_neg h];split <;> omega
  ·have h:∃j,j < m∧b.h j=b.h i:=⟨i,hi,rfl⟩
   show (if h:∃j,j < m∧b.h j=b.h i then _ else _)=_;rw [dif_pos h];have e:Classical.choose h=i:=inj _ _ (Classical.choose_spec h).1 hi (Classical.choose_spec h).2;rw [e]
  ·show (if h:∃j,j < m∧b.h j=k then _ else _)=_;rw [dif_neg fun ⟨i,hi,e⟩=>no i hi e]
 obtain ⟨A,a1,a2,a3⟩:=key;obtain ⟨z,⟨j,hj,nz⟩,zb,ze⟩:=ZeB (k:=W) (M:=M) (A:=A) m1 fun k hk c _=>a1 k hk c
 have sf:Sat m W f z (z W):=fun i hi=>by
  have:=ze (b.h i) (F.ok.lt i hi)
  rw [sm,a2 i hi W,if_pos rfl,ZK (g:=fun c=>f.L i c*z c) fun c hc=>by rw [a2 i hi c,if_neg (by omega)],Int.neg_mul] at this;show sm W (fun c=>f.L i c*z c)=z W*f.L i W;rw [Int.mul_comm];omega
 have zk:∀k,k < W→(∀i,i < m→b.h i≠k)→z k=0:=fun k hk no=>by
  have:=ze k hk
  rw [JM (j:=k) (by omega) fun c _ ne=>by rw [a3 k hk no c,if_neg ne,Int.zero_mul],a3 k hk no k,if_pos rfl,Int.one_mul] at this;exact this
 have own:∀i,i < m→b.L i (b.h i)*z (b.h i)=z W*b.L i W:=fun i hi=>by
  have e1:ev W (b.L i) z=z W*b.L i W:=by
   unfold ev
   have:∀w,w≤W→sm w (fun k=>b.L i k*z k)=sm m fun l=>b.L i (n+l)*sm w fun k=>f.L l k*z k:=by
    intro w
    induction w with
    | zero=>exact fun _=>by rw [sm,W0 fun l _=>by rw [sm,Int.mul_zero]]
    | succ w ih =>
     intro hw;rw [sm,ih (by omega),F.lin i hi w,Int.mul_comm (sm m _),← Ye,← J6];refine ZK fun l _=>?_
     rw [sm,Int.mul_add,Int.mul_left_comm (z w),Int.mul_comm (z w)]
   rw [this W (Nat.le_refl _),F.lin i hi W,← Ye];refine ZK fun l hl=>?_
   have:=sf l hl
   unfold ev at this;rw [this,Int.mul_left_comm]
  rw [← e1];unfold ev;rw [JM (F.ok.lt i hi) fun k hk ne=>?_];by_cases e:∃j,j < m∧b.h j=k
  ·obtain ⟨j,hj,rfl⟩:=e;rw [F.ok.oth i j hi hj (fun z=>ne (by rw [z])),Int.zero_mul]
  ·rw [zk k hk fun j hj z=>e ⟨j,hj,z⟩,Int.mul_zero]
 refine ⟨z,z W,fun e=>nz ?_,fun k=>ZeM (zb k),own,zk⟩;by_cases ew:j=W
 ·rw [ew];exact e
 ·by_cases h:∃i,i < m∧b.h i=j
  ·obtain ⟨i,hi,rfl⟩:=h
   have:=own i hi
   rw [e,Int.zero_mul] at this;have o:=F.ok.own i hi;rcases Int.mul_eq_zero.mp this with x | x
   ·omega
   ·exact x
  ·exact zk j (by omega) fun i hi z=>h ⟨i,hi,z⟩
end Bo
namespace L2
open PySem
theorem Za6{K:Fg}{te:TE}{σ : St}{Q:VK}{H:Hp}{a:Addr}{xs:List V}{n:Nat}{g:TG}(h:∀D,H D=none→∃Pv:Nat→Hp→Prop,Pv 0 (upd H D (.lst []))∧(∀i H2,i≤xs.length→Pv i H2→SqL K H2 a xs) ∧
  (∀i x H2 T,xs[i]? = some x→Pv i H2→H2 T=none→EltG g n te σ (.ref T) (upd H2 T (.tup [.int i,x])) D xs.length i Pv)∧∀H2,Pv xs.length H2→Q (.ref D) H2):uF (Ite K a) n g te σ Q H:=by
 intro D nD;obtain ⟨Pv,h0,hl,hs,hd⟩:=h D nD;refine ⟨fun i m H=>m=xs.length - i∧i≤xs.length∧Pv i H,⟨_,rfl,Nat.zero_le _,h0⟩,?_⟩;rintro i m H ⟨rfl,hi,p⟩;have q:=hl i H hi p;by_cases hlt:i < xs.length
 ·refine .inr ⟨⟨xs,q,hlt⟩,fun v H' y us hu=>?_⟩;obtain ⟨T,x,nT,rfl,rfl,z⟩:=y;exact hs i x H T (z xs q) p nT us hu
 ·have e:i=xs.length:=by omega
  subst e;exact .inl ⟨⟨xs,q,Nat.le_refl _⟩,hd H p⟩
theorem ud{K:Fg}{σ : St}{H:Hp}{D:Ends}{k1 k2:Kn}{a b:Addr}{xs ys:List V}{g:TG}{tb:TS}{n:Nat}(e1:xs.length=n)(e2:ys.length=n)(Pv:Nat→St→Hp→Prop)(h0:Pv 0 σ H)(hl:∀i σ H,i≤n→Pv i σ H→k1.sq K H a xs∧k2.sq K H b ys)
  (hs:∀i x y σ H T,xs[i]? = some x→ys[i]? = some y→Pv i σ H→H T=none→g (.ref T) σ (upd H T (.tup [x,y])) fun σ2 H2=>tb { D with nx:=Pv (i+1),ct:=Pv (i+1),bk:=D.nx } σ2 H2) (hd:∀σ H,Pv n σ H→D.nx σ H):FAt (Itz K k1 k2 a b) g tb D σ H:=by
 refine ⟨fun i m σ H=>m=n - i∧i≤n∧Pv i σ H,⟨_,rfl,Nat.zero_le _,h0⟩,?_⟩;rintro i m σ H ⟨rfl,hi,p⟩;obtain ⟨q1,q2⟩:=hl i σ H hi p;by_cases hlt:i < n
 ·refine .inr ⟨⟨xs,ys,q1,q2,by omega,by omega⟩,Pv (i+1),fun σ' H' p'=>⟨n - (i+1),by omega,rfl,hlt,p'⟩,fun v H' y=>?_⟩;obtain ⟨T,x,y,nT,rfl,rfl,z1,z2⟩:=y;exact hs i x y σ H T (z1 xs q1) (z2 ys q2) p nT
 ·have e:i=n:=by omega
  subst e;exact .inl ⟨⟨xs,ys,q1,q2,by omega⟩,hd σ H p⟩
end L2
namespace Br
open PySem L2 Fr G1 Sm Vs G2 Rk Sz Sf Rw
open PySem.W (Dat kqdOk)
def neg(r:List Int):List Int:=r.map fun x=>-x
theorem Jd(r:List Int):(neg r).length=r.length:=List.length_map _
def LnAt(H:Hp)(a:Addr)(B:List (List Int)):Prop:=∃xs,H a=some (.lst xs)∧xs.length=B.length∧∀(i:Nat) (x:V) (r:List Int),xs[i]? = some x→B[i]? = some r→∃c,x = .ref c∧H c=some (.lst (r.map V.int))
theorem LnAt.same{H H':Hp}{a:Addr}{B:List (List Int)}(h:LnAt H a B)(e:Same H H'):LnAt H' a B:=by
 obtain ⟨xs,h1,h2,h3⟩:=h;refine ⟨xs,e _ _ h1,h2,fun i x r q1 q2=>?_⟩;obtain ⟨c,rfl,z⟩:=h3 i x r q1 q2;exact ⟨c,rfl,e _ _ z⟩
theorem LnAt.get{H:Hp}{a:Addr}{B:List (List Int)}{xs:List V}(h2:xs.length=B.length)(h3:∀(i:Nat) (x:V) (r:List Int),xs[i]? = some x→B[i]? = some r→∃c,x = .ref c∧H c=some (.lst (r.map V.int))){i:Nat}{r:List Int}(e:B[i]? = some r):∃c,xs[i]? = some (.ref c)∧H c=some (.lst (r.map V.int)):=by
 have li:=(List.getElem?_eq_some_iff.mp e).1;obtain ⟨c,z1,z2⟩:=h3 i xs[i] r (List.getElem?_eq_getElem (by omega)) e;exact ⟨c,by rw [List.getElem?_eq_getElem (by omega),z1],z2⟩
def zQ(K:Fg):Sp:=fun vs H Q _=>∃(x:V) (r:List Int),vs=[x]∧RowV H x r∧r.length≤100∧∀(p:Addr) (H':Hp),AccZ K H p H' ((neg r).map Dat.int)→Q (.ref p) H'
theorem ZfK{K:Fg}{vs:List V}{H:Hp}{Q:VK}{E:XK}{x:Str}(h:zQ K vs H Q E):vs.length=[x].length:=by
 obtain ⟨a,b,rfl,_⟩:=h;rfl
def Ze5(K:Fg):TS:=(tRet (Y6 (iSeq K (tVar 0)) (tUn (rU fun i=>.int (-i)) (tVar 0))))
theorem ZgA{K:Fg}{vs:List V}{H:Hp}{Q:VK}{E:XK}{N:List Str}(hN:N.length=1)(h:zQ K vs H Q E):Ze5 K (ends Q) (L2.start N vs) H:=by
 obtain ⟨x,r,rfl,rv,hl,k⟩:=h;obtain ⟨c,rfl,hc⟩:=rv;rw [show L2.start N [.ref c]=[some (.ref c)] by unfold L2.start;rw [hN];rfl];unfold Ze5;walk_at "rd";refine Zes (xs:=r.map V.int) (hc.imp SqL.of SqT.of) fun D nD=>⟨fun j H2=>AccZ K H D H2 ((neg (r.take j)).map Dat.int),by simpa [neg] using AccZ.start (Same.refl _) nD,fun _ _ A=>A.same,?_,?_⟩
 ·intro j x H2 hx A;have lj:=(List.getElem?_eq_some_iff.mp hx).1;rw [List.getElem?_map] at hx;obtain ⟨m,hm,rfl⟩:=Option.map_eq_some_iff.mp hx;walk_at "rd";refine pushed lj ?_;refine A.Yv (.int (-m)) (Zq (by rw [List.length_map,Jd,List.length_take];omega)) fun H3 A3=>?_
  show AccZ K H D H3 ((neg (r.take (j+1))).map Dat.int);rw [List.take_add_one,hm];unfold neg at A3 ⊢;rw [List.map_append,List.map_append];exact A3
 ·intro H2 A;rw [List.length_map,List.take_length] at A;exact k D H2 A
def WL(K:Fg):Sp:=fun vs H Q _=>∃(a:Addr) (R:List (List Int)),vs=[.ref a]∧Jc H a R∧R.length≤100∧(∀r∈R,r.length≤100)∧∀(p:Addr) (H':Hp),Acc K H p H' ((R.map neg).map dL)→Q (.ref p) H'
theorem ZdW{K:Fg}{vs:List V}{H:Hp}{Q:VK}{E:XK}{x:Str}(h:WL K vs H Q E):vs.length=[x].length:=by
 obtain ⟨a,b,rfl,_⟩:=h;rfl
def Zbh(K:Fg):TS:=(tRet (Y6 (U9 K (tVar 0)) (ZG (zQ K) [] E0 (Zc (tVar 0) tNil))))
theorem Zfd{K:Fg}{vs:List V}{H:Hp}{Q:VK}{E:XK}{N:List Str}(hN:N.length=1)(h:WL K vs H Q E):Zbh K (ends Q) (L2.start N vs) H:=by
 obtain ⟨a,R,rfl,⟨xs,ha,lx,rw_⟩,hl,hr,k⟩:=h;rw [show L2.start N [.ref a]=[some (.ref a)] by unfold L2.start;rw [hN];rfl];unfold Zbh;walk_at "rd";refine FN (SqL.of ha) ?_;refine YL (xs:=xs) fun D nD=>⟨fun j H2=>Acc K H D H2 (((R.take j).map neg).map dL),by simpa using Acc.start nD,fun j H2 _ A=>SqL.of (A.same _ _ ha),?_,?_⟩
 ·intro j x H2 hx A;have lj:=(List.getElem?_eq_some_iff.mp hx).1;have er:R[j]? = some R[j]:=List.getElem?_eq_getElem (by omega);have rv:=rw_ j x _ hx er;have ll:=hr _ (List.mem_of_getElem? er);generalize R[j]=r at er rv ll;walk_at "rd";refine ⟨x,r,rfl,rv.same A.same,ll,fun q H3 C=>?_⟩;refine pushed lj ?_;refine A.Yv C.same (d:=dL (neg r)) C.ref (Zq (by rw [List.length_map,List.length_map,List.length_take];omega)) fun H4 A4=>?_
  show Acc K H D H4 (((R.take (j+1)).map neg).map dL);rw [List.take_add_one,er,List.map_append,List.map_append];exact A4
 ·intro H2 A;rw [lx,List.take_length] at A;exact k D H2 A
def WY(K:Fg):Sp:=fun vs H Q _=>∃(a:Addr) (r:List Int) (w:Nat),vs=[.ref a]∧H a=some (.lst (r.map V.int))∧r.length=w+1∧w≤100∧∀H',Same H H'→((∀k,k < w→0≤pt r k)→Q .non H')∧∀p,p < w→pt r p < 0→(∀k,k < p→0≤pt r k)→Q (.int (p:Int)) H'
theorem Zco{K:Fg}{vs:List V}{H:Hp}{Q:VK}{E:XK}{x:Str}(h:WY K vs H Q E):vs.length=[x].length:=by
 obtain ⟨a,b,c,rfl,_⟩:=h;rfl
theorem Zgk(xs:List V){w:Nat}(h:xs.length=w+1):cutV xs none (some (-1))=xs.take w:=by
 unfold cutV;have e1:HT.sIx xs.length 0 none=0:=rfl
 have e2:HT.sIx xs.length xs.length (some (-1))=w:=by
  show (if (-1:Int) < 0 then ((-1:Int)+(xs.length:Nat)).toNat else min (-1:Int).toNat xs.length)=_;rw [if_pos (by decide)];omega
 rw [e1,e2,List.drop_zero,Nat.sub_zero]
def zO(K:Fg):TS:=(tSeq (tFor (Zcy K (Zc (tSl (rSlL K) (tVar 0) Ge (yZ (tUn (rU fun i=>.int (-i)) (tC (.int 1))))) tNil)) (gTup K 2 (Yg (Zn 1) (Yg (Zn 2) gNil)))
 (tIfS (Z6 (tOp rLt (tVar 2) (tC (.int 0))))
 (tRet (tVar 1))
 Z9))
 (tRet (tC .non)))
theorem ZdF{K:Fg}{vs:List V}{H:Hp}{Q:VK}{E:XK}{N:List Str}(hN:N.length=3)(h:WY K vs H Q E):zO K (ends Q) (L2.start N vs) H:=by
 obtain ⟨a,r,w,rfl,ha,hl,hw,k⟩:=h;rw [show L2.start N [.ref a]=[some (.ref a),none,none] by unfold L2.start;rw [hN];rfl];unfold zO;walk_at "rd";refine ⟨a,_,rfl,SqL.of ha,fun l nl=>?_⟩;rw [Zgk _ (w:=w) (by rw [List.length_map];exact hl)];have S1:=Zi nl (.lst ((r.map V.int).take w));have hl1:upd H l (.lst ((r.map V.int).take w)) l=some (.lst ((r.map V.int).take w)):=Zh;generalize upd H l (.lst ((r.map V.int).take w))=H1 at S1 hl1 ⊢;have lw:((r.map V.int).take w).length=w:=by rw [List.length_take,List.length_map];omega
 walk_at "rd";refine ⟨l,_,rfl,SqL.of hl1,?_⟩;refine Zak (xs:=(r.map V.int).take w) (fun i σ H2=>∃u1 u2:Option V,σ = [some (.ref a),u1,u2]∧Same H1 H2∧∀k,k < i→0≤pt r k) ⟨none,none,rfl,Same.refl _,fun k hk=>absurd hk (Nat.not_lt_zero _)⟩ (fun i σ H2 _ ⟨_,_,_,S,_⟩=>SqL.of (S _ _ hl1)) ?_ ?_
 ·rintro i x σ H2 T hx ⟨u1,u2,rfl,S2,lo⟩ nT;have li:i < w:=by rw [← lw];exact (List.getElem?_eq_some_iff.mp hx).1
  have ex:x = .int (pt r i):=by
   rw [List.getElem?_take_of_lt li,List.getElem?_map,List.getElem?_eq_getElem (by omega)] at hx;cases hx;unfold pt;rw [List.getD_eq_getElem?_getD,List.getElem?_eq_getElem (by omega)];rfl
  subst ex;have S3:=S2.trans (Zi nT (.tup [.int (i:Int),.int (pt r i)]));have hT:upd H2 T (.tup [.int (i:Int),.int (pt r i)]) T=some (.tup [.int (i:Int),.int (pt r i)]):=Zh;generalize upd H2 T (.tup [.int (i:Int),.int (pt r i)])=H3 at S3 hT ⊢;refine Y5 (SqT.of hT) rfl ?_;walk_at "rd";refine Yi (fun c=>?_) (fun c=>?_)
  ·walk_at "rd";exact (k H3 (S1.trans S3)).2 i li (by simpa using c) lo
  ·walk_at "rd";refine ⟨_,_,rfl,S3,fun k hk=>?_⟩;rcases Nat.lt_or_ge k i with q | q
   ·exact lo k q
   ·rw [show k=i by omega];simpa using c
 ·rintro σ H2 ⟨u1,u2,rfl,S2,lo⟩;rw [lw] at lo;walk_at "rd";exact (k H2 (S1.trans S2)).1 lo
def wo0(l h:List Int)(p:Nat):List Int:=List.zipWith (fun x y=>pt h p*x - pt l p*y) l h
def wo(l h:List Int)(p:Nat):List Int:=(wo0 l h p).map fun x=>x.fdiv (gcdL (wo0 l h p))
theorem Wg{l h:List Int}{p:Nat}(e:l.length=h.length):(wo0 l h p).length=l.length:=by unfold wo0;rw [List.length_zipWith];omega
def JC(K:Fg):Sp:=fun vs H Q _=>∃(a b:Addr) (l h:List Int) (p:Nat),vs=[.ref a,.ref b,.int (p:Int)]∧H a=some (.lst (l.map V.int))∧H b=some (.lst (h.map V.int))∧l.length=h.length∧p < l.length∧l.length≤100∧(∀c∈l,c.natAbs < 2 ^ 4000)∧(∀c∈h,c.natAbs < 2 ^ 4000)∧gcdL (wo0 l h p)≠0∧(gcdL (wo0 l h p)).natAbs < 2 ^ 9000 ∧
 ∀(q:Addr) (H':Hp),AccZ K H q H' ((wo l h p).map Dat.int)→Q (.ref q) H'
theorem gM{K:Fg}{vs:List V}{H:Hp}{Q:VK}{E:XK}{x y z:Str}(h:JC K vs H Q E):vs.length=[x,y,z].length:=by
 obtain ⟨a,b,c,d,e,rfl,_⟩:=h;rfl
theorem GP{r:List Int}{p:Nat}(h:p < r.length):pt r p∈r:=by
 unfold pt;rw [List.getD_eq_getElem?_getD,List.getElem?_eq_getElem h];exact List.getElem_mem h
theorem YJ{r:List Int}{p:Nat}(h:p < r.length):r[p]? = some (pt r p):=by
 unfold pt;rw [List.getD_eq_getElem?_getD,List.getElem?_eq_getElem h];rfl
theorem ZdK{r:List Int}{p:Nat}(h:p < r.length):atI (r.map V.int) (p:Int)=some (.int (pt r p)):=Yd (by rw [List.getElem?_map,YJ h];rfl)
def Wi(K:Fg):TS:=(tSeq (tAsg (YX (iZip K .L .L (Zc (tVar 0) (Zc (tVar 1) tNil))) 2 (gTup K 2 (Yg (Zn 0) (Yg (Zn 1) gNil))) (tOp qSub (tOp ZdH (tOp (rIxL K) (tVar 3) (tVar 4)) (tVar 0)) (tOp ZdH (tOp (rIxL K) (tVar 2) (tVar 4)) (tVar 1)))) (Zn 3))
 (tSeq (tAsg (ZG (zR K) [] E0 (Zc (tVar 3) tNil)) (Zn 4))
 (tRet (Y6 (U9 K (tVar 3)) (tOp zY (tVar 0) (tVar 5))))))
theorem ZaE{K:Fg}{vs:List V}{H:Hp}{Q:VK}{E:XK}{N:List Str}(hN:N.length=5)(h:JC K vs H Q E):Wi K (ends Q) (L2.start N vs) H:=by
 obtain ⟨a,b,l,h,p,rfl,ha,hb,e,hp,hl,bl,bh,g0,g9,k⟩:=h;rw [show L2.start N [.ref a,.ref b,.int (p:Int)]=[some (.ref a),some (.ref b),some (.int (p:Int)),none,none] by unfold L2.start;rw [hN];rfl];unfold Wi;have big:(2:Nat) ^ 4000 < 2 ^ 20000:=Nat.pow_lt_pow_right (by decide) (by decide);walk_at "rd";refine ⟨a,b,_,_,rfl,SqL.of ha,SqL.of hb,?_⟩;have lz:min (l.map V.int).length (h.map V.int).length=l.length:=by rw [List.length_map,List.length_map];omega
 refine U_ (k1:=.L) (k2:=.L) (xs:=l.map V.int) (ys:=h.map V.int) fun D nD=>⟨fun j H2=>AccZ K H D H2 (((wo0 l h p).take j).map Dat.int),by simpa using AccZ.start (Same.refl _) nD,fun j H2 _ A=>⟨SqL.of (A.same _ _ ha),SqL.of (A.same _ _ hb)⟩,?_,?_⟩
 ·intro j y1 y2 H2 T e1 e2 A nT us hu
  obtain ⟨u0,u1,rfl⟩:∃u w,us=[u,w]:=by
   match us,hu with
   | [u,w],_=>exact ⟨u,w,rfl⟩
  rw [List.getElem?_map] at e1 e2;obtain ⟨m1,g1,rfl⟩:=Option.map_eq_some_iff.mp e1;obtain ⟨m2,g2,rfl⟩:=Option.map_eq_some_iff.mp e2;have lj:=(List.getElem?_eq_some_iff.mp g1).1;have ec:(wo0 l h p)[j]? = some (pt h p*m1 - pt l p*m2):=by unfold wo0;rw [List.getElem?_zipWith,g1,g2]
  have A2:=A.on (Zi nT (.tup [.int m1,.int m2]));have hT:upd H2 T (.tup [.int m1,.int m2]) T=some (.tup [.int m1,.int m2]):=Zh;generalize upd H2 T (.tup [.int m1,.int m2])=H3 at A2 hT ⊢;refine Y5 (SqT.of hT) rfl ?_;walk_at "rd";refine ⟨⟨[some (.int m1),some (.int m2)],rfl,rfl⟩,?_⟩;walk_at "rd";refine Jm (SqL.of (A2.same _ _ hb)) (ZdK (by omega)) ?_;walk_at "rd";refine ⟨pt h p,m1,rfl,rfl,⟨Nat.lt_trans (bh _ (GP (by omega))) big,Nat.lt_trans (bl _ (List.mem_of_getElem? g1)) big⟩,?_⟩;walk_at "rd";refine Jm (SqL.of (A2.same _ _ ha)) (ZdK hp) ?_;walk_at "rd";refine ⟨pt l p,m2,rfl,rfl,⟨Nat.lt_trans (bl _ (GP hp)) big,Nat.lt_trans (bh _ (List.mem_of_getElem? g2)) big⟩,?_⟩;walk_at "rd";refine pushed (by rw [lz];exact lj) ?_;refine A2.Yv (.int _) (Zq (by rw [List.length_map,List.length_take];omega)) fun H4 A4=>?_
  show AccZ K H D H4 (((wo0 l h p).take (j+1)).map Dat.int);rw [List.take_add_one,ec,List.map_append];exact A4
 intro H2 A;rw [lz,← Wg (p:=p) e,List.take_length] at A;have lw:=Wg (p:=p) e;have hD:=AccZ.ints A;unfold wo at k;generalize wo0 l h p=r at A lw hD g0 g9 k;walk_at "rd";refine ⟨D,r,rfl,hD,fun H3 S3=>?_⟩;walk_at "rd";refine FN (SqL.of (S3 _ _ hD)) ?_;have S03:=A.same.trans S3;refine YL (xs:=r.map V.int) fun F nF=>⟨fun j H4=>AccZ K H3 F H4 (((r.map fun x=>x.fdiv (gcdL r)).take j).map Dat.int),by simpa using AccZ.start (Same.refl _) nF,fun j H4 _ A4=>SqL.of (A4.same _ _ (S3 _ _ hD)),?_,?_⟩
 ·intro j x H4 hx A4;have lj:=(List.getElem?_eq_some_iff.mp hx).1;rw [List.getElem?_map] at hx;obtain ⟨m,hm,rfl⟩:=Option.map_eq_some_iff.mp hx;have lr:j < r.length:=(List.getElem?_eq_some_iff.mp hm).1;walk_at "rd";refine ⟨m,gcdL r,rfl,rfl,⟨g0,g9⟩,?_⟩;refine pushed lj ?_;refine A4.Yv (.int _) (Zq (by rw [List.length_map,List.length_take];omega)) fun H5 A5=>?_
  show AccZ K H3 F H5 (((r.map fun x=>x.fdiv (gcdL r)).take (j+1)).map Dat.int);rw [List.take_add_one,List.getElem?_map,hm,List.map_append];exact A5
 ·intro H4 A4;rw [List.take_of_length_le (by rw [List.length_map,List.length_map];exact Nat.le_refl _)] at A4;exact k F H4 ⟨S03.trans A4.same,S03.free A4.new,A4.at_⟩
def lastOf(r:List Int):Int:=pt r (r.length - 1)
def Ui(K:Fg):Sp:=fun vs H Q _=>∃(a b:Addr) (B:List (List Int)) (hs:List Nat),vs=[.ref a,.ref b]∧LnAt H a B∧H b=some (.lst (hs.map fun k:Nat=>.int (k:Int)))∧B.length=hs.length∧B.length≤100∧(∀r∈B,r≠[])∧hs.Nodup ∧
 ∀H',Same H H'→((∀r∈B,0≤lastOf r)→Q .non H')∧∀i,i < B.length→lastOf (B.getD i []) < 0→(∀j,j < B.length→lastOf (B.getD j []) < 0→hs.getD i 0≤hs.getD j 0)→Q (.int (i:Int)) H'
theorem Zcc{K:Fg}{vs:List V}{H:Hp}{Q:VK}{E:XK}{x y:Str}(h:Ui K vs H Q E):vs.length=[x,y].length:=by
 obtain ⟨a,b,c,d,rfl,_⟩:=h;rfl
def Jw(B:List (List Int))(hs:List Nat)(j:Nat):List Nat:=((List.range j).filter fun i=>decide (lastOf (B.getD i []) < 0)).map fun i=>hs.getD i 0
theorem Wf{r:List Int}(h:r≠[]):atI (r.map V.int) (-1)=some (.int (lastOf r)):=by
 have p:0 < r.length:=List.length_pos_iff.mpr h;unfold atI ixN;rw [if_neg (by decide),List.length_map];rw [if_pos (by omega)];show (r.map V.int)[(-1+(r.length:Int)).toNat]? = _;rw [show (-1+(r.length:Int)).toNat=r.length - 1 by omega,List.getElem?_map,YJ (by omega)];rfl
def zA(K:Fg):TS:=(tSeq (tAsg (Gr (iZip K .L .L (Zc (tVar 0) (Zc (tVar 1) tNil))) 2 (gTup K 2 (Yg (Zn 0) (Yg (Zn 1) gNil))) (Z6 (tOp rLt (tOp (rIxL K) (tVar 0) (tUn (rU fun i=>.int (-i)) (tC (.int 1)))) (tC (.int 0)))) (tVar 1)) (Zn 2))
 (tSeq (tIfS (Z6 (tOp rEq (tCB (Yh K) (Zc (tVar 2) tNil)) (tC (.int 0))))
 (tRet (tC .non))
 Z9)
 (tRet (tBM K "list" (ZbL K) (tVar 1) (Zc (tCB (ZdI K) (Zc (tVar 2) tNil)) tNil)))))
theorem Zdt {K : Fg} {vs : List V} {H : Hp} {Q : VK} {E : XK} {N : List Str} (hN : N.length = 3) (h : Ui K vs H Q E) : zA K (ends Q) (L2.start N vs) H := by
  obtain ⟨a, b, B, hs, rfl, ⟨xs, ha, lx, hx⟩, hb, lb, l100, ne, nd, k⟩ := h;rw [show L2.start N [.ref a, .ref b] = [some (.ref a), some (.ref b), none] by unfold L2.start; rw [hN]; rfl];unfold zA;walk_at "rd";refine ⟨a, b, _, _, rfl, SqL.of ha, SqL.of hb, ?_⟩;have lz : min xs.length (hs.map fun k : Nat => V.int (k : Int)).length = B.length := by rw [List.length_map]; omega
  refine ZcW (k1 := .L) (k2 := .L) (xs := xs) (ys := hs.map fun k : Nat => V.int (k : Int)) fun D nD => ⟨fun j H2 => AccZ K H D H2 (((Jw B hs j).map fun k : Nat => (k : Int)).map Dat.int), by simpa [Jw] using AccZ.start (Same.refl _) nD, fun j H2 _ A => ⟨SqL.of (A.same _ _ ha), SqL.of (A.same _ _ hb)⟩, ?_, ?_⟩
  · intro j x y H2 T e1 e2 A nT us hu
    obtain ⟨u0, u1, rfl⟩ : ∃ u w, us = [u, w] := by
      match us, hu with
      | [u, w], _ => exact ⟨u, w, rfl⟩
    have lj : j < B.length := by rw [← lx]; exact (List.getElem?_eq_some_iff.mp e1).1
    have eB : B[j]? = some (B.getD j []) := by rw [List.getD_eq_getElem?_getD, List.getElem?_eq_getElem lj]; rfl
    have nr := ne _ (List.mem_of_getElem? eB);have eh : hs[j]? = some (hs.getD j 0) := by rw [List.getD_eq_getElem?_getD, List.getElem?_eq_getElem (by omega)]; rfl
    obtain ⟨c, rfl, hc⟩ := hx j x _ e1 eB;rw [List.getElem?_map, eh] at e2;cases e2;have er : Jw B hs (j + 1) = Jw B hs j ++ ([j].filter fun i => decide (lastOf (B.getD i []) < 0)).map fun i => hs.getD i 0 := by unfold Jw; rw [List.range_succ, List.filter_append, List.map_append]
    have ls : (Jw B hs j).length ≤ 100 := by unfold Jw; rw [List.length_map]; exact Nat.le_trans (List.length_filter_le _ _) (by rw [List.length_range]; omega)
    generalize B.getD j [] = r at eB nr hc;generalize hh : hs.getD j 0 = hj at eh;have A2 := A.on (Zi nT (.tup [.ref c, .int (hj : Int)]));have hT : upd H2 T (.tup [.ref c, .int (hj : Int)]) T = some (.tup [.ref c, .int (hj : Int)]) := Zh;generalize upd H2 T (.tup [.ref c, .int (hj : Int)]) = H3 at A2 hT ⊢;refine Y5 (SqT.of hT) rfl ?_;walk_at "rd";refine ⟨⟨[some (.ref c), some (.int (hj : Int))], rfl, rfl⟩, ?_⟩;walk_at "rd";refine Jm (SqL.of (A2.same _ _ hc)) (Wf nr) ?_;walk_at "rd";have eB2 : B.getD j [] = r := by rw [List.getD_eq_getElem?_getD, eB]; rfl
    refine Yi (fun q => ?_) (fun q => ?_)
    · have q' : lastOf r < 0 := by simpa using q
      walk_at "rd";refine pushed (by rw [lz]; exact lj) ?_;refine A2.Yv (.int (hj : Int)) (Zq (by rw [List.length_map, List.length_map]; omega)) fun H4 A4 => ?_
      show AccZ K H D H4 (((Jw B hs (j + 1)).map fun k : Nat => (k : Int)).map Dat.int);rw [er, List.filter_cons_of_pos (by rw [eB2]; simpa using q'), List.map_append, List.map_append, List.map_cons, hh];exact A4
    · have q' : ¬ lastOf r < 0 := by simpa using q
      refine skipped (by rw [lz]; exact lj) ?_;show AccZ K H D H3 (((Jw B hs (j + 1)).map fun k : Nat => (k : Int)).map Dat.int);rw [er, List.filter_cons_of_neg (by rw [eB2]; simpa using q')];simpa using A2
  intro H2 A;rw [lz] at A;have hD := AccZ.ints A
  have mem : ∀ m, m ∈ Jw B hs B.length ↔ ∃ i, i < B.length ∧ lastOf (B.getD i []) < 0 ∧ hs.getD i 0 = m := fun m => by
    unfold Jw;rw [List.mem_map];constructor
    · rintro ⟨i, hi, e⟩
      rw [List.mem_filter, List.mem_range, decide_eq_true_eq] at hi;exact ⟨i, hi.1, hi.2, e⟩
    · rintro ⟨i, h1, h2, e⟩
      exact ⟨i, List.mem_filter.mpr ⟨List.mem_range.mpr h1, by simpa using h2⟩, e⟩
  generalize Jw B hs B.length = S at A hD mem;walk_at "rd";refine Yu (SqL.of hD) ?_;rw [List.length_map, List.length_map];walk_at "rd";refine Yi (fun q => ?_) (fun q => ?_)
  · have eS : S = [] := List.length_eq_zero_iff.mp (by have : ((S.length : Nat) : Int) = 0 := by simpa using q
                                                       omega)
    walk_at "rd";refine (k H2 A.same).1 fun r hr => ?_
    obtain ⟨i, hi⟩ := List.getElem?_of_mem hr;rcases Int.lt_or_le (lastOf r) 0 with z | z
    · have : hs.getD i 0 ∈ S := (mem _).mpr ⟨i, (List.getElem?_eq_some_iff.mp hi).1, by rw [List.getD_eq_getElem?_getD, hi]; exact z, rfl⟩
      rw [eS] at this;cases this
    · exact z
  · have nS : S ≠ [] := fun z => q (by rw [z]; simp)
    walk_at "rd";refine ⟨Zd5 (A.same _ _ hb), ?_⟩;walk_at "rd";refine ⟨D, S.map fun k : Nat => (k : Int), rfl, SqL.of hD, by simpa using nS, fun m hm lo => ?_⟩;obtain ⟨v, hv, rfl⟩ := List.mem_map.mp hm;obtain ⟨i, i1, i2, i3⟩ := (mem v).mp hv;have eh : hs[i]? = some v := by rw [← i3, List.getD_eq_getElem?_getD, List.getElem?_eq_getElem (by omega)]; rfl
    have hb2 : H2 b = some (.lst ((hs.map fun k : Nat => (k : Int)).map V.int)) := by
      rw [List.map_map];exact A.same _ _ hb
    have rb : Rp K (fun _ => True) H2 (.ref b) (dL (hs.map fun k : Nat => (k : Int))) := kj trivial hb2;have rv : Rp K (fun _ => True) H2 (.int (v : Int)) (.int (v : Int)) := .int _;walk_at "rd";refine ZfX (d := .int (v : Int)) (j := i) rv.rep rb.rep (fun e he => ?_) rfl ?_ (fun m hm z => ?_) ?_ ?_
    · obtain ⟨n, _, rfl⟩ := List.mem_map.mp he
      rfl
    · rw [List.getElem?_map, List.getElem?_map, eh]; rfl
    · rw [List.getElem?_map, List.getElem?_map] at z
      cases em : hs[m]? with
      | none => rw [em] at z; cases z
      | some u =>
        rw [em] at z
        have eu : u = v := by
          have : Dat.int (u : Int) = Dat.int (v : Int) := Option.some.inj z;injection this with this
          omega
        have lm := (List.getElem?_eq_some_iff.mp em)
        have li := (List.getElem?_eq_some_iff.mp eh)
        have := (List.getElem_inj (h₀ := lm.1) (h₁ := li.1) nd).mp (by rw [lm.2, li.2, eu]);omega
    · rw [List.length_map, List.length_map]; omega
    · refine (k H2 A.same).2 i i1 i2 fun j j1 j2 => ?_
      have : hs.getD j 0 ∈ S := (mem _).mpr ⟨j, j1, j2, rfl⟩;have := lo _ (List.mem_map.mpr ⟨_, this, rfl⟩);omega
def pass(B:List (List Int))(i p:Nat):List (List Int):=(List.range B.length).map fun j=>if j=i then neg (B.getD i []) else wo (B.getD j []) (neg (B.getD i [])) p
theorem G8(B:List (List Int))(i p:Nat):(pass B i p).length=B.length:=by unfold pass;rw [List.length_map,List.length_range]
theorem z9{B:List (List Int)}{i p j:Nat}(h:j < B.length):(pass B i p)[j]? = some (if j=i then neg (B.getD i []) else wo (B.getD j []) (neg (B.getD i [])) p):=by unfold pass;rw [List.getElem?_map,List.getElem?_range h];rfl
def Uu(K:Fg):Sp:=fun vs H Q _=>∃(a:Addr) (B:List (List Int)) (i p w:Nat),vs=[.ref a,.int (i:Int),.int (p:Int)]∧LnAt H a B∧i < B.length∧p < w∧w≤100∧Wide w B∧B.length≤100∧(∀r∈B,∀c∈r,c.natAbs < 2 ^ 4000) ∧
 (∀j,j < B.length→j≠i→gcdL (wo0 (B.getD j []) (neg (B.getD i [])) p)≠0∧(gcdL (wo0 (B.getD j []) (neg (B.getD i [])) p)).natAbs < 2 ^ 9000)∧∀(q:Addr) (H':Hp),Acc K H q H' ((pass B i p).map dL)→Q (.ref q) H'
theorem ZaW{K:Fg}{vs:List V}{H:Hp}{Q:VK}{E:XK}{x y z:Str}(h:Uu K vs H Q E):vs.length=[x,y,z].length:=by
 obtain ⟨a,b,c,d,e,rfl,_⟩:=h;rfl
theorem Yj{B:List (List Int)}{j:Nat}(h:j < B.length):B[j]? = some (B.getD j []):=by rw [List.getD_eq_getElem?_getD,List.getElem?_eq_getElem h];rfl
def jN(K:Fg):TS:=(tSeq (tAsg (ZG (zQ K) [] E0 (Zc (tOp (rIxL K) (tVar 0) (tVar 1)) tNil)) (Zn 3))
 (tRet (YX (Zcy K (Zc (tVar 0) tNil)) 2 (gTup K 2 (Yg (Zn 0) (Yg (Zn 1) gNil))) (tIf (Z6 (tOp rEq (tVar 0) (tVar 3))) (tVar 5) (ZG (JC K) [] E0 (Zc (tVar 1) (Zc (tVar 5) (Zc (tVar 4) tNil))))))))
theorem ZbF{K:Fg}{vs:List V}{H:Hp}{Q:VK}{E:XK}{N:List Str}(hN:N.length=4)(h:Uu K vs H Q E):jN K (ends Q) (L2.start N vs) H:=by
 obtain ⟨a,B,i,p,w,rfl,⟨xs,ha,lx,hx⟩,hi,hp,hw,wd,l100,bd,gc,k⟩:=h;rw [show L2.start N [.ref a,.int (i:Int),.int (p:Int)]=[some (.ref a),some (.int (i:Int)),some (.int (p:Int)),none] by unfold L2.start;rw [hN];rfl];unfold jN;obtain ⟨ci,eci,hci⟩:=LnAt.get (H:=H) (a:=a) lx hx (Yj hi);have wi:=wd _ (List.mem_of_getElem? (Yj hi));have bi:=bd _ (List.mem_of_getElem? (Yj hi));walk_at "rd";refine Jm (SqL.of ha) (Yd eci) ?_;walk_at "rd";refine ⟨.ref ci,B.getD i [],rfl,⟨ci,rfl,.inl hci⟩,by omega,fun hd H1 A1=>?_⟩;have h1:=AccZ.ints A1
 have bn:∀c∈neg (B.getD i []),c.natAbs < 2 ^ 4000:=fun c hc=>by
  obtain ⟨x,hx,rfl⟩:=List.mem_map.mp hc;rw [Int.natAbs_neg];exact bi x hx
 have ln:(neg (B.getD i [])).length=w:=by rw [Jd];exact wi
 have gc':=gc;have hpass:∀j,j < B.length→(pass B i p)[j]? = some (if j=i then neg (B.getD i []) else wo (B.getD j []) (neg (B.getD i [])) p):=fun j hj=>z9 hj
 generalize neg (B.getD i [])=hr at h1 bn ln gc' hpass A1;walk_at "rd";refine ⟨a,_,rfl,SqL.of (A1.same _ _ ha),?_⟩;refine Za6 (xs:=xs) fun D nD=>⟨fun j H2=>Acc K H D H2 (((pass B i p).take j).map dL)∧Same H1 H2,⟨by simpa using ⟨A1.same.trans (Zi nD _),A1.same.free nD,[],Zh,.nil⟩,Zi nD _⟩,fun j H2 _ A=>SqL.of (A.2 _ _ (A1.same _ _ ha)),?_,?_⟩
 ·rintro j x H2 T hx2 ⟨A,S2⟩ nT us hu
  obtain ⟨u0,u1,rfl⟩:∃u w,us=[u,w]:=by
   match us,hu with
   | [u,w],_=>exact ⟨u,w,rfl⟩
  have lj:j < B.length:=by rw [← lx];exact (List.getElem?_eq_some_iff.mp hx2).1
  obtain ⟨c,rfl,hc⟩:=hx j x _ hx2 (Yj lj);have wj:=wd _ (List.mem_of_getElem? (Yj lj));have bj:=bd _ (List.mem_of_getElem? (Yj lj));have pj:=hpass j lj
  have ne:D≠T:=by
   obtain ⟨ys,hy,_⟩:=A.at_;exact Zz hy nT
  have A2:=A.on (Zi nT (.tup [.int (j:Int),.ref c]));have S3:=S2.trans (Zi nT (.tup [.int (j:Int),.ref c]));have hT:upd H2 T (.tup [.int (j:Int),.ref c]) T=some (.tup [.int (j:Int),.ref c]):=Zh;generalize upd H2 T (.tup [.int (j:Int),.ref c])=H3 at A2 S3 hT ⊢;refine Y5 (SqT.of hT) rfl ?_;walk_at "rd";refine ⟨⟨[some (.int (j:Int)),some (.ref c)],rfl,rfl⟩,?_⟩;walk_at "rd"
  have fin:∀(q:Addr) (z:List Int) (H4:Hp),Same H3 H4→H4 q=some (.lst (z.map V.int))→H q=none→q≠D→(pass B i p)[j]? = some z→EltK D xs.length j (fun j H2=>Acc K H D H2 (((pass B i p).take j).map dL)∧Same H1 H2) (.ref q) H4:=by
   intro q z H4 S4 hq nq nqD ez;obtain ⟨ys,hy,ly,A5⟩:=(A2.on S4).push (d:=dL z) (S:=fun a=>H a=none∧a≠D) (kj ⟨nq,nqD⟩ hq) fun _ z=>z
   refine pushed (by omega) ⟨ys,hy,Zq (by rw [ly,List.length_map,List.length_take,G8];omega),?_,?_⟩
   ·rw [List.take_add_one,ez,List.map_append];exact A5
   ·refine fun b o e=>?_
    have nb:b≠D:=Zz e nD;rw [ZD nb];exact S4 _ _ (S3 _ _ e)
  refine Yi (fun q=>?_) (fun q=>?_)
  ·have q':j=i:=by
    have:(j:Int)=(i:Int):=by simpa using q
    omega
   walk_at "rd";exact fin hd hr H3 (Same.refl _) (S3 _ _ h1) A1.new (Zz h1 nD) (by rw [pj,if_pos q'])
  ·have q':j≠i:=fun z=>q (by simp [z])
   obtain ⟨g1,g2⟩:=gc' j lj q';walk_at "rd";refine ⟨c,hd,B.getD j [],hr,p,rfl,S3 _ _ (A1.same _ _ hc),S3 _ _ h1,by omega,by omega,by omega,bj,bn,g1,g2,fun r H4 C=>?_⟩
   exact fin r _ H4 C.same (AccZ.ints C) (A1.same.free (S3.free C.new)) (fun z=>by
    obtain ⟨ys,hy,_⟩:=A2.at_
    exact Zz hy C.new z.symm) (by rw [pj,if_neg q'])
 ·rintro H2 ⟨A,_⟩;rw [lx,← G8 B i p,List.take_length] at A;exact k D H2 A
def fbd(R:List (List Int))(es:List Int):List (List Int):=(List.range R.length).map fun i=>R.getD i []++ownR R.length i++[pt es i]
theorem qz(R:List (List Int))(es:List Int):(fbd R es).length=R.length:=by unfold fbd;rw [List.length_map,List.length_range]
theorem Zaj{R:List (List Int)}{es:List Int}{i:Nat}(h:i < R.length):(fbd R es)[i]? = some (R.getD i []++ownR R.length i++[pt es i]):=by unfold fbd;rw [List.getElem?_map,List.getElem?_range h];rfl
def Uw(K:Fg):Sp:=fun vs H Q _=>∃(a e:Addr) (R:List (List Int)) (es:List Int),vs=[.ref a,.ref e]∧Jc H a R∧H e=some (.lst (es.map V.int))∧es.length=R.length∧R.length≤50∧(∀r∈R,r.length≤50)∧∀(p:Addr) (H':Hp),Acc K H p H' ((fbd R es).map dL)→Q (.ref p) H'
theorem ZaY{K:Fg}{vs:List V}{H:Hp}{Q:VK}{E:XK}{x y:Str}(h:Uw K vs H Q E):vs.length=[x,y].length:=by
 obtain ⟨a,b,c,d,rfl,_⟩:=h;rfl
def jP(K:Fg):TS:=(tSeq (tAsg (ZG (Wx K) [] E0 (Zc (tCB (Yh K) (Zc (tVar 0) tNil)) tNil)) (Zn 2))
 (tRet (YX (Zcx K (Zc (tVar 0) (Zc (tVar 2) (Zc (tVar 1) tNil)))) 3 (gTup K 3 (Yg (Zn 0) (Yg (Zn 1) (Yg (Zn 2) gNil)))) (tOp rCat (tOp rCat (tCB (Gi K) (Zc (tVar 0) tNil)) (tVar 1)) (tLst (Zc (tVar 2) tNil))))))
theorem ZbI{K:Fg}{vs:List V}{H:Hp}{Q:VK}{E:XK}{N:List Str}(hN:N.length=3)(h:Uw K vs H Q E):jP K (ends Q) (L2.start N vs) H:=by
 obtain ⟨a,e,R,es,rfl,⟨xs,ha,lx,hx⟩,he,le,l50,r50,k⟩:=h;rw [show L2.start N [.ref a,.ref e]=[some (.ref a),some (.ref e),none] by unfold L2.start;rw [hN];rfl];unfold jP;walk_at "rd";refine Yu (SqL.of ha) ?_;rw [lx];walk_at "rd";refine ⟨R.length,rfl,by omega,fun u H1 A1=>?_⟩;obtain ⟨ys,hu,ry⟩:=A1.at_;have ly:ys.length=R.length:=by rw [ry.length,List.length_map,vM]
 have S1:=A1.same;walk_at "rd";refine ZfO ?_;walk_at "rd";refine ⟨a,u,e,_,_,_,rfl,SqL.of (S1 _ _ ha),SqL.of hu,SqL.of (S1 _ _ he),?_⟩;refine Za4 (xs:=xs) (ys:=ys) (zs:=es.map V.int) (m:=R.length) lx ly (by rw [List.length_map];exact le) fun D nD=>⟨fun j H2=>Acc K H1 D H2 (((fbd R es).take j).map dL),by simpa using Acc.start nD,fun j H2 _ A=>⟨SqL.of (A.same _ _ (S1 _ _ ha)),SqL.of (A.same _ _ hu),SqL.of (A.same _ _ (S1 _ _ he))⟩,?_,?_⟩
 ·intro j x y z H2 T e1 e2 e3 A nT us hu3
  obtain ⟨u1,u2,u3,rfl⟩:∃u0 u1 u2,us=[u0,u1,u2]:=by
   match us,hu3 with
   | [u0,u1,u2],_=>exact ⟨u0,u1,u2,rfl⟩
  have lj:j < R.length:=by rw [← lx];exact (List.getElem?_eq_some_iff.mp e1).1
  have rv:=(hx j x _ e1 (Yj lj)).same (S1.trans A.same);have lr:=r50 _ (List.mem_of_getElem? (Yj lj));have ej:=Zaj (es:=es) lj;obtain ⟨d,g1,g2⟩:=ry.get e2;rw [List.getElem?_map,uZ lj] at g1;cases g1;obtain ⟨cu,rfl,_,hcu⟩:=kE g2;have hcu2:=A.same _ _ hcu;have lo:(ownR R.length j).length=R.length:=U7 _ _;rw [List.getElem?_map,YJ (by omega)] at e3;cases e3;generalize R.getD j []=r at rv lr ej;generalize ownR R.length j=o at hcu2 lo ej;generalize pt es j=v at ej;have S3:=Zi nT (.tup [x,.ref cu,.int v]);have hT:upd H2 T (.tup [x,.ref cu,.int v]) T=some (.tup [x,.ref cu,.int v]):=Zh;generalize upd H2 T (.tup [x,.ref cu,.int v])=H3 at S3 hT ⊢;refine Y5 (SqT.of hT) rfl ?_;walk_at "rd";refine ⟨⟨[some x,some (.ref cu),some (.int v)],rfl,rfl⟩,?_⟩;walk_at "rd";refine ZfR (rv.same S3) fun l1 n1=>?_
  have S4:=S3.trans (Zi n1 (.lst (r.map V.int)));have h4:upd H3 l1 (.lst (r.map V.int)) l1=some (.lst (r.map V.int)):=Zh;generalize upd H3 l1 (.lst (r.map V.int))=H4 at S4 h4 ⊢;walk_at "rd";refine ⟨l1,cu,_,_,rfl,rfl,h4,S4 _ _ hcu2,by rw [List.length_map,List.length_map,sizeLine_eq];omega,fun l2 n2=>?_⟩;have S5:=S4.trans (Zi n2 (.lst (r.map V.int++o.map V.int)));have h5:upd H4 l2 (.lst (r.map V.int++o.map V.int)) l2=some (.lst (r.map V.int++o.map V.int)):=Zh;generalize upd H4 l2 (.lst (r.map V.int++o.map V.int))=H5 at S5 h5 ⊢;walk_at "rd";refine ⟨by show 1≤sizeLine;decide,fun l3 n3=>?_⟩;have S6:=S5.trans (Zi n3 (.lst [.int v]));have h6:upd H5 l3 (.lst [.int v]) l3=some (.lst [.int v]):=Zh;have h62:=Zi n3 (.lst [.int v]) _ _ h5;generalize upd H5 l3 (.lst [.int v])=H6 at S6 h6 h62 ⊢;walk_at "rd";refine ⟨l2,l3,_,_,rfl,rfl,h62,h6,by rw [List.length_append,List.length_map,List.length_map,sizeLine_eq];show r.length+o.length+1≤_;omega,fun l4 n4=>?_⟩;have S7:=S6.trans (Zi n4 (.lst (r.map V.int++o.map V.int++[.int v])));have h7:upd H6 l4 (.lst (r.map V.int++o.map V.int++[.int v])) l4=some (.lst ((r++o++[v]).map V.int)):=by rw [List.map_append,List.map_append];exact Zh
  have n42:H2 l4=none:=S6.free n4;generalize upd H6 l4 (.lst (r.map V.int++o.map V.int++[.int v]))=H7 at S7 h7 ⊢;refine pushed lj ?_;refine A.Yv S7 (d:=dL (r++o++[v])) (kj n42 h7) (Zq (by rw [List.length_map,List.length_take,qz];omega)) fun H8 A8=>?_
  show Acc K H1 D H8 (((fbd R es).take (j+1)).map dL);rw [List.take_add_one,ej,List.map_append];exact A8
 ·intro H2 A;rw [← qz R es,List.take_length] at A;obtain ⟨zs,hz,rz⟩:=A.at_;exact k D H2 ⟨S1.trans A.same,S1.free A.new,zs,hz,rz.mono fun _ z=>⟨S1.free z.1,z.2⟩⟩
def ownOf(B:List (List Int))(hs:List Nat)(i:Nat):Int:=pt (B.getD i []) (hs.getD i 0)
def bot(B:List (List Int))(hs:List Nat):Nat→Int
 | 0=>1
 | j+1=>(bot B hs j*ownOf B hs j).fdiv (Gd.gd (bot B hs j) (ownOf B hs j))
def numF(B:List (List Int))(hs:List Nat)(size:Nat)(bt:Int):Nat→List Int
 | 0=>List.replicate size 0
 | j+1=>if hs.getD j 0 < size then (numF B hs size bt j).set (hs.getD j 0) ((lastOf (B.getD j [])*bt).fdiv (ownOf B hs j)) else numF B hs size bt j
theorem YG(B:List (List Int))(hs:List Nat)(size:Nat)(bt:Int):∀j,(numF B hs size bt j).length=size
 | 0=>List.length_replicate
 | j+1=>by
  unfold numF;split
  ·rw [List.length_set];exact YG B hs size bt j
  ·exact YG B hs size bt j
def spLm:Sp:=fun vs H Q _=>∃a b:Int,vs=[.int a,.int b]∧b≠0∧a.natAbs < 2 ^ 8000∧b.natAbs < 2 ^ 8000∧Q (.int ((a*b).fdiv (Gd.gd a b))) H
theorem Zhe{vs:List V}{H:Hp}{Q:VK}{E:XK}{x y:Str}(h:spLm vs H Q E):vs.length=[x,y].length:=by
 obtain ⟨a,b,rfl,_⟩:=h;rfl
def t_lm(K:Fg):TS:=(tRet (tOp zY (tOp ZdH (tVar 0) (tVar 1)) (ZG qM [] E0 (Zc (tVar 0) (Zc (tVar 1) tNil)))))
theorem Zh3{K:Fg}{vs:List V}{H:Hp}{Q:VK}{E:XK}{N:List Str}(hN:N.length=2)(h:spLm vs H Q E):t_lm K (ends Q) (L2.start N vs) H:=by
 obtain ⟨a,b,rfl,b0,ha,hb,k⟩:=h;rw [show L2.start N [.int a,.int b]=[some (.int a),some (.int b)] by unfold L2.start;rw [hN];rfl];unfold t_lm;have p1:(2:Nat) ^ 8000 < 2 ^ 20000:=Nat.pow_lt_pow_right (by decide) (by decide);have p2:(2:Nat) ^ 8000 < 2 ^ 9000:=Nat.pow_lt_pow_right (by decide) (by decide);generalize (2:Nat) ^ 8000=P at ha hb p1 p2;have gp:=Gd.FW (a:=a) (b:=b) b0;have gl:=Gd.ZhN (a:=a) (b:=b) b0;walk_at "rd";refine ⟨a,b,rfl,rfl,⟨Nat.lt_trans ha p1,Nat.lt_trans hb p1⟩,?_⟩;walk_at "rd";refine ⟨a,b,rfl,?_⟩;exact ⟨_,_,rfl,rfl,⟨by omega,Nat.lt_trans (by omega) p2⟩,k⟩
def JF(K:Fg):Sp:=fun vs H Q _=>∃(a b:Addr) (B:List (List Int)) (hs:List Nat) (size w:Nat),vs=[.ref a,.ref b,.int (size:Int)]∧LnAt H a B∧H b=some (.lst (hs.map fun k:Nat=>.int (k:Int)))∧B.length=hs.length∧size≤100∧Wide (w+1) B∧(∀h∈hs,h < w) ∧
 (∀i,i < B.length→0 < ownOf B hs i∧(ownOf B hs i).natAbs < 2 ^ 8000∧(lastOf (B.getD i [])).natAbs < 2 ^ 8000)∧(∀j,j≤B.length→(bot B hs j).natAbs < 2 ^ 8000)∧(∀x∈numF B hs size (bot B hs B.length) B.length,x.natAbs < 2 ^ 9000) ∧
 ∀(q:Addr) (H':Hp),AccZ K H q H' ((lowR (numF B hs size (bot B hs B.length) B.length)).map Dat.int)→Q (.ref q) H'
theorem gR{K:Fg}{vs:List V}{H:Hp}{Q:VK}{E:XK}{x y z:Str}(h:JF K vs H Q E):vs.length=[x,y,z].length:=by
 obtain ⟨a,b,c,d,e,f,rfl,_⟩:=h;rfl
def Wn(K:Fg):TS:=(tSeq (tAsg (tC (.int 1)) (Zn 3))
 (tSeq (tFor (iZip K .L .L (Zc (tVar 0) (Zc (tVar 1) tNil))) (gTup K 2 (Yg (Zn 4) (Yg (Zn 5) gNil)))
 (tAsg (ZG spLm [] E0 (Zc (tVar 3) (Zc (tOp (rIxL K) (tVar 4) (tVar 5)) tNil))) (Zn 3)))
 (tSeq (tAsg (tOp rRep (tLst (Zc (tC (.int 0)) tNil)) (tVar 2)) (Zn 6))
 (tSeq (tFor (iZip K .L .L (Zc (tVar 0) (Zc (tVar 1) tNil))) (gTup K 2 (Yg (Zn 4) (Yg (Zn 5) gNil)))
 (tIfS (Z6 (tOp rLt (tVar 5) (tVar 2)))
 (tAsg (tOp zY (tOp ZdH (tOp (rIxL K) (tVar 4) (tUn (rU fun i=>.int (-i)) (tC (.int 1)))) (tVar 3)) (tOp (rIxL K) (tVar 4) (tVar 5))) (gSub (tVar 6) (tVar 5) ZdG))
 Z9))
 (tRet (ZG (vh K) [] E0 (Zc (tVar 6) tNil)))))))
theorem ZaI{K:Fg}{vs:List V}{H:Hp}{Q:VK}{E:XK}{N:List Str}(hN:N.length=7)(h:JF K vs H Q E):Wn K (ends Q) (L2.start N vs) H:=by
 obtain ⟨a,b,B,hs,size,w,rfl,⟨xs,ha,lx,hx⟩,hb,lb,sz,wd,hw,ow,bb,nb,k⟩:=h;rw [show L2.start N [.ref a,.ref b,.int (size:Int)]=[some (.ref a),some (.ref b),some (.int (size:Int)),none,none,none,none] by unfold L2.start;rw [hN];rfl];unfold Wn;have p1:(2:Nat) ^ 8000 < 2 ^ 20000:=Nat.pow_lt_pow_right (by decide) (by decide);have p2:(2:Nat) ^ 8000 < 2 ^ 9000:=Nat.pow_lt_pow_right (by decide) (by decide);generalize eP:(2:Nat) ^ 8000=P at ow bb p1 p2;have lh:(hs.map fun k:Nat=>V.int (k:Int)).length=B.length:=by rw [List.length_map];omega
 have line:∀j x y,xs[j]? = some x→(hs.map fun k:Nat=>V.int (k:Int))[j]? = some y→∃c,j < B.length∧x = .ref c∧y = .int ((hs.getD j 0:Nat):Int)∧H c=some (.lst ((B.getD j []).map V.int))∧hs.getD j 0 < w∧(B.getD j []).length=w+1:=by
  intro j x y e1 e2;have lj:j < B.length:=by rw [← lx];exact (List.getElem?_eq_some_iff.mp e1).1
  obtain ⟨c,rfl,hc⟩:=hx j x _ e1 (Yj lj);have eh:hs[j]? = some (hs.getD j 0):=by rw [List.getD_eq_getElem?_getD,List.getElem?_eq_getElem (by omega)];rfl
  rw [List.getElem?_map,eh] at e2;exact ⟨c,lj,rfl,(Option.some.inj e2).symm,hc,hw _ (List.mem_of_getElem? eh),wd _ (List.mem_of_getElem? (Yj lj))⟩
 walk_at "rd";refine ⟨a,b,_,_,rfl,SqL.of ha,SqL.of hb,?_⟩;refine ud (k1:=.L) (k2:=.L) (xs:=xs) (ys:=hs.map fun k:Nat=>V.int (k:Int)) lx lh (fun j σ H2=>∃u4 u5:Option V,σ = [some (.ref a),some (.ref b),some (.int (size:Int)),some (.int (bot B hs j)),u4,u5,none]∧Same H H2) ⟨none,none,rfl,Same.refl _⟩ (fun j σ H2 _ ⟨_,_,_,S⟩=>⟨SqL.of (S _ _ ha),SqL.of (S _ _ hb)⟩) ?_ ?_
 ·rintro j x y σ H2 T e1 e2 ⟨u4,u5,rfl,S2⟩ nT;obtain ⟨c,lj,rfl,rfl,hc,hj,lr⟩:=line j x y e1 e2;obtain ⟨o1,o2,_⟩:=ow j lj;have b1:=bb j (by omega);have S3:=S2.trans (Zi nT (.tup [.ref c,.int ((hs.getD j 0:Nat):Int)]));have hT:upd H2 T (.tup [.ref c,.int ((hs.getD j 0:Nat):Int)]) T=some (.tup [.ref c,.int ((hs.getD j 0:Nat):Int)]):=Zh;generalize upd H2 T (.tup [.ref c,.int ((hs.getD j 0:Nat):Int)])=H3 at S3 hT ⊢;refine Y5 (SqT.of hT) rfl ?_;walk_at "rd";refine Jm (SqL.of (S3 _ _ hc)) (ZdK (by omega)) ?_;walk_at "rd";refine ⟨bot B hs j,ownOf B hs j,rfl,by omega,by rw [eP];exact b1,by rw [eP];exact o2,?_⟩;walk_at "rd";exact ⟨_,_,rfl,S3⟩
 rintro σ H2 ⟨u4,u5,rfl,S2⟩;generalize hbt:bot B hs B.length=bt at nb k;have bt1:=bb B.length (Nat.le_refl _);rw [hbt] at bt1;walk_at "rd";refine ⟨by show 1≤sizeLine;decide,fun l0 n0=>?_⟩;have S3:=S2.trans (Zi n0 (.lst [.int 0]));have h0:upd H2 l0 (.lst [.int 0]) l0=some (.lst [.int 0]):=Zh;generalize upd H2 l0 (.lst [.int 0])=H3 at S3 h0 ⊢;walk_at "rd";refine ⟨l0,(size:Int),_,rfl,rfl,h0,by omega,by omega,by rw [sizeLine_eq];show 1*_≤_;omega,fun l nl=>?_⟩
 have er:(List.replicate (size:Int).toNat [V.int 0]).flatten=(numF B hs size bt 0).map V.int:=by
  rw [Int.toNat_natCast];show _=(List.replicate size (0:Int)).map V.int;rw [List.map_replicate,List.flatten_replicate_singleton]
 rw [er];have S4:=S3.trans (Zi nl (.lst ((numF B hs size bt 0).map V.int)));have hl:upd H3 l (.lst ((numF B hs size bt 0).map V.int)) l=some (.lst ((numF B hs size bt 0).map V.int)):=Zh;have nlH:H l=none:=S3.free nl;generalize upd H3 l (.lst ((numF B hs size bt 0).map V.int))=H4 at S4 hl ⊢;walk_at "rd";refine ⟨a,b,_,_,rfl,SqL.of (S4 _ _ ha),SqL.of (S4 _ _ hb),?_⟩;refine ud (k1:=.L) (k2:=.L) (xs:=xs) (ys:=hs.map fun k:Nat=>V.int (k:Int)) lx lh (fun j σ H2=>∃u4 u5:Option V,σ = [some (.ref a),some (.ref b),some (.int (size:Int)),some (.int bt),u4,u5,some (.ref l)]∧Same H H2∧H2 l=some (.lst ((numF B hs size bt j).map V.int))) ⟨_,_,rfl,S4,hl⟩ (fun j σ H2 _ ⟨_,_,_,S,_⟩=>⟨SqL.of (S _ _ ha),SqL.of (S _ _ hb)⟩) ?_ ?_
 ·rintro j x y σ H5 T e1 e2 ⟨u4,u5,rfl,S5,h5⟩ nT;obtain ⟨c,lj,rfl,rfl,hc,hj,lr⟩:=line j x y e1 e2;obtain ⟨o1,o2,o3⟩:=ow j lj;have S6:=S5.trans (Zi nT (.tup [.ref c,.int ((hs.getD j 0:Nat):Int)]));have h6:=Zi nT (.tup [.ref c,.int ((hs.getD j 0:Nat):Int)]) _ _ h5;have hT:upd H5 T (.tup [.ref c,.int ((hs.getD j 0:Nat):Int)]) T=some (.tup [.ref c,.int ((hs.getD j 0:Nat):Int)]):=Zh;generalize upd H5 T (.tup [.ref c,.int ((hs.getD j 0:Nat):Int)])=H6 at S6 hT h6 ⊢;refine Y5 (SqT.of hT) rfl ?_;walk_at "rd";refine Yi (fun q=>?_) (fun q=>?_)
  ·have q':hs.getD j 0 < size:=by
    have:((hs.getD j 0:Nat):Int) < (size:Int):=by simpa using q
    omega
   walk_at "rd";refine Jm (SqL.of (S6 _ _ hc)) (Wf (fun z=>by rw [z] at lr;cases lr)) ?_;walk_at "rd";refine ⟨_,_,rfl,rfl,⟨Nat.lt_trans o3 p1,Nat.lt_trans bt1 p1⟩,?_⟩;walk_at "rd";refine Jm (SqL.of (S6 _ _ hc)) (ZdK (by omega)) ?_;refine ⟨_,ownOf B hs j,rfl,rfl,⟨by omega,Nat.lt_trans o2 p2⟩,?_⟩;refine Zcr (g8 (i:=6) rfl (g8 (i:=5) rfl ?_));refine ⟨l,_,_,hs.getD j 0,rfl,rfl,h6,?_,?_⟩
   ·unfold ixN;rw [if_pos (by omega),if_pos (by rw [List.length_map,YG];omega)];simp
   ·refine ⟨_,_,rfl,fun cc o e=>?_,?_⟩
    ·rw [ZD (Zz e nlH)];exact S6 cc o e
    ·rw [Zh];show some (HO.lst _)=some (.lst ((numF B hs size bt (j+1)).map V.int));rw [show numF B hs size bt (j+1)=(numF B hs size bt j).set (hs.getD j 0) ((lastOf (B.getD j [])*bt).fdiv (ownOf B hs j)) from if_pos q',List.map_set]
  ·have q' : ¬ hs.getD j 0 < size:=fun z=>q (by simp;omega)
   walk_at "rd";refine ⟨_,_,rfl,S6,?_⟩;rw [show numF B hs size bt (j+1)=numF B hs size bt j from if_neg q'];exact h6
 ·rintro σ H5 ⟨u4,u5,rfl,S5,h5⟩;walk_at "rd";refine ⟨l,_,rfl,h5,by rw [YG];omega,nb,fun q H6 A6=>?_⟩;exact k q H6 ⟨S5.trans A6.same,S5.free A6.new,A6.at_⟩
end Br
namespace Bo
inductive Rn (m W:Nat) (f:Bd):Nat→Bd→Prop
 | z:Rn m W f 0 f
 | s {n:Nat} {b b':Bd} {i p:Nat}:Rn m W f n b→Stp m W b b' i p→Rn m W f (n+1) b'
theorem Rn.run{m W:Nat}{f:Bd}(o:Ok m W f){n:Nat}{b:Bd}(h:Rn m W f n b):∃(s:Nat→Bd) (i p:Nat→Nat),Run m W s i p 0 n∧s n=b:=by
 induction h with
 | z=>exact ⟨fun _=>f,fun _=>0,fun _=>0,⟨fun k _ _=>o,fun k _ h=>by omega⟩,rfl⟩
 | @s n b b' i0 p0 _ st ih =>
  obtain ⟨s,i,p,r,e⟩:=ih;refine ⟨fun k=>if k≤n then s k else b',fun k=>if k < n then i k else i0,fun k=>if k < n then p k else p0,⟨fun k _ hk=>?_,fun k _ hk=>?_⟩,if_neg (by omega)⟩
  ·show Ok m W (if k≤n then s k else b');split
   ·exact r.ok k (by omega) (by omega)
   ·have:=r.ok n (by omega) (by omega)
    rw [e] at this;exact st.ok this
  ·show Stp m W (if k≤n then s k else b') (if k+1≤n then s (k+1) else b') (if k < n then i k else i0) (if k < n then p k else p0);by_cases q:k < n
   ·rw [if_pos (by omega),if_pos (by omega),if_pos q,if_pos q];exact r.stp k (by omega) (by omega)
   ·have ek:k=n:=by omega
    subst ek;rw [if_pos (Nat.le_refl _),if_neg (by omega),if_neg q,if_neg q,e];exact st
theorem Rn.few{m W:Nat}{f:Bd}(o:Ok m W f){n:Nat}{b:Bd}(h:Rn m W f n b):n+1≤2 ^ W:=by
 obtain ⟨s,i,p,r,_⟩:=h.run o;refine Run.few W 0 n r fun k q1 q2=>?_
 have st:=r.stp k q1 q2;exact ⟨(r.ok k q1 (by omega)).lt _ st.im,st.pw⟩
end Bo
namespace Br
open Rk Sf Rw
def toBd(B:List (List Int))(hs:List Nat):Bo.Bd:=⟨fun i k=>pt (B.getD i []) k,fun i=>hs.getD i 0⟩
theorem Y9{r:List Int}{k:Nat}(h:r.length≤k):pt r k=0:=by
 unfold pt;rw [List.getD_eq_getElem?_getD,List.getElem?_eq_none h];rfl
theorem GK(r:List Int)(k:Nat):pt (neg r) k = - pt r k:=by
 by_cases h:k < r.length
 ·have e:(neg r)[k]? = some (- pt r k):=by unfold neg;rw [List.getElem?_map,YJ h];rfl
  unfold pt at e ⊢;rw [List.getD_eq_getElem?_getD,e];rfl
 ·rw [Y9 (r:=r) (by omega),Y9 (r:=neg r) (by rw [Jd];omega)];rfl
theorem ZeG{l h:List Int}{p:Nat}(e:l.length=h.length)(k:Nat):pt (wo0 l h p) k=pt h p*pt l k - pt l p*pt h k:=by
 by_cases q:k < l.length
 ·have e1:(wo0 l h p)[k]? = some (pt h p*pt l k - pt l p*pt h k):=by unfold wo0;rw [List.getElem?_zipWith,YJ q,YJ (by omega)]
  rw [show pt (wo0 l h p) k=((wo0 l h p)[k]?).getD 0 from by unfold pt;rw [List.getD_eq_getElem?_getD],e1];rfl
 ·rw [Y9 (by rw [Wg e];omega),Y9 (r:=l) (by omega),Y9 (r:=h) (k:=k) (by omega),Int.mul_zero,Int.mul_zero];rfl
theorem ZhO:∀(r:List Int) (a:Int),(r.foldl Gd.gd a∣a)∧∀c∈r,r.foldl Gd.gd a∣c
 | [],a=>⟨Int.dvd_refl _,fun c hc=>by cases hc⟩
 | x :: r,a=>by
  obtain ⟨h1,h2⟩:=ZhO r (Gd.gd a x);refine ⟨Int.dvd_trans h1 (Zae a x).1,fun c hc=>?_⟩;rcases List.mem_cons.mp hc with rfl | hc
  ·exact Int.dvd_trans h1 (Zae a c).2
  ·exact h2 c hc
theorem Zed(r:List Int)(k:Nat):gcdL r∣pt r k:=by
 by_cases h:k < r.length
 ·exact (ZhO r 0).2 _ (GP h)
 ·rw [Y9 (by omega)];exact Int.dvd_zero _
theorem ZhM{d:Int}:∀(r:List Int) (a:Int),d∣a→(∀c∈r,d∣c)→d∣r.foldl Gd.gd a
 | [],_,h,_=>h
 | x :: r,a,h,k=>ZhM r (Gd.gd a x) (Int.dvd_coe_gcd h (k x List.mem_cons_self)) fun c hc=>k c (List.mem_cons_of_mem _ hc)
theorem Zam{d:Int}{r:List Int}(h:∀k,k < r.length→d∣pt r k):d∣gcdL r:=ZhM r 0 (Int.dvd_zero _) fun c hc=>by
 obtain ⟨k,hk⟩:=List.getElem?_of_mem hc;have lk:=(List.getElem?_eq_some_iff.mp hk).1
 have:=h k lk
 rw [YJ lk] at hk;cases hk;exact this
theorem Zec{r:List Int}{k:Nat}(h:pt r k≠0):0 < gcdL r:=by
 have n0:∀(r:List Int) (a:Int),0≤a→0≤r.foldl Gd.gd a:=by
  intro r
  induction r with
  | nil=>exact fun a h=>h
  | cons x r ih=>exact fun a _=>ih _ (Gd.FZ _ _)
 have:=n0 r 0 (Int.le_refl _)
 have:=Gn h
 unfold gcdL at *;omega
theorem ZgJ{l h:List Int}{p:Nat}(g:gcdL (wo0 l h p)≠0)(k:Nat):gcdL (wo0 l h p)*pt (wo l h p) k=pt (wo0 l h p) k:=by
 by_cases q:k < (wo0 l h p).length
 ·have e:(wo l h p)[k]? = some ((pt (wo0 l h p) k).fdiv (gcdL (wo0 l h p))):=by unfold wo;rw [List.getElem?_map,YJ q];rfl
  rw [show pt (wo l h p) k=((wo l h p)[k]?).getD 0 from by unfold pt;rw [List.getD_eq_getElem?_getD],e];exact Int.mul_fdiv_cancel' (Zed _ k)
 ·rw [Y9 (r:=wo0 l h p) (k:=k) (by omega),Y9 (r:=wo l h p) (k:=k) (by unfold wo;rw [List.length_map];omega),Int.mul_zero]
theorem Ze1{l h:List Int}{p w:Nat}(g:gcdL (wo0 l h p)≠0)(hw:(wo0 l h p).length=w+1)(d:Int)(hd:∀k,k≤w→d∣pt (wo l h p) k):d∣1:=by
 have:gcdL (wo0 l h p)*d∣gcdL (wo0 l h p):=Zam fun k hk=>by
  rw [← ZgJ g k];exact Int.mul_dvd_mul_left _ (hd k (by omega))
 obtain ⟨c,hc⟩:=this;refine ⟨c,?_⟩;refine Int.eq_of_mul_eq_mul_left g ?_;rw [Int.mul_one,← Int.mul_assoc];exact hc
theorem Zbc{m w:Nat}{B:List (List Int)}{hs:List Nat}{i p j:Nat}(o:Bo.Ok m w (toBd B hs))(hi:i < m)(hj:j < m)(ne:j≠i)(lo:pt (B.getD i []) p < 0)(e:(B.getD j []).length=(neg (B.getD i [])).length):pt (wo0 (B.getD j []) (neg (B.getD i [])) p) (hs.getD j 0)≠0:=by
 rw [ZeG e,GK,GK];have o1:0 < pt (B.getD j []) (hs.getD j 0):=o.own j hj;have o2:pt (B.getD i []) (hs.getD j 0)=0:=o.oth i j hi hj (fun z=>ne z.symm);rw [o2,Int.neg_zero,Int.mul_zero,Int.sub_zero]
 have:=Int.mul_pos (show 0 < - pt (B.getD i []) p by omega) o1
 omega
theorem z8{B:List (List Int)}{i p j:Nat}(h:j < B.length):(pass B i p).getD j []=if j=i then neg (B.getD i []) else wo (B.getD j []) (neg (B.getD i [])) p:=by rw [List.getD_eq_getElem?_getD,z9 h];rfl
theorem ZbV{w:Nat}{B:List (List Int)}{hs:List Nat}{i p:Nat}(o:Bo.Ok B.length w (toBd B hs))(wd:Wide (w+1) B)(lh:hs.length=B.length)(hi:i < B.length)(pw:p < w)(short:pt (B.getD i []) w < 0)(low:pt (B.getD i []) p < 0)(first:∀k,k < p→0≤pt (B.getD i []) k)
  (least:∀j,j < B.length→pt (B.getD j []) w < 0→hs.getD i 0≤hs.getD j 0):Bo.Stp B.length w (toBd B hs) (toBd (pass B i p) (hs.set i p)) i p:=by
 have ln:∀j,j < B.length→(B.getD j []).length=w+1:=fun j hj=>wd _ (List.mem_of_getElem? (Yj hj))
 refine ⟨hi,pw,short,low,first,least,?_,fun j hj ne=>?_,fun k=>?_,fun j hj ne=>?_⟩
 ·show (hs.set i p).getD i 0=p;rw [List.getD_eq_getElem?_getD,List.getElem?_set_self (by omega)];rfl
 ·show (hs.set i p).getD j 0=hs.getD j 0;rw [List.getD_eq_getElem?_getD,List.getElem?_set_ne (fun z=>ne z.symm),List.getD_eq_getElem?_getD]
 ·show pt ((pass B i p).getD i []) k = - pt (B.getD i []) k;rw [z8 hi,if_pos rfl,GK]
 ·have e:(B.getD j []).length=(neg (B.getD i [])).length:=by rw [Jd,ln j hj,ln i hi]
  have nz:=Zbc o hi hj ne low e;refine ⟨gcdL (wo0 (B.getD j []) (neg (B.getD i [])) p),Zec nz,fun k=>?_⟩;show _*pt ((pass B i p).getD j []) k=(- pt (B.getD i []) p)*pt (B.getD j []) k - pt (B.getD j []) p*(- pt (B.getD i []) k);rw [z8 hj,if_neg ne,ZgJ (Gn nz),ZeG e,GK,GK]
theorem ZbW{w:Nat}{B:List (List Int)}{hs:List Nat}{i p j:Nat}(o:Bo.Ok B.length w (toBd B hs))(wd:Wide (w+1) B)(hi:i < B.length)(low:pt (B.getD i []) p < 0)(hj:j < B.length)(ne:j≠i)(d:Int)(hd:∀k,k≤w→d∣(toBd (pass B i p) (hs.set i p)).L j k):d∣1:=by
 have ln:∀j,j < B.length→(B.getD j []).length=w+1:=fun j hj=>wd _ (List.mem_of_getElem? (Yj hj))
 have e:(B.getD j []).length=(neg (B.getD i [])).length:=by rw [Jd,ln j hj,ln i hi]
 have nz:=Zbc o hi hj ne low e;refine Ze1 (Gn nz) (by rw [Wg e];exact ln j hj) d fun k hk=>?_
 have:=hd k hk
 rw [show (toBd (pass B i p) (hs.set i p)).L j k=pt ((pass B i p).getD j []) k from rfl,z8 hj,if_neg ne] at this;exact this
theorem ZbU{w:Nat}{B:List (List Int)}{i p:Nat}(wd:Wide (w+1) B)(hi:i < B.length):Wide (w+1) (pass B i p):=fun r hr=>by
 have ln:∀j,j < B.length→(B.getD j []).length=w+1:=fun j hj=>wd _ (List.mem_of_getElem? (Yj hj))
 obtain ⟨j,hj⟩:=List.getElem?_of_mem hr;have lj:j < B.length:=by rw [← G8 B i p];exact (List.getElem?_eq_some_iff.mp hj).1
 rw [z9 lj] at hj;cases hj;split
 ·rw [Jd];exact ln i hi
 ·unfold wo;rw [List.length_map,Wg (by rw [Jd,ln j lj,ln i hi])];exact ln j lj
theorem z6{a b:List Int}{k:Nat}(h:k < a.length):pt (a++b) k=pt a k:=by
 unfold pt;rw [List.getD_eq_getElem?_getD,List.getElem?_append_left h,List.getD_eq_getElem?_getD]
theorem zZ{a b:List Int}{k:Nat}:pt (a++b) (a.length+k)=pt b k:=by
 unfold pt;rw [List.getD_eq_getElem?_getD,List.getElem?_append_right (by omega),List.getD_eq_getElem?_getD,Nat.add_sub_cancel_left]
theorem ZgW{n i k:Nat}(h:k < n):pt (ownR n i) k=if k=i then 1 else 0:=by
 unfold pt ownR;rw [List.getD_eq_getElem?_getD,List.getElem?_map,List.getElem?_range h];rfl
theorem Zai{R:List (List Int)}{es:List Int}{i:Nat}(h:i < R.length):(fbd R es).getD i []=R.getD i []++ownR R.length i++[pt es i]:=by rw [List.getD_eq_getElem?_getD,Zaj h];rfl
def hs0(size m:Nat):List Nat:=(List.range m).map fun k=>size+k
theorem Zcz{size m i:Nat}(h:i < m):(hs0 size m).getD i 0=size+i:=by
 unfold hs0;rw [List.getD_eq_getElem?_getD,List.getElem?_map,List.getElem?_range h];rfl
section
variable{R:List (List Int)}{es:List Int}{size:Nat}
theorem G_(wd:Wide size R){i k:Nat}(hi:i < R.length)(hk:k < R.length):pt ((fbd R es).getD i []) (size+k)=if i=k then 1 else 0:=by
 have lr:(R.getD i []).length=size:=wd _ (List.mem_of_getElem? (Yj hi));have lo:(ownR R.length i).length=R.length:=U7 _ _;rw [Zai hi,z6 (by rw [List.length_append];omega)]
 have:=zZ (a:=R.getD i []) (b:=ownR R.length i) (k:=k)
 rw [lr] at this;rw [this,ZgW hk];by_cases e:k=i
 ·rw [if_pos e,if_pos e.symm]
 ·rw [if_neg e,if_neg fun z=>e z.symm]
theorem Zah(wd:Wide size R){i k:Nat}(hi:i < R.length)(hk:k < size):pt ((fbd R es).getD i []) k=pt (R.getD i []) k:=by
 have lr:(R.getD i []).length=size:=wd _ (List.mem_of_getElem? (Yj hi));rw [Zai hi,List.append_assoc,z6 (by omega)]
theorem Zgc(wd:Wide size R){i:Nat}(hi:i < R.length):pt ((fbd R es).getD i []) (size+R.length)=pt es i:=by
 have lr:(R.getD i []).length=size:=wd _ (List.mem_of_getElem? (Yj hi));have lo:(ownR R.length i).length=R.length:=U7 _ _;rw [Zai hi]
 have:=zZ (a:=R.getD i []++ownR R.length i) (b:=[pt es i]) (k:=0)
 rw [List.length_append,lr,lo,Nat.add_zero] at this;rw [this];rfl
theorem Zag(wd:Wide size R):Wide (size+R.length+1) (fbd R es):=fun r hr=>by
 obtain ⟨j,hj⟩:=List.getElem?_of_mem hr;have lj:j < R.length:=by rw [← qz R es];exact (List.getElem?_eq_some_iff.mp hj).1
 have lr:(R.getD j []).length=size:=wd _ (List.mem_of_getElem? (Yj lj));rw [Zaj lj] at hj;cases hj;rw [List.length_append,List.length_append,lr,U7];rfl
theorem ZhQ(wd:Wide size R):Bo.Ok R.length (size+R.length) (toBd (fbd R es) (hs0 size R.length)):=by
 refine ⟨fun i hi=>?_,fun i hi=>?_,fun i j hi hj ne=>?_⟩
 ·show (hs0 size R.length).getD i 0 < _;rw [Zcz hi];omega
 ·show 0 < pt ((fbd R es).getD i []) ((hs0 size R.length).getD i 0);rw [Zcz hi,G_ wd hi hi,if_pos rfl];decide
 ·show pt ((fbd R es).getD i []) ((hs0 size R.length).getD j 0)=0;rw [Zcz hj,G_ wd hi hj,if_neg ne]
theorem Zeg(wd:Wide size R):Bo.From R.length (size+R.length) size (toBd (fbd R es) (hs0 size R.length)) (toBd (fbd R es) (hs0 size R.length)) :=
 Bo.From.start (ZhQ wd) (fun l hl k hk=>G_ wd hl hk) (by omega)
end
end Br
namespace Bo
theorem jV(a:Nat):∀(b:Nat) (f:Nat→Int),sm (a+b) f=sm a f+sm b fun k=>f (a+k)
 | 0,f=>by show sm a f=sm a f+0;omega
 | b+1,f=>by
  show sm (a+b) f+f (a+b)=sm a f+(sm b (fun k=>f (a+k))+f (a+b))
  rw [jV a b f];omega
theorem Ze9(m:Nat)(W:Nat)(c z:Nat→Int)(L:Nat→Nat→Int):sm W (fun k=>sm m (fun j=>c j*L j k)*z k)=sm m fun j=>c j*sm W fun k=>L j k*z k:=by
 induction m with
 | zero=>exact W0 fun k _=>Int.zero_mul _
 | succ m ih =>
  show sm W (fun k=>(sm m (fun j=>c j*L j k)+c m*L m k)*z k)=sm m (fun j=>c j*sm W fun k=>L j k*z k)+c m*sm W fun k=>L m k*z k
  rw [← ih,← Ye,← J6];refine ZK fun k _=>?_
  rw [Int.add_mul,Int.mul_assoc]
theorem From.back{m W n:Nat}{f b:Bd}(F:From m W n f b){z:Nat→Int}{D:Int}(h:Sat m W b z D):Sat m W f z D:=by
 intro l hl;obtain ⟨d,d0,c,hc⟩:=F.span l hl;refine Int.eq_of_mul_eq_mul_left (a:=d) (by omega) ?_
 have e1:d*ev W (f.L l) z=sm m fun j=>c j*(D*b.L j W):=by
  unfold ev;rw [← Ye,show sm W (fun k=>d*(f.L l k*z k))=sm W (fun k=>sm m (fun j=>c j*b.L j k)*z k) from ZK fun k _=>by rw [← hc k,Int.mul_assoc],Ze9];exact ZK fun j hj=>by rw [← h j hj];rfl
 rw [e1,Int.mul_left_comm,hc W,← Ye];exact ZK fun j _=>by rw [Int.mul_left_comm]
theorem Zgt{n:Nat}{f:Nat→Int}(h:sm n f < 0):∃k,k < n∧f k < 0:=by
 refine Classical.byContradiction fun no=>?_
 have:=vq (n:=n) (f:=f) fun k hk=>Int.not_lt.mp fun z=>no ⟨k,hk,z⟩
 omega
end Bo
namespace Br
open Rk Sf Rw Bo
def ens(a n:Nat):List Int:=List.replicate a 0++List.replicate n (-1)
section
variable{R:List (List Int)}{n:Nat}
theorem Zgg(a n:Nat):(ens a n).length=a+n:=by unfold ens;rw [List.length_append,List.length_replicate,List.length_replicate]
theorem uh{a i:Nat}(h:i < a):pt (ens a n) i=0:=by
 unfold ens;rw [z6 (by rw [List.length_replicate];exact h)];unfold pt;rw [List.getD_eq_getElem?_getD,List.getElem?_replicate_of_lt h];rfl
theorem Zem{a j:Nat}(h:j < n):pt (ens a n) (a+j) = -1:=by
 unfold ens
 have:=zZ (a:=List.replicate a 0) (b:=List.replicate n (-1)) (k:=j)
 rw [List.length_replicate] at this;rw [this];unfold pt;rw [List.getD_eq_getElem?_getD,List.getElem?_replicate_of_lt h];rfl
end
theorem Zas{a o:Int}(h:0 < o)(ha:0 < a):0 < (a*o).fdiv (Gd.gd a o)∧a∣(a*o).fdiv (Gd.gd a o)∧o∣(a*o).fdiv (Gd.gd a o)∧(a*o).fdiv (Gd.gd a o)≤a*o:=by
 have g0:0 < Gd.gd a o:=Gd.FW (by omega);obtain ⟨⟨c,hc⟩,⟨d,hd⟩⟩:=Zae a o;generalize Gd.gd a o=g at g0 hc hd
 have e1:(a*o).fdiv g=a*d:=by
  have:a*o=g*(a*d):=by
   rw [hd];rw [Int.mul_left_comm]
  rw [this,Int.mul_fdiv_cancel_left _ (by omega)]
 have e2:a*d=o*c:=by
  rw [hc,hd,Int.mul_assoc,Int.mul_assoc,Int.mul_comm c d]
 have d0:0 < d:=by
  rcases Int.lt_or_le 0 d with q | q
  ·exact q
  ·have:=Int.mul_le_mul_of_nonneg_left q (show 0≤g by omega)
   omega
 rw [e1];refine ⟨Int.mul_pos ha d0,⟨d,rfl⟩,⟨c,e2⟩,Int.mul_le_mul_of_nonneg_left ?_ (by omega)⟩
 have:=Int.mul_le_mul_of_nonneg_right (show 1≤g by omega) (show 0≤d by omega)
 omega
section
variable{B:List (List Int)}{hs:List Nat}{m:Nat}
theorem Zc4(ow:∀i,i < m→0 < ownOf B hs i):∀j,j≤m→0 < bot B hs j∧∀i,i < j→ownOf B hs i∣bot B hs j
 | 0,_=>⟨by show (0:Int) < 1;decide,fun i hi=>absurd hi (Nat.not_lt_zero _)⟩
 | j+1,h=>by
  obtain ⟨h1,h2⟩:=Zc4 ow j (by omega);obtain ⟨s1,s2,s3,_⟩:=Zas (ow j (by omega)) h1;refine ⟨s1,fun i hi=>?_⟩;rcases Nat.lt_or_ge i j with q | q
  ·exact Int.dvd_trans (h2 i q) s2
  ·rw [show i=j by omega];exact s3
theorem bot_le{C:Nat}(ow:∀i,i < m→0 < ownOf B hs i∧(ownOf B hs i).natAbs≤C):∀j,j≤m→(bot B hs j).natAbs≤C ^ j
 | 0,_=>Nat.le_refl _
 | j+1,h=>by
  have h1:=(Zc4 (fun i hi=>(ow i hi).1) j (by omega)).1;have h2:=bot_le ow j (by omega);obtain ⟨o1,o2⟩:=ow j (by omega);obtain ⟨s1,_,_,s4⟩:=Zas o1 h1;have e:(bot B hs j*ownOf B hs j).natAbs≤C ^ j*C:=by rw [Int.natAbs_mul];exact Nat.mul_le_mul h2 o2
  rw [Nat.pow_succ];show ((bot B hs j*ownOf B hs j).fdiv (Gd.gd (bot B hs j) (ownOf B hs j))).natAbs≤_;omega
theorem vD{r:List Int}{p k:Nat}{v:Int}(h:p < r.length):pt (r.set p v) k=if p=k then v else pt r k:=by
 unfold pt;rw [List.getD_eq_getElem?_getD,List.getD_eq_getElem?_getD];split
 ·rename_i e;subst e;rw [List.getElem?_set_self h];rfl
 ·rename_i e;rw [List.getElem?_set_ne e]
theorem qt{size:Nat}{bt:Int}{k:Nat}:∀j,(∀i,i < j→hs.getD i 0≠k)→pt (numF B hs size bt j) k=0
 | 0,_=>by
  show pt (List.replicate size 0) k=0;unfold pt;rw [List.getD_eq_getElem?_getD];cases e:(List.replicate size (0:Int))[k]? with
  | none=>rfl
  | some c=>exact List.eq_of_mem_replicate (List.mem_of_getElem? e)
 | j+1,h=>by
  unfold numF;split
  ·rename_i q;rw [vD (by rw [YG];exact q),if_neg (h j (by omega))];exact qt j fun i hi=>h i (by omega)
  ·exact qt j fun i hi=>h i (by omega)
theorem qu{size:Nat}{bt:Int}(inj:∀i j,i < m→j < m→hs.getD i 0=hs.getD j 0→i=j){i:Nat}(hz:hs.getD i 0 < size):∀j,j≤m→i < j→pt (numF B hs size bt j) (hs.getD i 0)=(lastOf (B.getD i [])*bt).fdiv (ownOf B hs i)
 | 0,_,h=>absurd h (Nat.not_lt_zero _)
 | j+1,hm,h=>by
  unfold numF;rcases Nat.lt_or_ge i j with q | q
  ·split
   ·rename_i z;rw [vD (by rw [YG];exact z),if_neg fun e=>by have:=inj j i (by omega) (by omega) e;omega];exact qu inj hz j (by omega) q
   ·exact qu inj hz j (by omega) q
  ·have e:i=j:=by omega
   subst e;rw [if_pos hz,vD (by rw [YG];exact hz),if_pos rfl]
end
structure Zaw (m n:Nat) (b:Bo.Bd) (bt:Int) (u:Nat→Int):Prop where
 hold:∀i,i < m→b.h i < n→b.L i (b.h i)*u (b.h i)=bt*b.L i (n+m)
 none:∀k,k < n→(∀i,i < m→b.h i≠k)→u k=0
theorem Zaw.sol{m n:Nat}{b:Bo.Bd}{bt D:Int}{u z:Nat→Int}(o:Bo.Ok m (n+m) b)(U:Zaw m n b bt u)(z1:∀i,i < m→b.L i (b.h i)*z (b.h i)=D*b.L i (n+m))(z2:∀k,k < n+m→(∀i,i < m→b.h i≠k)→z k=0)(k:Nat)(hk:k < n):bt*z k=D*u k:=by
 by_cases h:∃i,i < m∧b.h i=k
 ·obtain ⟨i,hi,rfl⟩:=h;have o1:=o.own i hi;refine Int.eq_of_mul_eq_mul_left (a:=b.L i (b.h i)) (by omega) ?_;rw [Int.mul_left_comm,z1 i hi,Int.mul_left_comm (b.L i (b.h i)) D,U.hold i hi hk,Int.mul_left_comm]
 ·have no:∀i,i < m→b.h i≠k:=fun i hi e=>h ⟨i,hi,e⟩
  rw [z2 k (by omega) no,U.none k hk no,Int.mul_zero,Int.mul_zero]
section
variable{R:List (List Int)}{n:Nat}
end
end Br
namespace Br
open Rk Sf Rw Bo
def Sh(B:List (List Int))(hs:List Nat)(i:Nat):Prop:=hs.Nodup∧B.length=hs.length∧i < B.length∧lastOf (B.getD i []) < 0∧∀j,j < B.length→lastOf (B.getD j []) < 0→hs.getD i 0≤hs.getD j 0
theorem Sh.uniq{B:List (List Int)}{hs:List Nat}{i j:Nat}(a:Sh B hs i)(b:Sh B hs j):i=j:=by
 obtain ⟨nd,l,a1,a2,a3⟩:=a;obtain ⟨_,_,b1,b2,b3⟩:=b;have h1:=a3 j b1 b2;have h2:=b3 i a1 a2;have e:hs.getD i 0=hs.getD j 0:=by omega
 rw [List.getD_eq_getElem?_getD,List.getD_eq_getElem?_getD,List.getElem?_eq_getElem (by omega),List.getElem?_eq_getElem (by omega)] at e;exact (List.getElem_inj (h₀:=by omega) (h₁:=by omega) nd).mp e
inductive Tl (n rn w:Nat):List (List Int)→List Nat→Bool×List Int→Prop
 | yes {B:List (List Int)} {hs:List Nat}:(∀r∈B,0≤lastOf r)→Tl n rn w B hs (true,lowR (numF B hs n (bot B hs B.length) B.length))
 | no {B:List (List Int)} {hs:List Nat} {i:Nat}:Sh B hs i→(∀k,k < w→0≤pt (B.getD i []) k)→Tl n rn w B hs (false,((B.getD i []).drop n).take rn)
 | step {B:List (List Int)} {hs:List Nat} {i p:Nat} {r:Bool×List Int}:Sh B hs i→p < w→pt (B.getD i []) p < 0→(∀k,k < p→0≤pt (B.getD i []) k)→Tl n rn w (pass B i p) (hs.set i p) r→Tl n rn w B hs r
theorem Sh.bad{B:List (List Int)}{hs:List Nat}{i:Nat}(a:Sh B hs i)(h:∀r∈B,0≤lastOf r):False:=by
 obtain ⟨_,_,a1,a2,_⟩:=a
 have:=h _ (List.mem_of_getElem? (Yj a1))
 omega
theorem Tl.uniq{n rn w:Nat}{B:List (List Int)}{hs:List Nat}{r:Bool×List Int}(h:Tl n rn w B hs r):∀{r'},Tl n rn w B hs r'→r=r':=by
 induction h with
 | yes a =>
  intro r' h';cases h' with
  | yes _=>rfl
  | no s _=>exact (s.bad a).elim
  | step s _ _ _ _=>exact (s.bad a).elim
 | no s u =>
  intro r' h';cases h' with
  | yes a=>exact (s.bad a).elim
  | no s' _=>rw [s.uniq s']
  | step s' pw lo _ _ =>
   have:=s.uniq s'
   subst this
   have:=u _ pw
   omega
 | step s pw lo fi _ ih =>
  intro r' h';cases h' with
  | yes a=>exact (s.bad a).elim
  | no s' u =>
   have:=s.uniq s'
   subst this
   have:=u _ pw
   omega
  | @step _ _ i' p' _ s' pw' lo' fi' t' =>
   have:=s.uniq s'
   subst this;rename_i p _ _
   have e:p=p':=by
    rcases Nat.lt_trichotomy p p' with q | q | q
    ·have:=fi' p q;omega
    ·exact q
    ·have:=fi p' q;omega
   subst e;exact ih t'
section
variable(R:List (List Int))(n:Nat)
end
section
variable{R:List (List Int)}{n k:Nat}{B:List (List Int)}{hs:List Nat}
def big:Nat:=21*((2*(21*3)) ^ 20*3)
theorem Zc5:big < 2 ^ 150:=by decide
theorem Ze2{l h:List Int}{p N:Nat}(hl:∀c∈l,c.natAbs < N)(hh:∀c∈h,c.natAbs < N)(N0:0 < N):∀c∈wo0 l h p,c.natAbs < 2*(N*N):=by
 have pl:∀{r:List Int},(∀c∈r,c.natAbs < N)→(pt r p).natAbs < N:=fun {r} hr=>by
  by_cases q:p < r.length
  ·exact hr _ (GP q)
  ·rw [Y9 (by omega)];exact N0
 intro c hc;obtain ⟨i,hi⟩:=List.getElem?_of_mem hc;unfold wo0 at hi;rw [List.getElem?_zipWith] at hi;cases e1:l[i]? with
 | none=>rw [e1] at hi;simp at hi
 | some x =>
  cases e2:h[i]? with
  | none=>rw [e1,e2] at hi;simp at hi
  | some y =>
   rw [e1,e2] at hi;cases hi;have m1:(pt h p*x).natAbs < N*N:=by rw [Int.natAbs_mul];exact Nat.mul_lt_mul'' (pl hh) (hl x (List.mem_of_getElem? e1))
   have m2:(pt l p*y).natAbs < N*N:=by rw [Int.natAbs_mul];exact Nat.mul_lt_mul'' (pl hl) (hh y (List.mem_of_getElem? e2))
   generalize pt h p*x=X at m1 ⊢;generalize pt l p*y=Y at m2 ⊢;generalize N*N=Z at m1 m2 ⊢;rw [Nat.two_mul];exact Nat.lt_of_le_of_lt (Int.natAbs_sub_le _ _) (Nat.add_lt_add m1 m2)
theorem jX{r:List Int}{n rn l:Nat}(h:l < rn):pt ((r.drop n).take rn) l=pt r (n+l):=by
 unfold pt;rw [List.getD_eq_getElem?_getD,List.getD_eq_getElem?_getD,List.getElem?_take_of_lt h,List.getElem?_drop]
end
end Br
namespace Br
open PySem L2 Fr G1 Sm Vs G2 Rk Sz Sf Rw
open PySem.W (Dat kqdOk)
theorem Zd8{H:Hp}{Q:VK}{l0:Addr}{c:V}{k:Nat}(h0:H l0=some (.lst [c]))(hk:k≤100)(h:∀l,H l=none→Q (.ref l) (upd H l (.lst (List.replicate k c)))):rRep (.ref l0) (.int (k:Int)) H Q:=by
 refine ⟨l0,(k:Int),_,rfl,rfl,h0,by omega,by omega,by rw [sizeLine_eq];show 1*_≤_;omega,fun l nl=>?_⟩;rw [Int.toNat_natCast,List.flatten_replicate_singleton];exact h l nl
theorem uO{K:Fg}{S:Addr→Prop}{H:Hp}{q:Addr}{xs zs:List V}{R Z:List (List Int)}(hq:H q=some (.lst (xs++zs)))(lx:xs.length=R.length)(hx:∀(i:Nat) (x:V) (r:List Int),xs[i]? = some x→R[i]? = some r→RowV H x r)(rz:RpL K S H zs (Z.map dL)):Jc H q (R++Z):=by
 have lz:zs.length=Z.length:=by rw [rz.length,List.length_map]
 refine ⟨_,hq,by rw [List.length_append,List.length_append];omega,fun i x r e1 e2=>?_⟩;rcases Nat.lt_or_ge i xs.length with h | h
 ·rw [List.getElem?_append_left h] at e1;rw [List.getElem?_append_left (by omega)] at e2;exact hx i x r e1 e2
 ·rw [List.getElem?_append_right h] at e1;rw [List.getElem?_append_right (by omega),← lx] at e2;obtain ⟨d,g1,g2⟩:=rz.get e1;rw [List.getElem?_map,e2] at g1;cases g1;obtain ⟨b,rfl,_,hb⟩:=kE g2;exact ⟨b,rfl,.inl hb⟩
theorem Zh8{K:Fg}{S:Addr→Prop}{H:Hp}{p:Addr}{xs:List V}{B:List (List Int)}(h:H p=some (.lst xs))(rx:RpL K S H xs (B.map dL)):LnAt H p B:=by
 refine ⟨xs,h,by rw [rx.length,List.length_map],fun i x r e1 e2=>?_⟩;obtain ⟨d,g1,g2⟩:=rx.get e1;rw [List.getElem?_map,e2] at g1;cases g1;obtain ⟨b,rfl,_,hb⟩:=kE g2;exact ⟨b,rfl,hb⟩
theorem Zhd{K:Fg}{H0 H:Hp}{p q:Addr}{B:List (List Int)}{o0 o:HO}(A:Acc K H0 p H (B.map dL))(hq:H0 q=some o0):LnAt (upd H q o) p B:=by
 obtain ⟨xs,h1,h2⟩:=A.at_;refine ⟨xs,by rw [ZD (Zz hq A.new).symm];exact h1,by rw [h2.length,List.length_map],fun i x r e1 e2=>?_⟩;obtain ⟨d,g1,g2⟩:=h2.get e1;rw [List.getElem?_map,e2] at g1;cases g1;obtain ⟨b,rfl,nb,hb⟩:=kE g2;exact ⟨b,rfl,by rw [ZD (Zz hq nb.1).symm];exact hb⟩
theorem Zgj(xs:List V)(n k:Nat)(h:n+k≤xs.length):cutV xs (some (n:Int)) (some ((n:Int)+(k:Int)))=(xs.drop n).take k:=by
 unfold cutV
 have e1:HT.sIx xs.length 0 (some (n:Int))=n:=by
  show (if (n:Int) < 0 then ((n:Int)+(xs.length:Nat)).toNat else min (n:Int).toNat xs.length)=_;rw [if_neg (by omega)];omega
 have e2:HT.sIx xs.length xs.length (some ((n:Int)+(k:Int)))=n+k:=by
  show (if (n:Int)+(k:Int) < 0 then ((n:Int)+(k:Int)+(xs.length:Nat)).toNat else min ((n:Int)+(k:Int)).toNat xs.length)=_;rw [if_neg (by omega)];omega
 rw [e1,e2,Nat.add_sub_cancel_left]
def qG(r:Bool×List Int):Dat:=.tuple [.bool r.1,dL r.2]
def hsV(hs:List Nat):List V:=hs.map fun k:Nat=>.int (k:Int)
def AtV(B:List (List Int))(hs:List Nat)(v:V):Prop:=(v = .non∧∀r∈B,0≤lastOf r)∨∃i:Nat,v = .int (i:Int)∧Sh B hs i
structure HI (H:Hp) (H3:Hp) (pB pH:Addr) (B:List (List Int)) (hs:List Nat):Prop where
 same:Same H H3
 nH:H pH=none
 bd:LnAt H3 pB B
 hd:H3 pH=some (.lst (hsV hs))
theorem HI.on{H H3 H4:Hp}{pB pH:Addr}{B:List (List Int)}{hs:List Nat}(I:HI H H3 pB pH B hs)(S:Same H3 H4):HI H H4 pB pH B hs:=⟨I.same.trans S,I.nH,I.bd.same S,S _ _ I.hd⟩
def Wk(K:Fg):TS:=(tSeq (tAsg (tCB (Yh K) (Zc (tOp (rIxL K) (tVar 1) (tC (.int 0))) tNil)) (Zn 2))
 (tSeq (tAsg (ZG (Uw K) [] E0 (Zc (tOp rCat (tVar 0) (ZG (WL K) [] E0 (Zc (tVar 1) tNil))) (Zc (tOp rCat (tOp rRep (tLst (Zc (tC (.int 0)) tNil)) (tCB (Yh K) (Zc (tVar 0) tNil))) (tOp rRep (tLst (Zc (tUn (rU fun i=>.int (-i)) (tC (.int 1))) tNil)) (tCB (Yh K) (Zc (tVar 1) tNil)))) tNil))) (Zn 3))
 (tSeq (tAsg (Uh (Zc (tVar 2) (Zc (tOp qAdd (tVar 2) (tCB (Yh K) (Zc (tVar 3) tNil))) tNil))) (Zn 4))
 (tSeq (tAsg (ZG (Ui K) [] E0 (Zc (tVar 3) (Zc (tVar 4) tNil))) (Zn 5))
 (tSeq (Wt (Z6 (tOp Zfn (tVar 5) (tC .non)))
 (tSeq (tAsg (ZG (WY K) [] E0 (Zc (tOp (rIxL K) (tVar 3) (tVar 5)) tNil)) (Zn 6))
 (tSeq (tIfS (Z6 (tOp rIsN (tVar 6) (tC .non)))
 (tRet (tTup (Zc (tC (.bl false)) (Zc (tSl (rSlL K) (tOp (rIxL K) (tVar 3) (tVar 5)) (yZ (tVar 2)) (yZ (tOp qAdd (tVar 2) (tCB (Yh K) (Zc (tVar 0) tNil))))) tNil))))
 Z9)
 (tSeq (tAsg (ZG (Uu K) [] E0 (Zc (tVar 3) (Zc (tVar 5) (Zc (tVar 6) tNil)))) (Zn 3))
 (tSeq (tAsg (tVar 6) (gSub (tVar 4) (tVar 5) ZdG))
 (tAsg (ZG (Ui K) [] E0 (Zc (tVar 3) (Zc (tVar 4) tNil))) (Zn 5)))))))
 (tRet (tTup (Zc (tC (.bl true)) (Zc (ZG (JF K) [] E0 (Zc (tVar 3) (Zc (tVar 4) (Zc (tVar 2) tNil)))) tNil)))))))))
end Br
namespace Br
open Rk Sf Rw Bo
def dbl(R:List (List Int)):List (List Int):=R++R.map neg
def dif(y:List Int)(a:Nat):List Int:=List.zipWith (fun s t=>s - t) (y.take a) (y.drop a)
theorem Uk(R:List (List Int)):(dbl R).length=R.length+R.length:=by unfold dbl;rw [List.length_append,List.length_map]
theorem ZcT{R:List (List Int)}{i:Nat}(h:i < R.length):(dbl R).getD i []=R.getD i []:=by
 unfold dbl;rw [List.getD_eq_getElem?_getD,List.getElem?_append_left h,List.getD_eq_getElem?_getD]
theorem ZcU{R:List (List Int)}{i:Nat}(h:i < R.length):(dbl R).getD (R.length+i) []=neg (R.getD i []):=by
 unfold dbl;rw [List.getD_eq_getElem?_getD,List.getElem?_append_right (by omega),Nat.add_sub_cancel_left,List.getElem?_map,Yj h];rfl
theorem Zep{n:Nat}{R:List (List Int)}(wd:Wide n R):Wide n (dbl R):=fun r hr=>by
 rcases List.mem_append.mp hr with h | h
 ·exact wd r h
 ·obtain ⟨o,ho,rfl⟩:=List.mem_map.mp h;rw [Jd];exact wd o ho
theorem ZcS{R:List (List Int)}(b3:∀r∈R,∀c∈r,c.natAbs≤3):∀r∈dbl R,∀c∈r,c.natAbs≤3:=fun r hr c hc=>by
 rcases List.mem_append.mp hr with h | h
 ·exact b3 r h c hc
 ·obtain ⟨o,ho,rfl⟩:=List.mem_map.mp h;obtain ⟨x,hx,rfl⟩:=List.mem_map.mp hc;rw [Int.natAbs_neg];exact b3 o ho x hx
theorem yJ{y:List Int}{a:Nat}(h:y.length=a+a):(dif y a).length=a:=by
 unfold dif;rw [List.length_zipWith,List.length_take,List.length_drop];omega
theorem ZeT{y:List Int}{a l:Nat}(h:y.length=a+a)(hl:l < a):pt (dif y a) l=pt y l - pt y (a+l):=by
 have e:(dif y a)[l]? = some (pt y l - pt y (a+l)):=by
  unfold dif;rw [List.getElem?_zipWith,List.getElem?_take_of_lt hl,List.getElem?_drop,YJ (by omega),YJ (by omega)]
 rw [show pt (dif y a) l=((dif y a)[l]?).getD 0 from by unfold pt;rw [List.getD_eq_getElem?_getD],e];rfl
theorem Zgu(n:Nat)(f:Nat→Int):sm n (fun k=>- f k) = - sm n f:=by
 rw [show (fun k=>- f k)=fun k=>(-1)*f k from funext fun k=>by rw [Int.neg_one_mul],Ye,Int.neg_one_mul]
theorem jW(f:Nat→Int):∀n,((List.range n).map f).sum=sm n f
 | 0=>rfl
 | n+1=>by rw [List.range_succ,List.map_append,List.sum_append,jW f n];show sm n f+(f n+0)=_;rw [Int.add_zero];rfl
theorem Zgo:∀(n:Nat) (m r:List Int),m.length=n→r.length=n→(List.zipWith (· * ·) m r).sum=sm n fun q=>pt r q*pt m q
 | n,m,r,h1,h2=>by
  rw [← jW];congr 1;refine List.ext_getElem? fun i=>?_
  rw [List.getElem?_zipWith,List.getElem?_map];by_cases h:i < n
  ·rw [YJ (r:=m) (by omega),YJ (r:=r) (by omega),List.getElem?_range h];show some (pt m i*pt r i)=some (pt r i*pt m i);rw [Int.mul_comm]
  ·rw [List.getElem?_eq_none (l:=m) (by omega),List.getElem?_eq_none (l:=List.range n) (by rw [List.length_range];omega)];rfl
def comes(y:List Int)(R:List (List Int))(n:Nat):List Int:=(List.range n).map fun k=>sm R.length fun l=>pt y l*pt (R.getD l []) k
theorem kO(y:List Int)(R:List (List Int))(n:Nat):(comes y R n).length=n:=by unfold comes;rw [List.length_map,List.length_range]
theorem Zaq{y:List Int}{R:List (List Int)}{n k:Nat}(h:k < n):(comes y R n)[k]? = some (sm R.length fun l=>pt y l*pt (R.getD l []) k):=by unfold comes;rw [List.getElem?_map,List.getElem?_range h];rfl
theorem pts{y:List Int}{P:Int→Prop}(h:∀k,k < y.length→P (pt y k)):∀x∈y,P x:=fun x hx=>by
 obtain ⟨k,hk⟩:=List.getElem?_of_mem hx;have lk:=(List.getElem?_eq_some_iff.mp hk).1;rw [YJ lk] at hk
 have:=h k lk
 rw [Option.some.inj hk] at this;exact this
end Br
namespace L2
open PySem PySem.Spec PyProof.Rows
open PySem.W (Dat kqdP kqdPs kqdOk)
def rEqS(K:Fg):R2:=fun x y H Q=>∃d,Rep K H x d∧Rep K H y d∧SeqAt.shaped (kqdP d)=true∧PyData.eqv (kqdP d) (kqdP d)=true∧Q (.bl true) H
theorem ZgZ{X:Cx}(hu:X.A.units+64 < cLine):OpR X (compareOp .Eq) (rEqS X.K):=by
 intro pins s σ H x y v u Q I rx ry h;obtain ⟨d,hd,he,sh,ev,q⟩:=h;obtain ⟨as,ra⟩:=Rep.reads I hd rx;obtain ⟨bs,rb⟩:=Rep.reads I he ry;exact eq_dataH ra rb sh sh hu ⟨_,H,I,(by rw [ev];rfl),q⟩
end L2
namespace Br
open PySem L2 Fr G1 Sm Vs G2 Rk Sz Sf Rw Cl
open PySem.W (Dat kqdOk)
open PyProof.Rows
theorem jH{K:Fg}{S:Addr→Prop}{H:Hp}{v:V}{r:Bool×List Int}(h:Rp K S H v (qG r)):∃p l,v = .ref p∧H p=some (.tup [.bl r.1,.ref l])∧S l∧H l=some (.lst (r.2.map V.int)):=by
 obtain ⟨p,xs,rfl,hp,rx⟩:=Rp.Yz h;cases rx with
 | cons r1 rr =>
  cases rr with
  | cons r2 rr =>
   cases rr;cases r1;obtain ⟨l,rfl,s,hl⟩:=kE r2;exact ⟨p,l,rfl,hp,s,hl⟩
theorem Zb1(r:Bool×List Int):SeqAt.shaped (PySem.W.kqdP (qG r))=true∧PyData.eqv (PySem.W.kqdP (qG r)) (PySem.W.kqdP (qG r))=true:=by
 obtain ⟨l1,l2⟩:=PySem.W.kqd_lay 7 (dL r.2) (Zfz r.2 6);have q:=(PySem.W.kqd_eqv 7 (dL r.2) (dL r.2) 7 (Zfz r.2 6) (Zfz r.2 6)).mpr rfl;have e:PySem.W.kqdP (qG r) = .tuple [.bool r.1,PySem.W.kqdP (dL r.2)]:=by unfold qG;simp only [PySem.W.kqdP,PySem.W.kqdPs]
 rw [e];generalize PySem.W.kqdP (dL r.2)=d at l1 l2 q;refine ⟨?_,?_⟩
 ·unfold SeqAt.shaped;simp only [PyData.canLay0,PyData.canLayAll0,PyData.depth,PyData.depthAll,l1,Bool.and_true,Bool.true_and,decide_eq_true_eq];exact decide_eq_true (by omega)
 ·simp only [PyData.eqv,PyData.eqvAll,q,Bool.and_true,beq_self_eq_true]
theorem Zer(xs:List V){k:Nat}(h:k≤xs.length):cutV xs none (some (k:Int))=xs.take k:=by
 unfold cutV;have e1:HT.sIx xs.length 0 none=0:=rfl
 have e2:HT.sIx xs.length xs.length (some (k:Int))=k:=by
  show (if (k:Int) < 0 then ((k:Int)+(xs.length:Nat)).toNat else min (k:Int).toNat xs.length)=_;rw [if_neg (by omega)];omega
 rw [e1,e2,List.drop_zero,Nat.sub_zero]
theorem vK{H H':Hp}{a:Addr}{R:List (List Int)}(h:Jc H a R)(S:Same H H'):Jc H' a R:=by
 obtain ⟨us,g1,g2,g3⟩:=h;exact ⟨us,S _ _ g1,g2,fun i x r e1 e2=>(g3 i x r e1 e2).same S⟩
theorem ch3{w:Nat}{ts:List Tn}(co:ChOk w ts):∀r∈ts.map chg,∀c∈r,c.natAbs≤3:=fun r hr c hc=>by
 have:=co.bnd r hr c hc
 have e:(2:Nat) ^ 2=4:=rfl;rw [e] at this;omega
end Br
namespace Br
open PySem L2 Fr G1 Sm Vs G2 Rk Sz Sf Rw Cl
open PySem.W (Dat kqdOk)
end Br
namespace Br
open PySem L2 Fr G1 Sm Vs G2 Rk Sz Sf Rw Cl
open PySem.W (Dat kqdOk)
def vg(K:Fg):Sp:=fun vs H Q _=>∃(p:Addr) (b:Bool) (y:V),vs=[.ref p]∧H p=some (.tup [.bl b,y])∧Q (.bl true) H
theorem ZdV{K:Fg}{vs:List V}{H:Hp}{Q:VK}{E:XK}{x:Str}(h:vg K vs H Q E):vs.length=[x].length:=by
 obtain ⟨a,b,c,rfl,_⟩:=h;rfl
def Zbg (K:Fg):TS:=(tRet (vd (tCB (rIsi K) (Zc (tVar 0) (Zc (tC (.ty "tuple")) tNil))) (vd (tOp rEq (tCB (Yh K) (Zc (tVar 0) tNil)) (tC (.int 2))) (tCB (rIsi K) (Zc (tOp (rIxT K) (tVar 0) (tC (.int 0))) (Zc (tC (.ty "bool")) tNil))))))
theorem Zfc{K:Fg}{vs:List V}{H:Hp}{Q:VK}{E:XK}{N:List Str}(hN:N.length=1)(h:vg K vs H Q E):Zbg K (ends Q) (L2.start N vs) H:=by
 obtain ⟨p,b,y,rfl,hp,k⟩:=h;rw [show L2.start N [.ref p]=[some (.ref p)] by unfold L2.start;rw [hN];rfl];unfold Zbg;walk_at "rd";refine ZfW (.tup hp) Zhg ?_;walk_at "rd";refine Jx (SqT.of hp) ?_;walk_at "rd";refine Yi (fun _=>?_) (fun z=>absurd rfl z);walk_at "rd";refine Z_ (SqT.of hp) (v:=.bl b) rfl ?_;walk_at "rd";exact ZfW (.bl b) Zhj k
def jl(K:Fg):Sp:=fun vs H Q _=>∃(a:Addr) (xs:List Int) (low:Int),vs=[.ref a,.int (xs.length:Int),.int low]∧H a=some (.lst (xs.map V.int))∧xs≠[]∧xs.length≤100∧(∀x∈xs,low≤x)∧(∀x∈xs,x.natAbs < 10 ^ 60)∧∀H',Same H H'→Q (.bl true) H'
theorem ZdX{K:Fg}{vs:List V}{H:Hp}{Q:VK}{E:XK}{x y z:Str}(h:jl K vs H Q E):vs.length=[x,y,z].length:=by
 obtain ⟨a,b,c,rfl,_⟩:=h;rfl
def Zbi (K:Fg):TS:=(tSeq (tIfS (tOr (tNot (tB (tCB (rIsi K) (Zc (tVar 0) (Zc (tC (.ty "list")) tNil))))) (tOr (Z6 (tOp rNe (tCB (Yh K) (Zc (tVar 0) tNil)) (tVar 1))) (tNot (tB (tCB (rAll K) (Zc (Y6 (U9 K (tVar 0)) (ZG Jp [] E0 (Zc (tVar 0) tNil))) tNil))))))
 (tRet (tC (.bl false)))
 Z9)
 (tRet (vd (tOp rGe (tCB (ZdI K) (Zc (tVar 0) tNil)) (tVar 2)) (tOp rLt (tCB (Zfo K) (Zc (Y6 (U9 K (tVar 0)) (tCB rAbs (Zc (tVar 0) tNil))) tNil)) (tOp rPow (tC (.int 10)) (tC (.int 60)))))))
theorem Zfe{K:Fg}{vs:List V}{H:Hp}{Q:VK}{E:XK}{N:List Str}(hN:N.length=3)(h:jl K vs H Q E):Zbi K (ends Q) (L2.start N vs) H:=by
 obtain ⟨a,m,low,rfl,ha,ne,n1,lo,bd,k⟩:=h;rw [show L2.start N [.ref a,.int (m.length:Int),.int low]=[some (.ref a),some (.int (m.length:Int)),some (.int low)] by unfold L2.start;rw [hN];rfl];unfold Zbi;walk_at "rd";refine ZfW (.lst ha) yD ?_;walk_at "rd";refine Yu (SqL.of ha) ?_;rw [List.length_map];walk_at "rd";refine FT (fun z=>absurd rfl z) (fun _=>?_);walk_at "rd";refine FN (SqL.of ha) ?_;refine YL (xs:=m.map V.int) fun D nD=>⟨fun j H2=>AccZ K H D H2 ((List.replicate j true).map Dat.bool),by simpa using AccZ.start (Same.refl _) nD,fun j H2 _ A=>SqL.of (A.same _ _ ha),?_,?_⟩
 ·intro j x H2 hx A;have lj:=(List.getElem?_eq_some_iff.mp hx).1;rw [List.getElem?_map] at hx;obtain ⟨c,hc,rfl⟩:=Option.map_eq_some_iff.mp hx;walk_at "rd";refine ⟨c,rfl,?_⟩;exact yL (H0:=H) (by rw [List.length_map];omega) lj (fun _ _=>Iff.rfl) A (Same.refl _)
 intro H2 A;walk_at "rd";refine k_all (AccZ.bls A) ?_;rw [ZhX];walk_at "rd";refine ⟨a,m,rfl,SqL.of (A.same _ _ ha),ne,fun t ht _=>?_⟩;walk_at "rd";refine Yi (fun _=>?_) (fun z=>absurd (lo t ht) z);walk_at "rd";refine FN (SqL.of (A.same _ _ ha)) ?_;refine YL (xs:=m.map V.int) fun D2 nD2=>⟨fun j H5=>AccZ K H D2 H5 (((m.take j).map fun c=>(if c < 0 then -c else c)).map Dat.int),by simpa using AccZ.start A.same nD2,fun j H5 _ B=>SqL.of (B.same _ _ ha),?_,?_⟩
 ·intro j x H5 hx B;have lj:=(List.getElem?_eq_some_iff.mp hx).1;rw [List.getElem?_map] at hx;obtain ⟨c,hc,rfl⟩:=Option.map_eq_some_iff.mp hx;walk_at "rd";refine pushed lj ?_;refine B.Yv (.int _) (Zq (by rw [List.length_map,List.length_map,List.length_take];omega)) fun H6 B6=>?_
  show AccZ K H D2 H6 (((m.take (j+1)).map fun c=>(if c < 0 then -c else c)).map Dat.int);rw [List.take_add_one,hc,List.map_append,List.map_append];exact B6
 intro H5 B;rw [List.take_of_length_le (by rw [List.length_map];exact Nat.le_refl _)] at B;walk_at "rd";refine ⟨D2,_,rfl,SqL.of (AccZ.ints B),by simpa using ne,fun t ht _=>?_⟩;obtain ⟨c,hc,rfl⟩:=List.mem_map.mp ht;have bc:=bd c hc;walk_at "rd"
 have lt:(if c < 0 then -c else c) < (10:Int) ^ (60:Int).toNat:=by
  have z3:((10:Int) ^ (60:Int).toNat)=((10 ^ 60:Nat):Int):=by decide
  rw [z3];split <;> omega
 rw [decide_eq_true lt];exact k H5 B.same
def Uq(K:Fg):Sp:=fun vs H Q _=>∃(a c:Addr) (m r:List Int),vs=[.ref a,.ref c]∧H a=some (.lst (m.map V.int))∧H c=some (.lst (r.map V.int))∧m.length≤100∧(∀x∈r,x.natAbs < 2 ^ 60)∧∀H',Same H H'→Q (.int (wrt m r)) H'
theorem ZaS{K:Fg}{vs:List V}{H:Hp}{Q:VK}{E:XK}{x y:Str}(h:Uq K vs H Q E):vs.length=[x,y].length:=by
 obtain ⟨a,b,c,d,rfl,_⟩:=h;rfl
def jJ(K:Fg):TS:=(tRet (tCB (Zfl K) (Zc (YX (iZip K .L .L (Zc (tVar 0) (Zc (tVar 1) tNil))) 2 (gTup K 2 (Yg (Zn 0) (Yg (Zn 1) gNil))) (tOp (rI CMul fun i j=>.int (i*j)) (tVar 0) (tVar 1))) tNil)))
theorem ZbB{K:Fg}{vs:List V}{H:Hp}{Q:VK}{E:XK}{N:List Str}(hN:N.length=2)(h:Uq K vs H Q E):jJ K (ends Q) (L2.start N vs) H:=by
 obtain ⟨a,c,m,r,rfl,ha,hc,hl,hb,k⟩:=h;rw [show L2.start N [.ref a,.ref c]=[some (.ref a),some (.ref c)] by unfold L2.start;rw [hN];rfl];unfold jJ;walk_at "rd";refine ⟨a,c,_,_,rfl,SqL.of ha,SqL.of hc,?_⟩;have ml:min (m.map V.int).length (r.map V.int).length=(List.zipWith (· * ·) m r).length:=by rw [List.length_zipWith,List.length_map,List.length_map]
 refine U_ (xs:=m.map V.int) (ys:=r.map V.int) fun D nD=>⟨fun i H2=>AccZ K H D H2 (((List.zipWith (· * ·) m r).take i).map Dat.int),AccZ.start (Same.refl _) nD,fun i H2 _ A=>⟨SqL.of (A.same _ _ ha),SqL.of (A.same _ _ hc)⟩,?_,?_⟩
 ·intro i y1 y2 H2 T e1 e2 A nT us hu
  obtain ⟨u0,u1,rfl⟩:∃u0 u1,us=[u0,u1]:=by
   match us,hu with
   | [u0,u1],_=>exact ⟨u0,u1,rfl⟩
  rw [List.getElem?_map] at e1 e2;obtain ⟨m1,f1,rfl⟩:=Option.map_eq_some_iff.mp e1;obtain ⟨m2,f2,rfl⟩:=Option.map_eq_some_iff.mp e2;have ec:(List.zipWith (· * ·) m r)[i]? = some (m1*m2):=by rw [List.getElem?_zipWith,f1,f2]
  have li:i < (List.zipWith (· * ·) m r).length:=(List.getElem?_eq_some_iff.mp ec).1;have lm:=(List.getElem?_eq_some_iff.mp f1).1;have b2:=hb m2 (List.mem_of_getElem? f2);refine Y5 (SqT.of Zh) rfl ?_;walk_at "rd";refine ⟨⟨[some (.int m1),some (.int m2)],rfl,rfl⟩,?_⟩;walk_at "rd";refine pushed (by rw [ml];exact li) ?_;refine (A.on (Zi nT _)).Yv (.int (m1*m2)) (Zq (by rw [List.length_map,List.length_take];omega)) fun H4 A4=>?_
  show AccZ K H D H4 (((List.zipWith (· * ·) m r).take (i+1)).map Dat.int);rw [List.take_add_one,ec,List.map_append];exact A4
 ·intro H2 A;rw [ml,List.take_of_length_le (Nat.le_refl _)] at A;walk_at "rd";exact ⟨D,_,rfl,SqL.of (AccZ.ints A),k H2 A.same⟩
def Ux(K:Fg):Sp:=fun vs H Q _=>∃(v:V) (ws:List Str) (ts:List Tn) (a:Addr) (y:List Int),vs=[v,.ref a]∧Rz K H v (dV ws ts)∧ChOk ws.length ts∧H a=some (.lst (y.map V.int))∧y.length=ts.length∧∀(p:Addr) (H':Hp),AccZ K H p H' ((comes y (ts.map chg) ws.length).map Dat.int)→Q (.ref p) H'
theorem ZaZ{K:Fg}{vs:List V}{H:Hp}{Q:VK}{E:XK}{x y:Str}(h:Ux K vs H Q E):vs.length=[x,y].length:=by
 obtain ⟨a,b,c,d,e,rfl,_⟩:=h;rfl
def jQ(K:Fg):TS:=(tSeq (tAsg (ZG (Y7 K) [] E0 (Zc (tVar 0) tNil)) (Zn 2))
 (tRet (YX (Js (Zc (tCB (Yh K) (Zc (tOp (rIxT K) (tVar 0) (tC (.int 0))) tNil)) tNil)) 1 (Zn 0) (tCB (Zfl K) (Zc (Y6 (Js (Zc (tCB (Yh K) (Zc (tVar 3) tNil)) tNil)) (tOp (rI CMul fun i j=>.int (i*j)) (tOp (rIxL K) (tVar 3) (tVar 0)) (tOp (rIxL K) (tOp (rIxL K) (tVar 4) (tVar 0)) (tVar 1)))) tNil)))))
theorem ZbJ{K:Fg}{vs:List V}{H:Hp}{Q:VK}{E:XK}{N:List Str}(hN:N.length=3)(h:Ux K vs H Q E):jQ K (ends Q) (L2.start N vs) H:=by
 obtain ⟨v,ws,ts,a,y,rfl,rv,co,hy,ly,k⟩:=h;have t8:=co.le;have w5:=co.w5;have lR:(ts.map chg).length=ts.length:=List.length_map _;have rv0:=rv;obtain ⟨p,v1,v2,rfl,hp,r1,_⟩:=jg rv;obtain ⟨b,xs,rfl,hb,rx⟩:=r1.Yz;have lx:xs.length=ws.length:=by rw [rx.length,List.length_map]
 rw [show L2.start N [.ref p,.ref a]=[some (.ref p),some (.ref a),none] by unfold L2.start;rw [hN];rfl];unfold jQ;walk_at "rd";refine ⟨.ref p,ws,ts,rfl,rv0,by omega,fun t ht=>by rw [co.fr t ht];omega,fun pm H1 A1=>?_⟩;obtain ⟨zs,hz,rz⟩:=A1.at_;have lz:zs.length=ts.length:=by rw [rz.length,List.length_map,List.length_map]
 have S1:=A1.same;have wide:=co.wide;have bnd:=co.bnd;have kk:∀(q:Addr) (H':Hp),AccZ K H1 q H' ((comes y (ts.map chg) ws.length).map Dat.int)→Q (.ref q) H':=fun q H' A=>k q H' ⟨S1.trans A.same,S1.free A.new,A.at_⟩
 generalize ts.map chg=R at lR wide bnd rz kk;walk_at "rd";refine Z_ (SqT.of (S1 _ _ hp)) (v:=.ref b) rfl ?_;walk_at "rd";refine Jx (SqT.of (S1 _ _ hb)) ?_;walk_at "rd";rw [lx];refine ⟨_,rfl,by omega,by omega,?_⟩;rw [Int.toNat_natCast];refine uo (n:=ws.length) fun D nD=>⟨fun j H3=>AccZ K H1 D H3 (((comes y R ws.length).take j).map Dat.int),by simpa using AccZ.start (Same.refl _) nD,?_,?_⟩
 ·intro j H3 hj A us hu;obtain ⟨u0,rfl⟩:∃u,us=[u]:=List.length_eq_one_iff.mp hu;have ec:=Zaq (y:=y) (R:=R) hj;rw [Int.zero_add];walk_at "rd";refine ⟨⟨[some (.int j)],rfl,rfl⟩,?_⟩;walk_at "rd";refine Yu (SqL.of (A.same _ _ hz)) ?_;rw [lz];walk_at "rd";rw [Int.toNat_natCast];refine YD (n:=ts.length) fun D' nD'=>⟨fun m H4=>AccZ K H3 D' H4 (((List.range m).map fun l=>pt y l*pt (R.getD l []) j).map Dat.int),by simpa using AccZ.start (Same.refl _) nD',?_,?_⟩
  ·intro m H4 hm C;have S4:=A.same.trans C.same;have lm:m < R.length:=by omega
   obtain ⟨z,ez⟩:∃z,zs[m]? = some z:=⟨_,List.getElem?_eq_getElem (by omega)⟩
   obtain ⟨d,g1,g2⟩:=rz.get ez;rw [List.getElem?_map,Yj lm] at g1;cases g1;obtain ⟨b0,rfl,_,hb0⟩:=kE g2;have lr:=wide _ (List.mem_of_getElem? (Yj lm));have br:(pt (R.getD m []) j).natAbs < 2 ^ 60:=Nat.lt_of_lt_of_le (bnd _ (List.mem_of_getElem? (Yj lm)) _ (GP (by omega))) (by decide);rw [Int.zero_add];walk_at "rd";refine Jm (SqL.of (S4 _ _ (S1 _ _ hy))) (qK (by omega)) ?_;walk_at "rd";refine Jm (SqL.of (S4 _ _ hz)) (Yd ez) ?_;walk_at "rd";refine Jm (SqL.of (S4 _ _ hb0)) (qK (by omega)) ?_;walk_at "rd";refine pushed hm ?_;refine C.Yv (.int _) (Zq (by rw [List.length_map,List.length_map,List.length_range];omega)) fun H5 C5=>?_
   show AccZ K H3 D' H5 (((List.range (m+1)).map fun l=>pt y l*pt (R.getD l []) j).map Dat.int);rw [List.range_succ,List.map_append,List.map_append];exact C5
  ·intro H4 C;walk_at "rd";refine ⟨D',_,rfl,SqL.of (AccZ.ints C),?_⟩;rw [jW,← lR];refine pushed hj ?_;refine (A.on C.same).Yv (.int _) (Zq (by rw [List.length_map,List.length_take];omega)) fun H5 A5=>?_
   show AccZ K H1 D H5 (((comes y R ws.length).take (j+1)).map Dat.int);rw [List.take_add_one,ec,List.map_append];exact A5
 ·intro H3 A;rw [List.take_of_length_le (by rw [kO];exact Nat.le_refl _)] at A;exact kk D H3 A
end Br
namespace Br
open Rk Sf Rw Bo Cl
section
variable{R:List (List Int)}{n:Nat}
end
end Br
namespace Fr
end Fr
namespace Tr
section
variable(fm:Nat→List Nat)
variable{fm}
end
section
variable(es:List (Nat×Nat))(pc:Nat→Rat)
variable{es}{pc}
end
end Tr
namespace Tr
open PySem L2 Fr G1 Sm Vs G2 Rk Sz Sf Rw Ti
open PySem.W (Dat kqdOk)
end Tr
namespace Tr
open PySem L2 Fr G1 Sm Vs G2 Rk Sz Sf Rw Ti
open PySem.W (Dat kqdOk)
end Tr
namespace Tr
open Fr
section
variable{es:List (Nat×Nat)}{pc:Nat→Rat}
end
end Tr
namespace Tr
open PySem L2 Fr G1 Sm Vs G2 Rk Sz Sf Rw Ti
open PySem.W (Dat kqdOk)
end Tr
namespace Tr
open PySem L2 Fr G1 Sm Vs G2 Rk Sz Sf Rw Ti
open PySem.W (Dat kqdOk)
end Tr
namespace Tr
open PySem L2 Fr G1 Sm Vs G2 Rk Sz Sf Rw Ti Lo
open PySem.W (Dat kqdOk)
end Tr
namespace Tr
open PySem L2 Fr G1 Sm Vs G2 Rk Sz Sf Rw Ti Lo
open PySem.W (Dat kqdOk)
end Tr
namespace Tr
open PySem L2 Fr G1 Sm Vs G2 Rk Sz Sf Rw Ti Lo
open PySem.W (Dat kqdOk)
section
variable{es:List (Nat×Nat)}{pc:Nat→Rat}
end
end Tr
namespace Tr
open PySem L2 Fr G1 Sm Vs G2 Rk Sz Sf Rw Ti Lo
open PySem.W (Dat kqdOk)
end Tr
namespace L2
open PySem PySem.Spec PyProof.Rows
end L2
namespace Tr
open PySem L2 Fr G1 Sm Vs G2 Rk Sz Sf Rw Ti Lo
open PySem.W (Dat kqdOk)
end Tr
namespace Vs
open PySem L2 Fr G1 Sm
open Sz (chg)
open PySem.W (Dat kqdOk)
end Vs
namespace Rd
open Ti
section
variable{es:List (Nat×Nat)}{a:Nat}
end
end Rd
namespace Rd
open PySem L2 Fr G1 Sm Vs G2 Ti
open PySem.W (Dat kqdOk)
end Rd
namespace Rd
open PySem L2 Fr G1 Sm Vs G2 Ti
open PySem.W (Dat kqdOk)
section
variable{es:List (Nat×Nat)}{a:Nat}
end
end Rd
namespace Wq
open PySem L2 Fr G1 Sm Vs Tr
open PySem.W (Dat kqdOk)
end Wq
namespace Nv
open PySem L2 Fr G1 Sm Vs
open PySem.W (Dat kqdOk kqdP kqdPs)
end Nv
namespace Nv
open PySem L2 Fr G1 Sm Vs
open PySem.W (Dat kqdOk kqdP kqdPs)
end Nv
namespace L2
open PySem PySem.Spec PyProof.Rows
section
variable{X:Cx}
end
end L2
namespace Nv
open PySem L2 Fr G1 Sm Vs
open PySem.W (Dat kqdOk kqdP kqdPs)
end Nv
namespace Nv
open PySem L2 Fr G1 Sm Vs
open PySem.W (Dat kqdOk kqdP kqdPs)
end Nv
namespace Nv
open PySem L2 Fr G1 Sm Vs
open PySem.W (Dat kqdOk kqdP kqdPs)
end Nv
namespace Nv
open PySem L2 Fr G1 Sm Vs
open PySem.W (Dat kqdOk kqdP kqdPs)
end Nv
namespace Rk
end Rk
namespace Rk
end Rk
namespace Lk
open Rk Sf Ti Lo
end Lk
namespace Mb
open Rk Sz Sf Cl Mk Bo
end Mb
namespace Mb
open Rk Sz Sf Cl Mk
end Mb
namespace Lc
open PySem L2 Fr G1 Sm Vs G2 Rk Sz Sf Rw Ti Lo
open PySem.W (Dat kqdOk)
end Lc
namespace Lc
open PySem L2 Fr G1 Sm Vs G2 Rk Sz Sf Rw Ti Lo
section
variable{ts:List Tn}{w:Nat}
end
end Lc
namespace Wd
open PySem L2 Fr G1 Sm Vs Dn Rk
open PySem.W (Dat kqdOk)
end Wd
namespace Tw
open PySem L2 Fr G1 Sm Vs
open PySem.W (Dat kqdOk)
end Tw
namespace Tp2
open PySem L2 Str
open PySem.Builtin.Str (strSub subAt)
end Tp2
namespace Md
open PySem L2 Fr G1 Sm Vs
open PySem.W (Dat kqdOk kqdP kqdPs)
theorem Zdc(n:Nat):(List.replicate n true).all id=true:=by
 rw [List.all_eq_true];intro x hx;rw [(List.mem_replicate.mp hx).2];rfl
end Md
namespace Tr2
open PySem L2 Fr G1 Sm Vs Tw Tp2 Md Tr
open PySem.W (Dat kqdOk)
open PySem.Builtin.Str (strSub)
end Tr2
namespace Cm
open Dn
end Cm
namespace Cg
open PySem L2 Fr G1 Sm Vs Dn Rk Wd Cm
open PySem.W (Dat kqdOk)
end Cg
namespace Cg
open PySem L2 Fr G1 Sm Vs Dn Rk Wd Cm
open PySem.W (Dat kqdOk)
end Cg
namespace Cg
open PySem L2 Fr G1 Sm Vs Dn Rk Wd Cm
open PySem.W (Dat kqdOk)
end Cg
namespace Cg
open PySem L2 Fr G1 Sm Vs Dn Rk Wd Cm
open PySem.W (Dat kqdOk)
end Cg
namespace Cg
open PySem L2 Fr G1 Sm Vs Dn Rk Wd Cm
open PySem.W (Dat kqdOk kqdP)
end Cg
namespace Bg
open Rk Sf Rw Bo Br
def ones(n:Nat):List Int:=List.replicate n 1
theorem yc(n:Nat):(ones n).length=n:=List.length_replicate
theorem Zfy{n k:Nat}(h:k < n):pt (ones n) k=1:=by
 unfold pt ones;rw [List.getD_eq_getElem?_getD,List.getElem?_replicate_of_lt h];rfl
def lns(R:List (List Int))(n:Nat):List (List Int):=R++[ones n].map neg
def bd0(R:List (List Int))(n:Nat):Bo.Bd:=toBd (fbd (lns R n) (ens R.length 1)) (hs0 n (R.length+1))
section
variable{R:List (List Int)}{n:Nat}
theorem Ys:(lns R n).length=R.length+1:=by unfold lns;rw [List.length_append];rfl
theorem ZfJ{i:Nat}(h:i < R.length):(lns R n).getD i []=R.getD i []:=by
 unfold lns;rw [List.getD_eq_getElem?_getD,List.getElem?_append_left h,List.getD_eq_getElem?_getD]
theorem ZdT:(lns R n).getD R.length []=neg (ones n):=by
 unfold lns;rw [List.getD_eq_getElem?_getD,List.getElem?_append_right (Nat.le_refl _),Nat.sub_self];rfl
theorem yI{a:Nat}:pt (ens a 1) a = -1:=by
 have:=Zem (n:=1) (a:=a) (j:=0) (by decide)
 exact this
theorem Ja(wd:Wide n R):Wide n (lns R n):=fun r hr=>by
 rcases List.mem_append.mp hr with h | h
 ·exact wd r h
 ·obtain ⟨o,ho,rfl⟩:=List.mem_map.mp h;cases List.mem_singleton.mp ho;rw [Jd,yc]
theorem uq(wd:Wide n R){i k:Nat}(hi:i < R.length)(hk:k < n):(bd0 R n).L i k=pt (R.getD i []) k:=by
 show pt ((fbd (lns R n) (ens R.length 1)).getD i []) k=_;rw [Zah (Ja wd) (by rw [Ys];omega) hk,ZfJ hi]
theorem yP(wd:Wide n R){k:Nat}(hk:k < n):(bd0 R n).L R.length k = -1:=by
 show pt ((fbd (lns R n) (ens R.length 1)).getD R.length []) k=_;rw [Zah (Ja wd) (by rw [Ys];omega) hk,ZdT,GK,Zfy hk]
theorem Wc(wd:Wide n R){i k:Nat}(hi:i < R.length+1)(hk:k < R.length+1):(bd0 R n).L i (n+k)=if i=k then 1 else 0:=G_ (Ja wd) (by rw [Ys];exact hi) (by rw [Ys];exact hk)
theorem yQ(wd:Wide n R){i:Nat}(hi:i < R.length+1):(bd0 R n).L i (n+(R.length+1))=pt (ens R.length 1) i:=by
 have:=Zgc (R:=lns R n) (es:=ens R.length 1) (Ja wd) (i:=i) (by rw [Ys];exact hi)
 rw [Ys] at this;exact this
theorem Zat(wd:Wide n R):Bo.From (R.length+1) (n+(R.length+1)) n (bd0 R n) (bd0 R n):=by
 have:=Zeg (R:=lns R n) (es:=ens R.length 1) (Ja wd)
 rw [Ys] at this;exact this
theorem zj(wd:Wide n R)(b3:∀r∈R,∀c∈r,c.natAbs≤3){i:Nat}(hi:i < R.length+1)(k:Nat):((bd0 R n).L i k).natAbs≤3:=by
 by_cases h1:k < n
 ·by_cases h2:i < R.length
  ·rw [uq wd h2 h1];have lr:(R.getD i []).length=n:=wd _ (List.mem_of_getElem? (Yj h2));exact b3 _ (List.mem_of_getElem? (Yj h2)) _ (GP (by omega))
  ·obtain rfl:i=R.length:=by omega
   rw [yP wd h1];decide
 ·obtain ⟨j,rfl⟩:∃j,k=n+j:=⟨k - n,by omega⟩
  rcases Nat.lt_trichotomy j (R.length+1) with q | q | q
  ·rw [Wc wd hi q];split <;> decide
  ·rw [q,yQ wd hi];by_cases h2:i < R.length
   ·rw [uh h2];decide
   ·obtain rfl:i=R.length:=by omega
    rw [yI];decide
  ·have e:(bd0 R n).L i (n+j)=0:=by
    refine Y9 ?_
    have:=Zag (es:=ens R.length 1) (Ja wd) _ (List.mem_of_getElem? (Zaj (es:=ens R.length 1) (R:=lns R n) (i:=i) (by rw [Ys];exact hi)))
    rw [← Zai (by rw [Ys];exact hi),Ys] at this;omega
   rw [e];decide
theorem Ze4(wd:Wide n R){b:Bo.Bd}(F:Bo.From (R.length+1) (n+(R.length+1)) n (bd0 R n) b){i:Nat}(hi:i < R.length+1)(short:b.L i (n+(R.length+1)) < 0)(up:∀k,k < n+(R.length+1)→0≤b.L i k) :
  ∀k,k < n→0 < sm R.length fun l=>b.L i (n+l)*pt (R.getD l []) k:=by
 have lin:∀k,k < n→(sm R.length fun l=>b.L i (n+l)*pt (R.getD l []) k)=b.L i k+b.L i (n+R.length):=by
  intro k hk;have e:=F.lin i hi k;rw [show sm (R.length+1) (fun l=>b.L i (n+l)*(bd0 R n).L l k)=sm R.length (fun l=>b.L i (n+l)*(bd0 R n).L l k)+b.L i (n+R.length)*(bd0 R n).L R.length k from rfl,yP wd hk] at e;rw [ZK (n:=R.length) (g:=fun l=>b.L i (n+l)*pt (R.getD l []) k) fun l hl=>by rw [uq wd hl hk]] at e;omega
 have e:=F.lin i hi (n+(R.length+1));rw [show sm (R.length+1) (fun l=>b.L i (n+l)*(bd0 R n).L l (n+(R.length+1)))=sm R.length (fun l=>b.L i (n+l)*(bd0 R n).L l (n+(R.length+1)))+b.L i (n+R.length)*(bd0 R n).L R.length (n+(R.length+1)) from rfl,W0 (n:=R.length) (fun l hl=>by rw [yQ wd (by omega),uh hl,Int.mul_zero]),Int.zero_add,yQ wd (by omega),yI] at e;intro k hk;rw [lin k hk]
 have:=up k (by omega)
 omega
theorem Zdk(wd:Wide n R)(n0:0 < n)(b3:∀r∈R,∀c∈r,c.natAbs≤3){b:Bo.Bd}(F:Bo.From (R.length+1) (n+(R.length+1)) n (bd0 R n) b)(ends:∀i,i < R.length+1→0≤b.L i (n+(R.length+1))){bt:Int}(bt0:0 < bt){u:List Int}(lu:u.length=n)(U:Zaw (R.length+1) n b bt (pt u)) :
  (∀k,k < n→0≤pt (lowR u) k)∧(∃k,k < n∧1≤pt (lowR u) k)∧(∀i,i < R.length→(sm n fun k=>pt (R.getD i []) k*pt (lowR u) k)≤0)∧∀k,(pt (lowR u) k).natAbs≤(2*((n+(R.length+1)+1)*3)) ^ (n+(R.length+1)):=by
 obtain ⟨z,D,D0,sat,z1,z2⟩:=ZbX F.ok;have satf:=F.back sat;have eu:=U.sol F.ok z1 (fun k _=>z2 k)
 have zn:∀k,k < n+(R.length+1)→0≤z k:=by
  intro k hk;by_cases h:∃i,i < R.length+1∧b.h i=k
  ·obtain ⟨i,hi,rfl⟩:=h;have o1:=F.ok.own i hi;have e:=z1 i hi
   have:=Int.mul_nonneg (show 0≤D by omega) (ends i hi)
   rw [← e] at this;exact Int.nonneg_of_mul_nonneg_right this (by omega)
  ·rw [z2 k fun i hi e=>h ⟨i,hi,e⟩];exact Int.le_refl _
 have line:∀i,i < R.length+1→(sm n fun k=>(bd0 R n).L i k*z k)+z (n+i)=D*pt (ens R.length 1) i:=by
  intro i hi;have e:=satf i hi;rw [yQ wd hi] at e;rw [← e];unfold ev;rw [jV,JM (n:=R.length+1) (j:=i) hi (fun j hj ne=>by rw [Wc wd hi hj,if_neg fun z=>ne z.symm,Int.zero_mul]),Wc wd hi hi,if_pos rfl,Int.one_mul]
 have zs:∃k,k < n∧0 < z k:=by
  have e:=line R.length (by omega);rw [yI,ZK (n:=n) (g:=fun k=>- z k) fun k hk=>by rw [yP wd hk,Int.neg_one_mul]] at e;have zi:=zn (n+R.length) (by omega);obtain ⟨k,hk,h⟩:=Zgt (n:=n) (f:=fun k=>- z k) (by omega);exact ⟨k,hk,by omega⟩
 have up:∀k,k < n→0≤pt u k:=by
  intro k hk;have e:=eu k hk
  have:=Int.mul_nonneg (show 0≤bt by omega) (zn k (by omega))
  rw [e] at this;exact Int.nonneg_of_mul_nonneg_right this D0
 obtain ⟨kp,hkp,zkp⟩:=zs
 have upp:0 < pt u kp:=by
  have e:=eu kp hkp
  have:=Int.mul_pos bt0 zkp
  rw [e] at this;exact Int.pos_of_mul_pos_right this (by omega)
 obtain ⟨i0,f0⟩:∃i,fp u=some i:=by
  cases e:fp u with
  | none=>have:=Zga e kp;omega
  | some i=>exact ⟨i,rfl⟩
 obtain ⟨l1,l2,l3⟩:=Mk.ZdS f0;obtain ⟨g,g0,gl⟩:=Zb8 u
 have gp:0 < g:=by
  obtain ⟨_,h2,_⟩:=yG f0;have e:=gl i0;have n1:pt u i0≠0:=h2
  have li:i0 < n:=by
   rcases Nat.lt_or_ge i0 n with q | q
   ·exact q
   ·exact absurd (Y9 (by omega)) n1
  have u0:=up i0 li;have lp0:0 < pt (lowR u) i0:=l3;rcases Int.lt_trichotomy g 0 with q | q | q
  ·have:=Int.mul_neg_of_neg_of_pos q lp0
   omega
  ·exact absurd q g0
  ·exact q
 have lp:∀k,k < n→0≤pt (lowR u) k:=by
  intro k hk;have u0:=up k hk;rw [← gl k] at u0;exact Int.nonneg_of_mul_nonneg_right u0 gp
 refine ⟨lp,⟨kp,hkp,?_⟩,fun i hi=>?_,fun k=>?_⟩
 ·rw [← gl kp] at upp
  have:=Int.pos_of_mul_pos_right upp (by omega)
  omega
 ·have e:=line i (by omega);rw [uh hi,Int.mul_zero,ZK (n:=n) (g:=fun k=>pt (R.getD i []) k*z k) fun k hk=>by rw [uq wd hi hk]] at e;have zi:=zn (n+i) (by omega)
  have e2:bt*(sm n fun k=>pt (R.getD i []) k*z k)=(D*g)*sm n fun k=>pt (R.getD i []) k*pt (lowR u) k:=by
   rw [← Ye,← Ye];refine ZK fun k hk=>?_
   rw [Int.mul_left_comm,eu k hk,← gl k,Int.mul_left_comm (D*g),Int.mul_assoc]
  have dg:0 < D*g:=Int.mul_pos D0 gp;rcases Int.lt_or_le 0 (sm n fun k=>pt (R.getD i []) k*pt (lowR u) k) with q | q
  ·have p1:=Int.mul_pos dg q;rw [← e2] at p1
   have:=Int.pos_of_mul_pos_right p1 (by omega)
   omega
  ·exact q
 ·obtain ⟨y,D',D0',yb,y1,y2⟩:=F.told (M:=3) (by decide) (fun l hl k=>zj wd b3 hl k);have ey:=U.sol F.ok y1 y2;by_cases hk:k < n
  ·refine Nat.le_trans ?_ (yb k)
   have:=ZbO (W:=n) (r:=pt (lowR u)) (s:=fun k=>if k < n then y k else 0) (a:=bt) (q:=D'*g) bt0 (fun h=>(Int.mul_eq_zero.mp h).elim D0' g0) (fun k=>?_) (fun d hd=>?_) k
   ·simpa [hk] using this
   ·show bt*(if k < n then y k else 0)=_;split
    ·rename_i q;rw [ey k q,← gl k,Int.mul_assoc]
    ·rw [Y9 (r:=lowR u) (by rw [Jr];omega),Int.mul_zero,Int.mul_zero]
   ·rw [← l1];exact Zam fun k hk=>hd k (by rw [Jr] at hk;omega)
  ·rw [Y9 (by rw [Jr];omega)];exact Nat.zero_le _
theorem besides{B:List (List Int)}{hs:List Nat}(lb:B.length=R.length+1)(F:Bo.From (R.length+1) (n+(R.length+1)) n (bd0 R n) (toBd B hs))(wb:Wide (n+(R.length+1)+1) B):0 < bot B hs B.length∧Zaw (R.length+1) n (toBd B hs) (bot B hs B.length) (pt (numF B hs n (bot B hs B.length) B.length)):=by
 have ow:∀i,i < R.length+1→0 < ownOf B hs i:=F.ok.own;rw [lb];obtain ⟨p,d⟩:=Zc4 ow (R.length+1) (Nat.le_refl _);refine ⟨p,⟨fun i hi hn=>?_,fun k hk no=>qt _ no⟩⟩
 have inj:∀i j,i < R.length+1→j < R.length+1→hs.getD i 0=hs.getD j 0→i=j:=by
  intro i j hi hj e;refine Classical.byContradiction fun ne=>?_
  have h1:0 < pt (B.getD i []) (hs.getD i 0):=F.ok.own i hi;have h2:pt (B.getD i []) (hs.getD j 0)=0:=F.ok.oth i j hi hj ne;rw [← e] at h2;omega
 show ownOf B hs i*pt (numF B hs n (bot B hs (R.length+1)) (R.length+1)) (hs.getD i 0)=_;rw [qu inj hn _ (Nat.le_refl _) hi,Int.mul_fdiv_cancel' (Int.dvd_trans (d i hi) (Int.dvd_mul_left _ _)),Int.mul_comm];have li:(B.getD i []).length=n+(R.length+1)+1:=wb _ (List.mem_of_getElem? (Yj (by omega)));unfold lastOf;rw [li];rfl
end
section
variable(R:List (List Int))(n:Nat)
def TlR(r:Bool×List Int):Prop:=Tl n R.length (n+(R.length+1)) (fbd (lns R n) (ens R.length 1)) (hs0 n (R.length+1)) r
open Classical in
noncomputable def JB:Bool×List Int:=if h:∃r,TlR R n r then h.choose else (false,[])
theorem uJ{r:Bool×List Int}(h:TlR R n r):JB R n=r:=by
 unfold JB;have e:∃r,TlR R n r:=⟨r,h⟩
 rw [dif_pos e];exact e.choose_spec.uniq h
structure Zev (r:Bool×List Int):Prop where
 yes:r.1=true→r.2.length=n∧(∀k,k < n→0≤pt r.2 k)∧(∃k,k < n∧1≤pt r.2 k)∧∀i,i < R.length→(sm n fun k=>pt (R.getD i []) k*pt r.2 k)≤0
 no:r.1=false→r.2.length=R.length∧(∀l,l < R.length→0≤pt r.2 l)∧∀k,k < n→0 < sm R.length fun l=>pt r.2 l*pt (R.getD l []) k
 bnd:∀k,(pt r.2 k).natAbs < 10 ^ 59
end
structure PI (R:List (List Int)) (n k:Nat) (B:List (List Int)) (hs:List Nat):Prop where
 lb:B.length=R.length+1
 lh:hs.length=R.length+1
 wb:Wide (n+(R.length+1)+1) B
 fr:Bo.From (R.length+1) (n+(R.length+1)) n (bd0 R n) (toBd B hs)
 rn:Bo.Rn (R.length+1) (n+(R.length+1)) (bd0 R n) k (toBd B hs)
 tl:∀r,Tl n R.length (n+(R.length+1)) B hs r→TlR R n r
section
variable{R:List (List Int)}{n k:Nat}{B:List (List Int)}{hs:List Nat}
theorem PI.first(wd:Wide n R):PI R n 0 (fbd (lns R n) (ens R.length 1)) (hs0 n (R.length+1)):=by
 refine ⟨by rw [qz,Ys],?_,?_,Zat wd,.z,fun r h=>h⟩
 ·unfold hs0;rw [List.length_map,List.length_range]
 ·have:=Zag (es:=ens R.length 1) (Ja wd)
  rw [Ys] at this;exact this
theorem PI.nodup(P:PI R n k B hs):hs.Nodup:=by
 have o:=P.fr.ok;unfold List.Nodup;rw [List.pairwise_iff_getElem];intro i j hi hj lt e;have lh:=P.lh;have e1:hs.getD i 0=hs[i]:=by rw [List.getD_eq_getElem?_getD,List.getElem?_eq_getElem hi];rfl
 have e2:hs.getD j 0=hs[j]:=by rw [List.getD_eq_getElem?_getD,List.getElem?_eq_getElem hj];rfl
 have h1:0 < pt (B.getD i []) (hs.getD i 0):=o.own i (by omega);have h2:pt (B.getD i []) (hs.getD j 0)=0:=o.oth i j (by omega) (by omega) (by omega);rw [e1] at h1;rw [e2,← e] at h2;omega
theorem PI.last(P:PI R n k B hs){i:Nat}(h:i < B.length):lastOf (B.getD i [])=pt (B.getD i []) (n+(R.length+1)):=by
 unfold lastOf;rw [P.wb _ (List.mem_of_getElem? (Yj h))];rfl
theorem PI.few(wd:Wide n R)(P:PI R n k B hs):k+1≤2 ^ (n+(R.length+1)):=P.rn.few (Zat wd).ok
theorem PI.next(P:PI R n k B hs){i p:Nat}(s:Sh B hs i)(pw:p < n+(R.length+1))(low:pt (B.getD i []) p < 0)(first:∀k,k < p→0≤pt (B.getD i []) k):PI R n (k+1) (pass B i p) (hs.set i p):=by
 obtain ⟨lb,lh,wb,fr,rn,tl⟩:=P;have hi:=s.2.2.1
 have st:Bo.Stp (R.length+1) (n+(R.length+1)) (toBd B hs) (toBd (pass B i p) (hs.set i p)) i p:=by
  have:=ZbV (w:=n+(R.length+1)) (B:=B) (hs:=hs) (i:=i) (p:=p) (by rw [lb];exact fr.ok) wb (by omega) hi pw (by
   have:=s.2.2.2.1
   rw [PI.last ⟨lb,lh,wb,fr,rn,tl⟩ hi] at this
   exact this) low first fun j hj z=>s.2.2.2.2 j hj (by
   rw [PI.last ⟨lb,lh,wb,fr,rn,tl⟩ hj]
   exact z)
  rw [lb] at this;exact this
 refine ⟨by rw [G8];exact lb,by rw [List.length_set];exact lh,ZbU wb hi,?_,rn.s st,fun r h=>tl r (.step s pw low first h)⟩;exact fr.step st fun j hj ne d hd=>ZbW (w:=n+(R.length+1)) (hs:=hs) (by rw [lb];exact fr.ok) wb hi low (by omega) ne d hd
theorem PI.small(wd:Wide n R)(b3:∀r∈R,∀c∈r,c.natAbs≤3)(n0:0 < n)(m21:R.length+1≤21)(P:PI R n k B hs){i:Nat}(hi:i < B.length)(q:Nat):(pt (B.getD i []) q).natAbs≤big:=by
 have lb:=P.lb;obtain ⟨m,hm⟩:∃m,R.length+1=m+1:=⟨R.length+1 - 1,by omega⟩
 have F:=P.fr;rw [hm] at F;have u:∀l,l < m+1→∀k,k < m+1→(bd0 R n).L l (n+k)=if l=k then 1 else 0:=fun l hl k hk=>Wc wd (by omega) (by omega)
 refine Nat.le_trans (F.small u (M:=3) (by decide) (fun l hl k=>zj wd b3 (by omega) k) (i:=i) (by omega) q) ?_;unfold big;refine Nat.mul_le_mul (by omega) (Nat.mul_le_mul_right 3 ?_);exact Nat.le_trans (Nat.pow_le_pow_left (by omega) m) (Nat.pow_le_pow_right (by decide) (by omega))
theorem PI.cells(wd:Wide n R)(b3:∀r∈R,∀c∈r,c.natAbs≤3)(n0:0 < n)(m21:R.length+1≤21)(P:PI R n k B hs){r:List Int}(hr:r∈B){c:Int}(hc:c∈r):c.natAbs < 2 ^ 150:=by
 obtain ⟨i,hi⟩:=List.getElem?_of_mem hr;obtain ⟨q,hq⟩:=List.getElem?_of_mem hc;have li:=(List.getElem?_eq_some_iff.mp hi).1;have e:=P.small wd b3 n0 m21 li q;rw [List.getD_eq_getElem?_getD,hi] at e;unfold pt at e;rw [List.getD_eq_getElem?_getD] at e;simp only [Option.getD_some,hq] at e;exact Nat.lt_of_le_of_lt e Zc5
theorem ZfC{C:Nat}(P:PI R n k B hs)(sm_:∀i,i < B.length→∀q,(pt (B.getD i []) q).natAbs≤C):∀x∈numF B hs n (bot B hs B.length) B.length,x.natAbs≤C*C ^ B.length:=by
 intro x hx;obtain ⟨q,hq⟩:=List.getElem?_of_mem hx;have lq:=(List.getElem?_eq_some_iff.mp hq).1;rw [YJ lq] at hq;have ex:=Option.some.inj hq;obtain ⟨b0,U⟩:=besides P.lb P.fr P.wb;have lb:=P.lb;rw [YG] at lq;by_cases h:∃i,i < R.length+1∧hs.getD i 0=q
 ·obtain ⟨i,hi,e⟩:=h
  have:=U.hold i hi (by show hs.getD i 0 < n;omega)
  have o:=P.fr.ok.own i hi
  have e2:pt (B.getD i []) (hs.getD i 0)*x=bot B hs B.length*pt (B.getD i []) (n+(R.length+1)):=by
   rw [← ex,← e];exact this
  have o':0 < pt (B.getD i []) (hs.getD i 0):=o;have bl:=bot_le (B:=B) (hs:=hs) (m:=B.length) (C:=C) (fun j hj=>⟨P.fr.ok.own j (by omega),sm_ j hj _⟩) B.length (Nat.le_refl _);have l1:=sm_ i (by omega) (n+(R.length+1));have e3:=congrArg Int.natAbs e2;rw [Int.natAbs_mul,Int.natAbs_mul] at e3;have h1:x.natAbs≤(pt (B.getD i []) (hs.getD i 0)).natAbs*x.natAbs:=Nat.le_mul_of_pos_left _ (by omega);have h2:=Nat.mul_le_mul bl l1;rw [Nat.mul_comm C];omega
 ·have:=U.none q lq fun i hi e=>h ⟨i,hi,e⟩
  rw [this] at ex;rw [← ex];exact Nat.zero_le _
theorem PI.yes(wd:Wide n R)(b3:∀r∈R,∀c∈r,c.natAbs≤3)(n0:0 < n)(w26:n+(R.length+1)≤26)(P:PI R n k B hs)(h:∀r∈B,0≤lastOf r):JB R n=(true,lowR (numF B hs n (bot B hs B.length) B.length))∧Zev R n (true,lowR (numF B hs n (bot B hs B.length) B.length)):=by
 refine ⟨uJ R n (P.tl _ (.yes h)),?_⟩;have lb:=P.lb;obtain ⟨b0,U⟩:=besides P.lb P.fr P.wb
 obtain ⟨y1,y2,y3,y4⟩:=Zdk wd n0 b3 P.fr (fun i hi=>by
  have:=h _ (List.mem_of_getElem? (Yj (B:=B) (j:=i) (by omega)))
  rw [P.last (by omega)] at this
  exact this) b0 (YG _ _ _ _ _) U
 refine ⟨fun _=>⟨by show (lowR _).length=n;rw [Jr,YG],y1,y2,y3⟩,(fun z=>by cases z),fun k=>?_⟩;refine Nat.lt_of_le_of_lt (y4 k) ?_;refine Nat.lt_of_le_of_lt (Nat.le_trans (Nat.pow_le_pow_left (show _≤162 by omega) _) (Nat.pow_le_pow_right (by decide) w26)) ?_;decide
theorem PI.no(wd:Wide n R)(b3:∀r∈R,∀c∈r,c.natAbs≤3)(n0:0 < n)(m21:R.length+1≤21)(P:PI R n k B hs){i:Nat}(s:Sh B hs i)(up:∀k,k < n+(R.length+1)→0≤pt (B.getD i []) k):JB R n=(false,((B.getD i []).drop n).take R.length)∧Zev R n (false,((B.getD i []).drop n).take R.length):=by
 refine ⟨uJ R n (P.tl _ (.no s up)),?_⟩;have lb:=P.lb;have hi:=s.2.2.1;have li:=P.wb _ (List.mem_of_getElem? (Yj hi));have sh:=s.2.2.2.1;rw [P.last hi] at sh;have n1:=Ze4 wd P.fr (i:=i) (by omega) sh up;have len:(((B.getD i []).drop n).take R.length).length=R.length:=by rw [List.length_take,List.length_drop];omega
 have cg:∀k,(sm R.length fun l=>pt (((B.getD i []).drop n).take R.length) l*pt (R.getD l []) k)=sm R.length fun l=>(toBd B hs).L i (n+l)*pt (R.getD l []) k:=fun k=>ZK fun l hl=>by
  rw [jX hl];rfl
 refine ⟨(fun z=>by cases z),fun _=>⟨len,fun l hl=>?_,fun k hk=>?_⟩,fun k=>?_⟩
 ·show 0≤pt (((B.getD i []).drop n).take R.length) l;rw [jX hl];exact up _ (by omega)
 ·show 0 < sm R.length fun l=>pt (((B.getD i []).drop n).take R.length) l*pt (R.getD l []) k
  rw [cg];exact n1 k hk
 ·show (pt (((B.getD i []).drop n).take R.length) k).natAbs < 10 ^ 59;by_cases hk:k < R.length
  ·rw [jX hk];exact Nat.lt_of_le_of_lt (P.small wd b3 n0 m21 hi _) (by decide)
  ·rw [Y9 (by omega)];decide
end
end Bg
namespace Bg
open PySem L2 Fr G1 Sm Vs G2 Rk Sz Sf Rw Br
open PySem.W (Dat kqdOk)
def JD(K:Fg):Sp:=fun vs H Q _=>∃(a b:Addr) (R:List (List Int)) (n:Nat),vs=[.ref a,.ref b]∧Jc H a R∧Jc H b [ones n]∧Wide n R∧0 < n∧n≤8∧R.length+1≤21∧n+(R.length+1)≤26∧(∀r∈R,∀c∈r,c.natAbs≤3) ∧
 ∀(p:Addr) (H':Hp),Same H H'→Rp K (fun a=>H a=none) H' (.ref p) (qG (JB R n))→Zev R n (JB R n)→Q (.ref p) H'
theorem gP{K:Fg}{vs:List V}{H:Hp}{Q:VK}{E:XK}{x y:Str}(h:JD K vs H Q E):vs.length=[x,y].length:=by
 obtain ⟨a,b,c,d,rfl,_⟩:=h;rfl
theorem Zcp{K:Fg}{R:List (List Int)}{n k:Nat}{B:List (List Int)}{hs:List Nat}{H:Hp}{Q:VK}{E:XK}{pB pH:Addr}(m21:R.length+1≤21)(P:PI R n k B hs)(hB:LnAt H pB B)(hH:H pH=some (.lst (hsV hs)))(h:∀v H',Same H H'→AtV B hs v→Q v H'):Ui K [.ref pB,.ref pH] H Q E:=by
 have lb:=P.lb;have lh:=P.lh;refine ⟨pB,pH,B,hs,rfl,hB,hH,by omega,by omega,fun r hr z=>?_,P.nodup,fun H' S=>⟨fun q=>h _ _ S (.inl ⟨rfl,q⟩),fun i i1 i2 i3=>h _ _ S (.inr ⟨i,rfl,P.nodup,by omega,i1,i2,i3⟩)⟩⟩
 have:=P.wb r hr
 rw [z] at this;cases this
theorem Ze8{R:List (List Int)}{n k:Nat}{B:List (List Int)}{hs:List Nat}(wd:Wide n R)(b3:∀r∈R,∀c∈r,c.natAbs≤3)(n0:0 < n)(m21:R.length+1≤21)(P:PI R n k B hs){i p:Nat}(s:Sh B hs i)(low:pt (B.getD i []) p < 0):(∀r∈B,∀c∈r,c.natAbs < 2 ^ 4000) ∧
  ∀j,j < B.length→j≠i→gcdL (wo0 (B.getD j []) (neg (B.getD i [])) p)≠0∧(gcdL (wo0 (B.getD j []) (neg (B.getD i [])) p)).natAbs < 2 ^ 9000:=by
 have hi:=s.2.2.1;have le1:(2:Nat) ^ 150≤2 ^ 4000:=Nat.pow_le_pow_right (by decide) (by decide);refine ⟨fun r hr c hc=>Nat.lt_of_lt_of_le (P.cells wd b3 n0 m21 hr hc) le1,fun j hj ne=>?_⟩;have li:=P.wb _ (List.mem_of_getElem? (Yj hi));have lj:=P.wb _ (List.mem_of_getElem? (Yj hj));have lb:=P.lb;have nz:=Zbc (m:=R.length+1) (w:=n+(R.length+1)) P.fr.ok (by omega) (by omega) ne low (by rw [Jd];omega);refine ⟨Gn nz,?_⟩
 have bd:∀c∈wo0 (B.getD j []) (neg (B.getD i [])) p,c.natAbs < 2 ^ 400:=by
  intro c hc
  have:=Ze2 (N:=2 ^ 150) (fun c hc=>P.cells wd b3 n0 m21 (List.mem_of_getElem? (Yj hj)) hc) (fun c hc=>by
   obtain ⟨x,hx,rfl⟩:=List.mem_map.mp hc
   rw [Int.natAbs_neg]
   exact P.cells wd b3 n0 m21 (List.mem_of_getElem? (Yj hi)) hx) (Nat.two_pow_pos 150) c hc
  exact Nat.lt_of_lt_of_le this (by decide)
 exact Nat.lt_of_lt_of_le (ZcE nz bd) (Nat.pow_le_pow_right (by decide) (by decide))
theorem ZfB{R:List (List Int)}{n k:Nat}{B:List (List Int)}{hs:List Nat}(wd:Wide n R)(b3:∀r∈R,∀c∈r,c.natAbs≤3)(n0:0 < n)(m21:R.length+1≤21)(P:PI R n k B hs):(∀i,i < B.length→0 < ownOf B hs i∧(ownOf B hs i).natAbs < 2 ^ 8000∧(lastOf (B.getD i [])).natAbs < 2 ^ 8000)∧(∀j,j≤B.length→(bot B hs j).natAbs < 2 ^ 8000)∧∀x∈numF B hs n (bot B hs B.length) B.length,x.natAbs < 2 ^ 9000:=by
 have lb:=P.lb;have own:∀i,i < B.length→0 < ownOf B hs i:=fun i hi=>P.fr.ok.own i (by omega)
 have sml:=fun i (hi:i < B.length) q=>P.small wd b3 n0 m21 hi q
 have b8:big < 2 ^ 8000:=Nat.lt_of_lt_of_le Zc5 (Nat.pow_le_pow_right (by decide) (by decide))
 have pw:∀j,j≤22→big ^ j≤2 ^ 3300:=fun j hj=>by
  refine Nat.le_trans (Nat.pow_le_pow_left (Nat.le_of_lt Zc5) j) ?_;rw [← Nat.pow_mul];exact Nat.pow_le_pow_right (by decide) (by omega)
 have l8:(2:Nat) ^ 3300 < 2 ^ 8000:=Nat.pow_lt_pow_right (by decide) (by decide);have l9:(2:Nat) ^ 3300 < 2 ^ 9000:=Nat.pow_lt_pow_right (by decide) (by decide);refine ⟨fun i hi=>⟨own i hi,Nat.lt_of_le_of_lt (sml i hi _) b8,Nat.lt_of_le_of_lt (sml i hi _) b8⟩,fun j hj=>?_,fun x hx=>?_⟩
 ·exact Nat.lt_of_le_of_lt (Nat.le_trans (bot_le (m:=B.length) (C:=big) (fun i hi=>⟨own i hi,sml i hi _⟩) j hj) (pw j (by omega))) l8
 ·refine Nat.lt_of_le_of_lt (Nat.le_trans (ZfC P sml x hx) ?_) l9;rw [Nat.mul_comm,← Nat.pow_succ];exact pw _ (by omega)
theorem ZaG{K:Fg}{vs:List V}{H:Hp}{Q:VK}{E:XK}{N:List Str}(hN:N.length=7)(h:JD K vs H Q E):Wk K (ends Q) (L2.start N vs) H:=by
 obtain ⟨a,b,R,n,rfl,⟨xs,ha,lx,hx⟩,⟨ys,hb,ly,hy⟩,wd,n0,n8,m21,w26,b3,k⟩:=h;rw [show L2.start N [.ref a,.ref b]=[some (.ref a),some (.ref b),none,none,none,none,none] by unfold L2.start;rw [hN];rfl];unfold Wk;have ly':ys.length=1:=ly;obtain ⟨y0,ey0⟩:∃y,ys[0]? = some y:=⟨_,List.getElem?_eq_getElem (by omega)⟩
 have rv0:=hy 0 y0 (ones n) ey0 rfl;walk_at "rd";refine Jm (SqL.of hb) (v:=y0) (Yd (j:=0) ey0) ?_;walk_at "rd";refine Zhy rv0 ?_;rw [yc];walk_at "rd";refine ⟨b,[ones n],rfl,⟨ys,hb,ly,hy⟩,by show 1≤_;decide,fun r hr=>?_,fun o H1 A1=>?_⟩
 ·cases List.mem_singleton.mp hr;rw [yc];omega
 obtain ⟨zs,ho,rz⟩:=A1.at_;have lz:zs.length=1:=by rw [rz.length];rfl
 have S1:=A1.same;refine ⟨a,o,_,_,rfl,rfl,S1 _ _ ha,ho,by rw [sizeLine_eq];omega,fun q nq=>?_⟩;have S2:=S1.trans (Zi nq (.lst (xs++zs)));have rq:Jc (upd H1 q (.lst (xs++zs))) q (lns R n):=uO Zh lx (fun i x r e1 e2=>(hx i x r e1 e2).same S2) (rz.same (Zi nq _));generalize upd H1 q (.lst (xs++zs))=H2 at S2 rq ⊢;clear rz ho A1 S1 nq;walk_at "rd";refine ⟨by show 1≤sizeLine;decide,fun l0 nl0=>?_⟩;have S3:=S2.trans (Zi nl0 (.lst [.int 0]));have rq3:=rq;have h0:upd H2 l0 (.lst [.int 0]) l0=some (.lst [.int 0]):=Zh;have T3:=Zi nl0 (.lst [V.int 0]);generalize upd H2 l0 (.lst [.int 0])=H3 at S3 h0 T3 ⊢;walk_at "rd";refine Yu (SqL.of (S3 _ _ ha)) ?_;rw [lx];walk_at "rd";refine Zd8 h0 (by omega) fun l1 nl1=>?_
 have T4:=T3.trans (Zi nl1 (.lst (List.replicate R.length (.int 0))));have h1:upd H3 l1 (.lst (List.replicate R.length (.int 0))) l1=some (.lst (List.replicate R.length (.int 0))):=Zh;generalize upd H3 l1 (.lst (List.replicate R.length (.int 0)))=H4 at T4 h1 ⊢;walk_at "rd";refine ⟨by show 1≤sizeLine;decide,fun l2 nl2=>?_⟩;have T5:=T4.trans (Zi nl2 (.lst [.int (-1)]));have h15:=Zi nl2 (.lst [V.int (-1)]) _ _ h1;have h2:upd H4 l2 (.lst [.int (-1)]) l2=some (.lst [.int (-1)]):=Zh;generalize upd H4 l2 (.lst [.int (-1)])=H5 at T5 h15 h2 ⊢;walk_at "rd";refine Yu (SqL.of (T5 _ _ (S2 _ _ hb))) ?_;rw [ly'];walk_at "rd";refine Zd8 h2 (by omega) fun l3 nl3=>?_
 have T6:=T5.trans (Zi nl3 (.lst (List.replicate 1 (.int (-1)))));have h16:=Zi nl3 (.lst (List.replicate 1 (V.int (-1)))) _ _ h15;have h3:upd H5 l3 (.lst (List.replicate 1 (.int (-1)))) l3=some (.lst (List.replicate 1 (.int (-1)))):=Zh;generalize upd H5 l3 (.lst (List.replicate 1 (.int (-1))))=H6 at T6 h16 h3 ⊢;refine ⟨l1,l3,_,_,rfl,rfl,h16,h3,by rw [List.length_replicate,List.length_replicate,sizeLine_eq];omega,fun e ne=>?_⟩;have ee:List.replicate R.length (V.int 0)++List.replicate 1 (.int (-1))=(ens R.length 1).map V.int:=by unfold ens;rw [List.map_append,List.map_replicate,List.map_replicate]
 rw [ee];have T7:=T6.trans (Zi ne (.lst ((ens R.length 1).map V.int)));have he:upd H6 e (.lst ((ens R.length 1).map V.int)) e=some (.lst ((ens R.length 1).map V.int)):=Zh;generalize upd H6 e (.lst ((ens R.length 1).map V.int))=H7 at T7 he ⊢;walk_at "rd"
 have rq7:Jc H7 q (lns R n):=by
  obtain ⟨us,g1,g2,g3⟩:=rq;exact ⟨us,T7 _ _ g1,g2,fun i x r e1 e2=>(g3 i x r e1 e2).same T7⟩
 refine ⟨q,e,lns R n,ens R.length 1,rfl,rq7,he,by rw [Zgg,Ys],by rw [Ys];omega,fun r hr=>by rw [Ja wd r hr];omega,fun pB H8 A8=>?_⟩;have S8:=(S2.trans T7).trans A8.same;obtain ⟨bs,hbs,rbs⟩:=A8.at_;have lbs:bs.length=R.length+1:=by rw [rbs.length,List.length_map,qz,Ys]
 have ln8:=Zh8 hbs rbs;have P0:=PI.first wd;clear A8 rbs T7 T6 T5 T4 T3 h16 h15 h3 h2 h1 h0 rq rq3 rq7 he nl0 nl1 nl2 nl3 ne S3 S2;generalize fbd (lns R n) (ens R.length 1)=B0 at P0 ln8;walk_at "rd";refine FQ ?_;walk_at "rd";refine Yu (SqL.of hbs) ?_;rw [lbs];walk_at "rd";refine ⟨n,R.length+1,by rw [Int.natCast_add n (R.length+1)],by omega,by omega,fun pH nH=>?_⟩;have eh:((List.range (R.length+1)).map fun k:Nat=>V.int ((n+k:Nat):Int))=hsV (hs0 n (R.length+1)):=by unfold hsV hs0;rw [List.map_map];rfl
 rw [eh];have I0:HI H (upd H8 pH (.lst (hsV (hs0 n (R.length+1))))) pB pH B0 (hs0 n (R.length+1)):=⟨S8.trans (Zi nH _),S8.free nH,ln8.same (Zi nH _),Zh⟩
 generalize upd H8 pH (.lst (hsV (hs0 n (R.length+1))))=H9 at I0 ⊢;clear ln8 hbs lbs S8 nH eh;generalize hs0 n (R.length+1)=h00 at I0 P0;walk_at "rd";refine Zcp m21 P0 I0.bd I0.hd fun v H10 S10 av=>?_
 walk_at "rd";refine k_while (fun m σ H3=>∃(j:Nat) (B:List (List Int)) (hs:List Nat) (pB:Addr) (v:V) (u6:Option V),m=2 ^ (n+(R.length+1)) - j∧σ = [some (.ref a),some (.ref b),some (.int (n:Int)),some (.ref pB),some (.ref pH),some v,u6]∧PI R n j B hs∧HI H H3 pB pH B hs∧AtV B hs v) _ ⟨0,B0,h00,pB,v,none,rfl,rfl,P0,I0.on S10,av⟩ ?_;clear P0 I0 av S10 v pB B0 h00;rintro m σ H3 ⟨j,B,hs,pB,v,u6,rfl,rfl,P,I,av⟩;have few:=P.few wd;have lb:=P.lb;have lh:=P.lh;walk_at "rd";rcases av with ⟨rfl,all⟩ | ⟨i,rfl,s⟩
 ·refine FT (fun z=>absurd rfl z) (fun _=>?_);walk_at "rd";obtain ⟨o1,o2,o3⟩:=ZfB wd b3 n0 m21 P;obtain ⟨y1,y2⟩:=P.yes wd b3 n0 w26 all;refine ⟨pB,pH,B,hs,n,n+(R.length+1),rfl,I.bd,I.hd,by omega,by omega,P.wb,fun h hh=>?_,o1,o2,o3,fun q H4 A4=>?_⟩
  ·obtain ⟨t,ht⟩:=List.getElem?_of_mem hh;have lt:=(List.getElem?_eq_some_iff.mp ht).1
   have:hs.getD t 0 < _:=P.fr.ok.lt t (by omega)
   rw [List.getD_eq_getElem?_getD,ht] at this;exact this
  refine ⟨by show 2≤sizeLine;decide,fun p np=>?_⟩;have S:=Zi np (.tup [.bl true,.ref q]);refine k p _ ((I.same.trans A4.same).trans S) ?_ (by rw [y1];exact y2);rw [y1];exact .tup Zh (.cons (.bl true) (.cons (kj (I.same.free A4.new) (S _ _ (AccZ.ints A4))) .nil))
 ·refine FT (fun _=>?_) (fun z=>by cases z);have hi:=s.2.2.1;have li:=P.wb _ (List.mem_of_getElem? (Yj hi));obtain ⟨bs,hbs,lbs,rbs⟩:=I.bd;obtain ⟨c,ec,hc⟩:=LnAt.get (a:=pB) lbs rbs (Yj hi);refine ⟨fun σ' H'=>∃(B:List (List Int)) (hs:List Nat) (pB:Addr) (v:V) (u6:Option V),σ'=[some (.ref a),some (.ref b),some (.int (n:Int)),some (.ref pB),some (.ref pH),some v,u6]∧PI R n (j+1) B hs∧HI H H' pB pH B hs∧AtV B hs v,fun σ' H' ⟨B,hs,pB,v,u6,e,q⟩=>⟨2 ^ (n+(R.length+1)) - (j+1),by omega,j+1,B,hs,pB,v,u6,rfl,e,q⟩,?_⟩;walk_at "rd";refine Jm (SqL.of hbs) (Yd ec) ?_;walk_at "rd";refine ⟨c,B.getD i [],n+(R.length+1),rfl,hc,li,by omega,fun H4 S4=>⟨fun up=>?_,fun p pw low first=>?_⟩⟩
  ·walk_at "rd";refine Yi (fun _=>?_) (fun z=>absurd rfl z);walk_at "rd";refine Jm (SqL.of (S4 _ _ hbs)) (Yd ec) ?_;walk_at "rd";refine Yu (SqL.of (S4 _ _ (I.same _ _ ha))) ?_;rw [lx];walk_at "rd";refine ⟨c,_,rfl,SqL.of (S4 _ _ hc),fun t nt=>?_⟩;rw [Zgj _ _ _ (by rw [List.length_map];omega),← List.map_drop,← List.map_take];obtain ⟨y1,y2⟩:=P.no wd b3 n0 m21 s up;have S5:=(I.same.trans S4).trans (Zi nt (.lst ((((B.getD i []).drop n).take R.length).map V.int)));have h5:upd H4 t (.lst ((((B.getD i []).drop n).take R.length).map V.int)) t=some (.lst ((((B.getD i []).drop n).take R.length).map V.int)):=Zh;have nt0:=(I.same.trans S4).free nt;generalize upd H4 t (.lst ((((B.getD i []).drop n).take R.length).map V.int))=H5 at S5 h5 ⊢;refine ⟨by show 2≤sizeLine;decide,fun p np=>?_⟩;have S:=Zi np (.tup [.bl false,.ref t]);refine k p _ (S5.trans S) ?_ (by rw [y1];exact y2);rw [y1];exact .tup Zh (.cons (.bl false) (.cons (kj nt0 (S _ _ h5)) .nil))
  ·walk_at "rd";refine Yi (fun z=>by cases z) (fun _=>?_);walk_at "rd";obtain ⟨c1,c2⟩:=Ze8 wd b3 n0 m21 P s low;have I4:=I.on S4;refine ⟨pB,B,i,p,n+(R.length+1)+1,rfl,I4.bd,hi,by omega,by omega,P.wb,by omega,c1,c2,fun q H5 A5=>?_⟩;walk_at "rd";refine Zcr (g8 (i:=4) rfl (g8 (i:=5) rfl ?_));refine ⟨pH,_,_,i,rfl,rfl,A5.same _ _ I4.hd,?_,?_⟩
   ·unfold ixN hsV;rw [if_pos (by omega),if_pos (by rw [List.length_map];omega)];simp
   ·have eq:(hsV hs).set i (.int (p:Int))=hsV (hs.set i p):=by unfold hsV;rw [List.map_set]
    rw [eq];have P2:=P.next s pw low first;have I6:HI H (upd H5 pH (.lst (hsV (hs.set i p)))) q pH (pass B i p) (hs.set i p):=⟨fun x o e=>by rw [ZD (Zz e I4.nH)];exact A5.same _ _ (I4.same x o e),I4.nH,Zhd A5 I4.hd,Zh⟩
    generalize upd H5 pH (.lst (hsV (hs.set i p)))=H6 at I6 ⊢;walk_at "rd";refine Zcp m21 P2 I6.bd I6.hd fun v H7 S7 av=>?_
    walk_at "rd";exact ⟨_,_,_,_,_,rfl,P2,I6.on S7,av⟩
noncomputable def blOf (R:List (List Int)) (n:Nat):Bool×List Int:=if (JB (dbl R) n).1=true then JB (dbl R) n else (false,dif (JB (dbl R) n).2 R.length)
structure BlOk (R:List (List Int)) (n:Nat) (r:Bool×List Int):Prop where
 yes:r.1=true→r.2.length=n∧(∀k,k < n→0≤pt r.2 k)∧(∃k,k < n∧1≤pt r.2 k)∧∀i,i < R.length→(Bo.sm n fun k=>pt (R.getD i []) k*pt r.2 k)=0
 no:r.1=false→r.2.length=R.length∧∀k,k < n→0 < Bo.sm R.length fun l=>pt r.2 l*pt (R.getD l []) k
 bnd:∀k,(pt r.2 k).natAbs < 10 ^ 60
open Bo in
theorem ZiC{R:List (List Int)}{n:Nat}(h:Zev (dbl R) n (JB (dbl R) n)):BlOk R n (blOf R n):=by
 unfold blOf;generalize JB (dbl R) n=r at h ⊢;obtain ⟨b,y⟩:=r;have lt:(10:Nat) ^ 59 < 10 ^ 60:=by decide
 have hb:=h.bnd;cases b with
 | true =>
  rw [if_pos rfl];obtain ⟨y1,y2,y4,y3⟩:=h.yes rfl;refine ⟨fun _=>⟨y1,y2,y4,fun i hi=>?_⟩,fun z=>Bool.noConfusion z,fun k=>Nat.lt_trans (hb k) lt⟩;have p:=y3 i (by rw [Uk];omega);have q:=y3 (R.length+i) (by rw [Uk];omega);rw [ZcT hi] at p;rw [ZcU hi,ZK (g:=fun k=>- (pt (R.getD i []) k*pt y k)) fun k _=>by rw [GK,Int.neg_mul],Zgu] at q;show (Bo.sm n fun k=>pt (R.getD i []) k*pt y k)=0;have p':(Bo.sm n fun k=>pt (R.getD i []) k*pt y k)≤0:=p;omega
 | false =>
  rw [if_neg Bool.false_ne_true];obtain ⟨n1,n2,n3⟩:=h.no rfl;rw [Uk] at n1 n2;have len:y.length=R.length+R.length:=n1
  have e:∀k,(Bo.sm R.length fun l=>pt (dif y R.length) l*pt (R.getD l []) k)=sm (dbl R).length fun l=>pt y l*pt ((dbl R).getD l []) k:=by
   intro k;rw [Uk,jV,← Bo.J6];refine ZK fun l hl=>?_
   rw [ZeT len hl,ZcT hl,ZcU hl,GK,Int.sub_mul,Int.mul_neg];rfl
  refine ⟨fun z=>Bool.noConfusion z,fun _=>⟨yJ len,fun k hk=>?_⟩,fun k=>?_⟩
  ·show 0 < Bo.sm R.length fun l=>pt (dif y R.length) l*pt (R.getD l []) k
   rw [e];exact n3 k hk
  ·show (pt (dif y R.length) k).natAbs < 10 ^ 60;by_cases hk:k < R.length
   ·rw [ZeT len hk];have h1:(pt y k).natAbs < 10 ^ 59:=hb k;have h2:(pt y (R.length+k)).natAbs < 10 ^ 59:=hb (R.length+k);have e3:(10:Nat) ^ 60=10*10 ^ 59:=by decide
    rw [e3];generalize (10:Nat) ^ 59=T at h1 h2 ⊢;exact Nat.lt_of_le_of_lt (Int.natAbs_sub_le _ _) (Nat.lt_of_lt_of_le (Nat.add_lt_add h1 h2) (by omega))
   ·rw [Y9 (by rw [yJ len];omega)];decide
def Jj(K:Fg):Sp:=fun vs H Q _=>∃(a b:Addr) (R:List (List Int)) (n:Nat),vs=[.ref a,.ref b]∧Jc H a R∧Jc H b [ones n]∧Wide n R∧0 < n∧n≤8∧R.length+R.length+1≤21∧n+(R.length+R.length+1)≤26∧(∀r∈R,∀c∈r,c.natAbs≤3) ∧
 ∀(p:Addr) (H':Hp),Same H H'→Rp K (fun a=>H a=none) H' (.ref p) (qG (blOf R n))→BlOk R n (blOf R n)→Q (.ref p) H'
theorem Fw{K:Fg}{vs:List V}{H:Hp}{Q:VK}{E:XK}{x y:Str}(h:Jj K vs H Q E):vs.length=[x,y].length:=by
 obtain ⟨a,b,c,d,rfl,_⟩:=h;rfl
def Gb(K:Fg):TS:=(tSeq (tAsg (ZG (JD K) [] E0 (Zc (tOp rCat (tVar 0) (ZG (WL K) [] E0 (Zc (tVar 0) tNil))) (Zc (tVar 1) tNil))) (Zn 2))
 (tSeq (tIfS (tB (tOp (rIxT K) (tVar 2) (tC (.int 0))))
 (tRet (tVar 2))
 Z9)
 (tSeq (tAsg (tSl (rSlL K) (tOp (rIxT K) (tVar 2) (tC (.int 1))) Ge (yZ (tCB (Yh K) (Zc (tVar 0) tNil)))) (Zn 3))
 (tSeq (tAsg (tSl (rSlL K) (tOp (rIxT K) (tVar 2) (tC (.int 1))) (yZ (tCB (Yh K) (Zc (tVar 0) tNil))) Ge) (Zn 4))
 (tRet (tTup (Zc (tC (.bl false)) (Zc (YX (iZip K .L .L (Zc (tVar 3) (Zc (tVar 4) tNil))) 2 (gTup K 2 (Yg (Zn 0) (Yg (Zn 1) gNil))) (tOp qSub (tVar 0) (tVar 1))) tNil))))))))
theorem zX{K:Fg}{vs:List V}{H:Hp}{Q:VK}{E:XK}{N:List Str}(hN:N.length=5)(h:Jj K vs H Q E):Gb K (ends Q) (L2.start N vs) H:=by
 obtain ⟨a,b,R,n,rfl,⟨xs,ha,lx,hx⟩,rb,wd,n0,n8,m21,w26,b3,k⟩:=h;rw [show L2.start N [.ref a,.ref b]=[some (.ref a),some (.ref b),none,none,none] by unfold L2.start;rw [hN];rfl];unfold Gb;walk_at "rd";refine ⟨a,R,rfl,⟨xs,ha,lx,hx⟩,by omega,fun r hr=>by rw [wd r hr];omega,fun o H1 A1=>?_⟩;obtain ⟨zs,ho,rz⟩:=A1.at_;have lz:zs.length=R.length:=by rw [rz.length,List.length_map,List.length_map]
 have S1:=A1.same;refine ⟨a,o,_,_,rfl,rfl,S1 _ _ ha,ho,by rw [sizeLine_eq];omega,fun q nq=>?_⟩;have S2:=S1.trans (Zi nq (.lst (xs++zs)));have rq:Jc (upd H1 q (.lst (xs++zs))) q (dbl R):=uO Zh lx (fun i x r e1 e2=>(hx i x r e1 e2).same S2) (rz.same (Zi nq _));generalize upd H1 q (.lst (xs++zs))=H2 at S2 rq ⊢;clear rz ho A1 S1 nq;walk_at "rd";refine ⟨q,b,dbl R,n,rfl,rq,vK rb S2,Zep wd,n0,n8,by rw [Uk];exact m21,by rw [Uk];exact w26,ZcS b3,fun p H3 S3 r3 ok3=>?_⟩;have ok:=ZiC ok3;have len:(JB (dbl R) n).1=false→(JB (dbl R) n).2.length=R.length+R.length:=fun z=>by rw [(ok3.no z).1,Uk]
 clear ok3;have eb:blOf R n=if (JB (dbl R) n).1=true then JB (dbl R) n else (false,dif (JB (dbl R) n).2 R.length):=rfl
 generalize JB (dbl R) n=st at r3 eb len;obtain ⟨bb,y⟩:=st;obtain ⟨p',l,ep,hp,nl,hl⟩:=jH r3;cases ep;have S03:=S2.trans S3;walk_at "rd";refine Z_ (SqT.of hp) (v:=.bl bb) rfl ?_;walk_at "rd";cases bb with
 | true =>
  refine ZfU rfl ?_;rw [if_pos rfl] at eb;walk_at "rd";refine k p H3 S03 ?_ ok;rw [eb];exact r3.mono fun c z=>S2.free z
 | false =>
  refine ZfV rfl ?_;rw [if_neg Bool.false_ne_true] at eb;have ly:y.length=R.length+R.length:=len rfl;have hl':H3 l=some (.lst (y.map V.int)):=hl;walk_at "rd";refine Z_ (SqT.of hp) (v:=.ref l) rfl ?_;walk_at "rd";refine Yu (SqL.of (S03 _ _ ha)) ?_;rw [lx];walk_at "rd";refine ⟨l,_,rfl,SqL.of hl',fun t1 nt1=>?_⟩;rw [Zer _ (by rw [List.length_map];omega),← List.map_take];have S4:=Zi nt1 (.lst ((y.take R.length).map V.int));have h4:upd H3 t1 (.lst ((y.take R.length).map V.int)) t1=some (.lst ((y.take R.length).map V.int)):=Zh;generalize upd H3 t1 (.lst ((y.take R.length).map V.int))=H4 at S4 h4 ⊢;walk_at "rd";refine Z_ (SqT.of (S4 _ _ hp)) (v:=.ref l) rfl ?_;walk_at "rd";refine Yu (SqL.of (S4 _ _ (S03 _ _ ha))) ?_;rw [lx];walk_at "rd";refine ⟨l,_,rfl,SqL.of (S4 _ _ hl'),fun t2 nt2=>?_⟩;rw [ZcV,← List.map_drop];have S5:=Zi nt2 (.lst ((y.drop R.length).map V.int));have h45:=S5 _ _ h4;have h5:upd H4 t2 (.lst ((y.drop R.length).map V.int)) t2=some (.lst ((y.drop R.length).map V.int)):=Zh;have S05:=(S03.trans S4).trans S5;generalize upd H4 t2 (.lst ((y.drop R.length).map V.int))=H5 at S5 h45 h5 S05 ⊢;walk_at "rd";refine ⟨t1,t2,_,_,rfl,SqL.of h45,SqL.of h5,?_⟩;have ml:min ((y.take R.length).map V.int).length ((y.drop R.length).map V.int).length=(dif y R.length).length:=by rw [yJ ly,List.length_map,List.length_map,List.length_take,List.length_drop];omega
  have dl:=yJ ly;refine U_ (k1:=.L) (k2:=.L) (xs:=(y.take R.length).map V.int) (ys:=(y.drop R.length).map V.int) fun D nD=>⟨fun i H6=>AccZ K H5 D H6 (((dif y R.length).take i).map Dat.int),by simpa using AccZ.start (Same.refl _) nD,fun i H6 _ A=>⟨SqL.of (A.same _ _ h45),SqL.of (A.same _ _ h5)⟩,?_,?_⟩
  ·intro i y1 y2 H6 T e1 e2 A nT us hu
   obtain ⟨u0,u1,rfl⟩:∃u0 u1,us=[u0,u1]:=by
    match us,hu with
    | [u0,u1],_=>exact ⟨u0,u1,rfl⟩
   rw [List.getElem?_map] at e1 e2;obtain ⟨m1,f1,rfl⟩:=Option.map_eq_some_iff.mp e1;obtain ⟨m2,f2,rfl⟩:=Option.map_eq_some_iff.mp e2;have ec:(dif y R.length)[i]? = some (m1 - m2):=by unfold dif;rw [List.getElem?_zipWith,f1,f2]
   have li:i < (dif y R.length).length:=(List.getElem?_eq_some_iff.mp ec).1;refine Y5 (SqT.of Zh) rfl ?_;walk_at "rd";refine ⟨⟨[some (.int m1),some (.int m2)],rfl,rfl⟩,?_⟩;walk_at "rd";refine pushed (by rw [ml];exact li) ?_;refine (A.on (Zi nT _)).Yv (.int (m1 - m2)) (Zq (by rw [List.length_map,List.length_take];omega)) fun H7 A7=>?_
   show AccZ K H5 D H7 (((dif y R.length).take (i+1)).map Dat.int);rw [List.take_add_one,ec,List.map_append];exact A7
  ·intro H6 A;rw [ml,List.take_of_length_le (Nat.le_refl _)] at A;walk_at "rd";refine ⟨by show 2≤sizeLine;decide,fun pp np=>?_⟩;have S:=Zi np (.tup [.bl false,.ref D]);refine k pp _ ((S05.trans A.same).trans S) ?_ ok;rw [eb];exact .tup Zh (.cons (.bl false) (.cons (kj (S05.free A.new) (S _ _ (AccZ.ints A))) .nil))
end Bg
namespace Gu
open PySem L2 Fr G1 Sm Vs G2 Rk Sz Sf Rw Cl Br Dn
open PySem.W (Dat kqdOk)
theorem Zby:∀n < 6,∀S∈vC n,S.Nodup:=by decide +kernel
def sel(r:List Int)(S:List Nat):List Int:=S.map fun k=>pt r k
theorem Gf(r:List Int)(S:List Nat):(sel r S).length=S.length:=List.length_map _
theorem ZeC{r:List Int}{S:List Nat}{j:Nat}(h:j < S.length):pt (sel r S) j=pt r (S.getD j 0):=by
 unfold sel;rw [show pt (S.map fun k=>pt r k) j=((S.map fun k=>pt r k)[j]?).getD 0 from by unfold pt;rw [List.getD_eq_getElem?_getD],List.getElem?_map,List.getD_eq_getElem?_getD,List.getElem?_eq_getElem h];rfl
def spr(n:Nat)(S:List Nat)(y:List Int):Nat→List Int
 | 0=>List.replicate n 0
 | j+1=>(spr n S y j).set (S.getD j 0) (pt y j)
theorem Ww(n:Nat)(S:List Nat)(y:List Int):∀j,(spr n S y j).length=n
 | 0=>List.length_replicate
 | j+1=>by unfold spr;rw [List.length_set];exact Ww n S y j
theorem uL{n:Nat}{S:List Nat}{y:List Int}{k:Nat}(lt:∀i∈S,i < n):∀j,j≤S.length→(∀i,i < j→S.getD i 0≠k)→pt (spr n S y j) k=0
 | 0,_,_=>by
  show pt (List.replicate n 0) k=0;unfold pt;rw [List.getD_eq_getElem?_getD];cases e:(List.replicate n (0:Int))[k]? with
  | none=>rfl
  | some c=>exact List.eq_of_mem_replicate (List.mem_of_getElem? e)
 | j+1,hj,h=>by
  have m:S.getD j 0∈S:=by rw [List.getD_eq_getElem?_getD,List.getElem?_eq_getElem (by omega)];exact List.getElem_mem _
  unfold spr;rw [vD (by rw [Ww];exact lt _ m),if_neg (h j (by omega))];exact uL lt j (by omega) fun i hi=>h i (by omega)
theorem ZfD{S:List Nat}(nd:S.Nodup){i j:Nat}(hi:i < S.length)(hj:j < S.length)(e:S.getD i 0=S.getD j 0):i=j:=by
 rw [List.getD_eq_getElem?_getD,List.getD_eq_getElem?_getD,List.getElem?_eq_getElem hi,List.getElem?_eq_getElem hj] at e;exact (List.getElem_inj (h₀:=hi) (h₁:=hj) nd).mp e
theorem uM{n:Nat}{S:List Nat}{y:List Int}(lt:∀i∈S,i < n)(nd:S.Nodup){i:Nat}:∀j,j≤S.length→i < j→pt (spr n S y j) (S.getD i 0)=pt y i
 | 0,_,h=>absurd h (Nat.not_lt_zero _)
 | j+1,hj,h=>by
  have m:S.getD j 0∈S:=by rw [List.getD_eq_getElem?_getD,List.getElem?_eq_getElem (by omega)];exact List.getElem_mem _
  unfold spr;rw [vD (by rw [Ww];exact lt _ m)];by_cases q:i=j
  ·subst q;rw [if_pos rfl]
  ·rw [if_neg fun e=>q (ZfD nd (by omega) (by omega) e.symm)];exact uM lt nd j (by omega) (by omega)
theorem Zbx{n:Nat}:∀{S:List Nat} {f:Nat→Int},S.Nodup→(∀k∈S,k < n)→(∀k,k < n→k∉S→f k=0)→Bo.sm n f=(S.map f).sum
 | [],f,_,_,h=>by rw [Bo.W0 fun k hk=>h k hk (by simp)];rfl
 | s :: S,f,nd,lt,h=>by
  rw [List.nodup_cons] at nd
  have e:Bo.sm n f=Bo.sm n (fun k=>(if k=s then f s else 0)+if k=s then 0 else f k):=Bo.ZK fun k _=>by
   by_cases q:k=s
   ·subst q;simp
   ·simp [q]
  rw [e,Bo.J6,Bo.JM (j:=s) (lt s List.mem_cons_self) (fun j _ ne=>if_neg ne),if_pos rfl,Zbx (S:=S) nd.2 (fun k hk=>lt k (List.mem_cons_of_mem _ hk)) (fun k hk no=>?_)]
  ·rw [List.map_cons,List.sum_cons];congr 2;exact List.map_congr_left fun k hk=>if_neg fun (q:k=s)=>nd.1 (q ▸ hk)
  ·by_cases q:k=s
   ·rw [if_pos q]
   ·rw [if_neg q];exact h k hk fun m=>(List.mem_cons.mp m).elim q no
theorem Zgs(S:List Nat)(f:Nat→Int):(S.map f).sum=Bo.sm S.length fun j=>f (S.getD j 0):=by
 rw [← jW];congr 1;refine List.ext_getElem? fun i=>?_
 rw [List.getElem?_map,List.getElem?_map];by_cases h:i < S.length
 ·rw [List.getElem?_eq_getElem h,List.getElem?_range h];show some (f S[i])=some (f (S.getD i 0));rw [List.getD_eq_getElem?_getD,List.getElem?_eq_getElem h];rfl
 ·rw [List.getElem?_eq_none (l:=S) (by omega),List.getElem?_eq_none (l:=List.range S.length) (by rw [List.length_range];omega)];rfl
abbrev prt(C:List (List Int))(S:List Nat):List (List Int):=C.map fun r=>sel r S
noncomputable def gdOf (n:Nat) (C:List (List Int)) (S:List Nat):Bool×List Int:=if (Bg.blOf (prt C S) S.length).1=true then (true,spr n S (Bg.blOf (prt C S) S.length).2 S.length) else Bg.blOf (prt C S) S.length
structure GdOk (n:Nat) (C:List (List Int)) (S:List Nat) (r:Bool×List Int):Prop where
 yes:r.1=true→r.2.length=n∧(∀k,0≤pt r.2 k)∧(∃k,k < n∧1≤pt r.2 k)∧(∀k,0 < pt r.2 k→k∈S)∧∀i,i < C.length→(Bo.sm n fun k=>pt (C.getD i []) k*pt r.2 k)=0
 no:r.1=false→r.2.length=C.length∧∀k∈S,0 < Bo.sm C.length fun l=>pt r.2 l*pt (C.getD l []) k
 bnd:∀k,(pt r.2 k).natAbs < 10 ^ 60
theorem ZeH{C:List (List Int)}{S:List Nat}{i:Nat}(h:i < C.length):(prt C S).getD i []=sel (C.getD i []) S:=by
 rw [List.getD_eq_getElem?_getD,List.getElem?_map,List.getElem?_eq_getElem h,List.getD_eq_getElem?_getD,List.getElem?_eq_getElem h];rfl
theorem at_S{S:List Nat}{k:Nat}(h:k∈S):∃j,j < S.length∧S.getD j 0=k:=by
 obtain ⟨j,hj,e⟩:=List.mem_iff_getElem.mp h;exact ⟨j,hj,by rw [List.getD_eq_getElem?_getD,List.getElem?_eq_getElem hj];exact e⟩
theorem Zg7{S:List Nat}{j:Nat}(h:j < S.length):S.getD j 0∈S:=by rw [List.getD_eq_getElem?_getD,List.getElem?_eq_getElem h];exact List.getElem_mem _
theorem jU{n:Nat}{S:List Nat}{y:List Int}{k:Nat}(lt:∀i∈S,i < n)(h:k∉S):pt (spr n S y S.length) k=0:=uL lt _ (Nat.le_refl _) fun _ hi e=>h (e ▸ Zg7 hi)
theorem Ziz{n:Nat}{C:List (List Int)}{S:List Nat}(lt:∀i∈S,i < n)(nd:S.Nodup)(h:Bg.BlOk (prt C S) S.length (Bg.blOf (prt C S) S.length)):GdOk n C S (gdOf n C S):=by
 unfold gdOf;generalize Bg.blOf (prt C S) S.length=r at h ⊢;obtain ⟨b,y⟩:=r;have hb:=h.bnd;have hold:∀{j},j < S.length→pt (spr n S y S.length) (S.getD j 0)=pt y j:=fun hj=>uM lt nd _ (Nat.le_refl _) hj
 cases b with
 | true =>
  rw [if_pos rfl];obtain ⟨y1,y2,⟨j,hj,y3⟩,y4⟩:=h.yes rfl;refine ⟨fun _=>⟨Ww n S y _,fun k=>?_,⟨S.getD j 0,lt _ (Zg7 hj),?_⟩,fun k hk=>?_,fun i hi=>?_⟩,(fun z=>by cases z),fun k=>?_⟩
  ·show 0≤pt (spr n S y S.length) k;by_cases m:k∈S
   ·obtain ⟨j,hj,rfl⟩:=at_S m;rw [hold hj];exact y2 j hj
   ·rw [jU lt m];exact Int.le_refl _
  ·show 1≤pt (spr n S y S.length) (S.getD j 0);rw [hold hj];exact y3
  ·refine Classical.byContradiction fun m=>?_
   have hk':0 < pt (spr n S y S.length) k:=hk;rw [jU lt m] at hk';exact absurd hk' (by decide)
  ·show (Bo.sm n fun k=>pt (C.getD i []) k*pt (spr n S y S.length) k)=0;rw [Zbx nd lt fun k _ m=>by rw [jU lt m,Int.mul_zero],Zgs]
   have:=y4 i (by rw [List.length_map];exact hi)
   rw [ZeH hi] at this;rw [← this];exact Bo.ZK fun j hj=>by rw [hold hj,ZeC hj]
  ·show (pt (spr n S y S.length) k).natAbs < 10 ^ 60;by_cases m:k∈S
   ·obtain ⟨j,hj,rfl⟩:=at_S m;rw [hold hj];exact hb j
   ·rw [jU lt m];decide
 | false =>
  rw [if_neg Bool.false_ne_true];obtain ⟨n1,n2⟩:=h.no rfl;rw [List.length_map] at n1 n2;refine ⟨(fun z=>by cases z),fun _=>⟨n1,fun k hk=>?_⟩,hb⟩;obtain ⟨j,hj,rfl⟩:=at_S hk
  have:=n2 j hj
  rw [Bo.ZK (g:=fun l=>pt y l*pt (C.getD l []) (S.getD j 0)) fun l hl=>by rw [ZeH hl,ZeC hj]] at this;exact this
theorem Fo{S T:List Nat}(h:nI S=nI T):S=T:=by
 unfold nI at h;exact (List.map_inj_right fun a b e=>by omega).mp h
theorem Zao{a b:List Int}(h:dI a=dI b):a=b:=by
 have e:a.map Dat.int=b.map Dat.int:=by injection h
 exact List.map_inj_right (fun x y z=>by injection z) |>.mp e
structure DrOk (ws:List Str) (ts:List Tn):Prop where
 ch:ChOk ws.length ts
 w1:1≤ws.length
 ne:ts≠[]
 to:∀t∈ts,t.to.length=ws.length
def GdQ(ws:List Str)(ts:List Tn)(ns:List Int)(S:List Nat):Prop:=S∈vC ws.length∧nI S=ns∧isD (ts.map pr) S=true
def Uy(K:Fg)(C:Addr):Sp:=fun vs H Q E=>∃(v w:V) (ws:List Str) (ts:List Tn) (ns:List Int),vs=[v,w]∧Rz K H v (dV ws ts)∧Rz K H w (dI ns)∧DrOk ws ts∧ns.length≤100∧((∃S,GdQ ws ts ns S)→∀H',Same H H'→Q .non H')∧((¬ ∃S,GdQ ws ts ns S)→∀H',Same H H'→E (.ref C) none H')
theorem Za0{K:Fg}{C:Addr}{vs:List V}{H:Hp}{Q:VK}{E:XK}{x y:Str}(h:Uy K C vs H Q E):vs.length=[x,y].length:=by
 obtain ⟨a,b,c,d,e,rfl,_⟩:=h;rfl
def jR(K:Fg)(E:XK)(x:Ex0.Ad):TS:=(tSeq (tIfS (tOr (tNot (tB (tCB (rAll K) (Zc (Y6 (iTup K (tVar 1)) (ZG Jp [] E0 (Zc (tVar 0) tNil))) tNil)))) (Z6 (tOp (rInD K true) (tVar 1) (ZG (Ut K) [] E0 (Zc (tCB (Yh K) (Zc (tOp (rIxT K) (tVar 0) (tC (.int 0))) tNil)) tNil)))))
 (Zbp E x.c9 (tC (.str "a drain is a tuple of numbers of stuffs, rising and not empty")))
 Z9)
 (tIfS (tNot (tB (ZG (JG K) [] E0 (Zc (tVar 0) (Zc (tVar 1) tNil)))))
 (Zbp E x.c9 (tC (.str "some turning puts pieces into this set and takes none from it")))
 Z9))
theorem ZbK{K:Fg}{x:Ex0.Ad}{vs:List V}{H:Hp}{Q:VK}{E:XK}{N:List Str}(hN:N.length=2)(h:Uy K x.c9 vs H Q E):jR K E x (ends Q) (L2.start N vs) H:=by
 obtain ⟨v,w,ws,ts,ns,rfl,rv,rw_,dr,l100,k1,k2⟩:=h;rw [show L2.start N [v,w]=[some v,some w] by unfold L2.start;rw [hN];rfl];obtain ⟨b,rfl,hb⟩:=yK rw_;obtain ⟨p,v1,v2,rfl,hp,r1,r2⟩:=jg rv;obtain ⟨a1,ys,rfl,ha1,ry⟩:=r1.Yz;have ly:ys.length=ws.length:=by rw [ry.length,List.length_map]
 have w5:=dr.ch.w5;have t8:=dr.ch.le;unfold jR;walk_at "rd";refine Zcq (SqT.of hb) ?_;refine J2 (xs:=ns.map V.int) fun D nD=>⟨fun i H2=>AccZ K H D H2 ((List.replicate i true).map Dat.bool),AccZ.start (Same.refl _) nD,fun i H2 _ A=>SqT.of (A.same _ _ hb),?_,?_⟩
 ·intro i z H2 hz A;have li:=(List.getElem?_eq_some_iff.mp hz).1;rw [List.getElem?_map] at hz;obtain ⟨m,hm,rfl⟩:=Option.map_eq_some_iff.mp hz;walk_at "rd";refine ⟨m,rfl,?_⟩;exact yL (H0:=H) (by rw [List.length_map];omega) li (fun _ _=>Iff.rfl) A (Same.refl _)
 ·intro H2 A;walk_at "rd";refine k_all (AccZ.bls A) ?_;rw [Md.Zdc];have S2:=A.same;walk_at "rd";refine Z_ (SqT.of (S2 _ _ hp)) (v:=.ref a1) rfl ?_;walk_at "rd";refine Jx (SqT.of (S2 _ _ ha1)) ?_;rw [ly];walk_at "rd";refine ⟨ws.length,rfl,w5,fun q H3 A3=>?_⟩;obtain ⟨zs,hq,rz⟩:=A3.at_;have S3:=S2.trans A3.same;refine yE (d:=dI ns) (ds:=(vC ws.length).map Dn.dS) (rw_.same S3).rep (.lst (SqL.of hq) rz.rep) (fun e he=>?_) (ZaO ns 7) (fun no=>?_) (fun yes=>?_)
  ·obtain ⟨S,_,rfl⟩:=List.mem_map.mp he;exact ZaO _ 7
  ·walk_at "rd";exact ⟨rfl,k2 (fun ⟨S,s1,s2,_⟩=>no (List.mem_map.mpr ⟨S,s1,by rw [← s2];rfl⟩)) H3 S3⟩
  ·obtain ⟨S,s1,s2⟩:=List.mem_map.mp yes;obtain rfl:nI S=ns:=Zao s2;obtain ⟨_,s5,slt⟩:=W4 ws.length (by omega) S s1;walk_at "rd";refine ⟨.ref p,.ref b,ws,ts,S,rfl,rv.same S3,rw_.same S3,fun t ht k hk=>⟨by rw [dr.ch.fr t ht];exact slt k hk,by rw [dr.to t ht];exact slt k hk⟩,by omega,by omega,fun H4 S4=>?_⟩;cases hD:isD (ts.map pr) S with
   | true =>
    walk_at "rd";exact k1 ⟨S,s1,rfl,hD⟩ H4 (S3.trans S4)
   | false =>
    walk_at "rd";exact ⟨rfl,k2 (fun ⟨T,_,t2,t3⟩=>by rw [Fo t2,hD] at t3;cases t3) H4 (S3.trans S4)⟩
def WM(K:Fg):Sp:=fun vs H Q _=>∃(v w:V) (r:List Int) (S:List Nat),vs=[v,w]∧Rz K H v (dI r)∧Rz K H w (Dn.dS S)∧(∀k∈S,k < r.length)∧S.length≤100∧∀(p:Addr) (H':Hp),AccZ K H p H' ((sel r S).map Dat.int)→Q (.ref p) H'
theorem Zcg{K:Fg}{vs:List V}{H:Hp}{Q:VK}{E:XK}{x y:Str}(h:WM K vs H Q E):vs.length=[x,y].length:=by
 obtain ⟨a,b,c,d,rfl,_⟩:=h;rfl
def zG(K:Fg):TS:=(tRet (Y6 (iTup K (tVar 1)) (tOp (rIxT K) (tVar 1) (tVar 0))))
theorem Zdx{K:Fg}{vs:List V}{H:Hp}{Q:VK}{E:XK}{N:List Str}(hN:N.length=2)(h:WM K vs H Q E):zG K (ends Q) (L2.start N vs) H:=by
 obtain ⟨v,w,r,S,rfl,rv,rw_,slt,l100,k⟩:=h;rw [show L2.start N [v,w]=[some v,some w] by unfold L2.start;rw [hN];rfl];obtain ⟨a,rfl,ha⟩:=yK rv;obtain ⟨b,rfl,hb⟩:=Za3 rw_;unfold zG;walk_at "rd";refine Zcq (SqT.of hb) ?_;refine J2 (xs:=(nI S).map V.int) fun D nD=>⟨fun i H2=>AccZ K H D H2 (((sel r S).take i).map Dat.int),by simpa using AccZ.start (Same.refl _) nD,fun i H2 _ A=>SqT.of (A.same _ _ hb),?_,?_⟩
 ·intro i z H2 hz A;have li:=(List.getElem?_eq_some_iff.mp hz).1;obtain ⟨m,hm,rfl⟩:=Fp hz;have lm:=slt m (List.mem_of_getElem? hm);have es:(sel r S)[i]? = some (pt r m):=by unfold sel;rw [List.getElem?_map,hm];rfl
  walk_at "rd";refine Z_ (SqT.of (A.same _ _ ha)) (v:=.int (pt r m)) (Yd (by rw [List.getElem?_map,YJ lm];rfl)) ?_;refine pushed li (A.Yv (.int (pt r m)) (Zq (by rw [List.length_map,List.length_take,Gf];omega)) fun H3 A3=>?_);show AccZ K H D H3 (((sel r S).take (i+1)).map Dat.int);rw [List.take_add_one,es,List.map_append];exact A3
 ·intro H2 A;rw [show ((nI S).map V.int).length=(sel r S).length by rw [List.length_map,Y4,Gf],List.take_length] at A;exact k D H2 A
end Gu
namespace Gu
open PySem L2 Fr G1 Sm Vs G2 Rk Sz Sf Rw Cl Br Dn
open PySem.W (Dat kqdOk)
def JK(K:Fg)(C:Addr):Sp:=fun vs H Q E=>∃(v w:V) (ws:List Str) (ts:List Tn) (ns:List Int),vs=[v,w]∧Rz K H v (dV ws ts)∧Rz K H w (dI ns)∧DrOk ws ts∧ns.length≤100 ∧
 (∀S,GdQ ws ts ns S→∀(p:Addr) (H':Hp),Same H H'→Rp K (fun a=>H a=none) H' (.ref p) (qG (gdOf ws.length (ts.map chg) S))→GdOk ws.length (ts.map chg) S (gdOf ws.length (ts.map chg) S)→Q (.ref p) H')∧((¬ ∃S,GdQ ws ts ns S)→∀H',Same H H'→E (.ref C) none H')
theorem Zcl{K:Fg}{C:Addr}{vs:List V}{H:Hp}{Q:VK}{E:XK}{x y:Str}(h:JK K C vs H Q E):vs.length=[x,y].length:=by
 obtain ⟨a,b,c,d,e,rfl,_⟩:=h;rfl
theorem Zh2{K:Fg}{H0 H:Hp}{p:Addr}{R:List (List Int)}(A:Acc K H0 p H (R.map dL)):Jc H p R:=by
 obtain ⟨xs,h1,h2⟩:=A.at_;refine ⟨xs,h1,by rw [h2.length,List.length_map],fun i x r hx hr=>?_⟩;obtain ⟨d,g1,g2⟩:=h2.get hx;rw [List.getElem?_map,hr] at g1;cases g1;obtain ⟨b,rfl,_,hb⟩:=kE g2;exact ⟨b,rfl,.inl hb⟩
def zM(K:Fg)(E:XK)(x:Ex0.Ad):TS:=(tSeq (YT (ZG (Uy K x.c9) [] E (Zc (tVar 0) (Zc (tVar 1) tNil))))
 (tSeq (tAsg (Y6 (U9 K (ZG (vm K) [] E0 (Zc (tVar 0) tNil))) (ZG (WM K) [] E0 (Zc (tVar 0) (Zc (tVar 2) tNil)))) (Zn 2))
 (tSeq (tAsg (ZG (Bg.Jj K) [] E0 (Zc (tVar 2) (Zc (tLst (Zc (tOp rRep (tLst (Zc (tC (.int 1)) tNil)) (tCB (Yh K) (Zc (tVar 1) tNil))) tNil)) tNil))) (Zn 3))
 (tSeq (tIfS (tNot (tB (tOp (rIxT K) (tVar 3) (tC (.int 0)))))
 (tRet (tVar 3))
 Z9)
 (tSeq (tAsg (tOp rRep (tLst (Zc (tC (.int 0)) tNil)) (tCB (Yh K) (Zc (tOp (rIxT K) (tVar 0) (tC (.int 0))) tNil))) (Zn 4))
 (tSeq (tFor (iZip K .T .L (Zc (tVar 1) (Zc (tOp (rIxT K) (tVar 3) (tC (.int 1))) tNil))) (gTup K 2 (Yg (Zn 5) (Yg (Zn 6) gNil)))
 (tAsg (tVar 6) (gSub (tVar 4) (tVar 5) ZdG)))
 (tRet (tTup (Zc (tC (.bl true)) (Zc (tVar 4) tNil))))))))))
theorem ZdD{K:Fg}{x:Ex0.Ad}{vs:List V}{H:Hp}{Q:VK}{E:XK}{N:List Str}(hN:N.length=7)(h:JK K x.c9 vs H Q E):zM K E x (ends Q) (L2.start N vs) H:=by
 obtain ⟨v,w,ws,ts,ns,rfl,rv,rw_,dr,l100,kg,kb⟩:=h;rw [show L2.start N [v,w]=[some v,some w,none,none,none,none,none] by unfold L2.start;rw [hN];rfl];unfold zM;walk_at "rd";refine ⟨v,w,ws,ts,ns,rfl,rv,rw_,dr,l100,fun ⟨S,gq⟩ H1 S1=>?_,kb⟩;have k:=kg S gq;clear kg kb;obtain ⟨s1,rfl,s3⟩:=gq;have w5:=dr.ch.w5;have t8:=dr.ch.le;obtain ⟨sne,s5,slt⟩:=W4 ws.length (by omega) S s1;have snd:=Zby ws.length (by omega) S s1;have spos:0 < S.length:=List.length_pos_iff.mpr sne;obtain ⟨b,rfl,hb⟩:=Za3 (show Rz K H w (Dn.dS S) from rw_);obtain ⟨p0,v1,v2,rfl,hp,r1,r2⟩:=jg rv;obtain ⟨a1,ys,rfl,ha1,ry⟩:=r1.Yz;have ly:ys.length=ws.length:=by rw [ry.length,List.length_map]
 have lC:(ts.map chg).length=ts.length:=List.length_map _;have wdC:∀c∈ts.map chg,c.length=ws.length:=dr.ch.wide;have b3C:∀c∈ts.map chg,∀z∈c,z.natAbs≤3:=ch3 dr.ch;walk_at "rd";refine ⟨.ref p0,ws,ts,rfl,rv.same S1,by omega,fun t ht=>by rw [dr.ch.fr t ht];omega,fun q H2 A2=>?_⟩;generalize ts.map chg=C at k lC wdC b3C A2;obtain ⟨zs,hq,rz⟩:=A2.at_;have lz:zs.length=C.length:=by rw [rz.length,List.length_map]
 have S2:=S1.trans A2.same;refine FN (SqL.of hq) ?_;refine YL (xs:=zs) fun D nD=>⟨fun i H3=>Acc K H2 D H3 (((prt C S).take i).map dL),by simpa using Acc.start nD,fun i H3 _ A=>SqL.of (A.same _ _ hq),?_,?_⟩
 ·intro i z H3 hz A;have li:=(List.getElem?_eq_some_iff.mp hz).1;obtain ⟨dd,g1,g2⟩:=rz.get hz;rw [List.getElem?_map] at g1;obtain ⟨c,hc,rfl⟩:=Option.map_eq_some_iff.mp g1;have lc:=wdC c (List.mem_of_getElem? hc);have ep:(prt C S)[i]? = some (sel c S):=by rw [List.getElem?_map,hc];rfl
  walk_at "rd";refine ⟨z,.ref b,c,S,rfl,g2.same A.same,rw_.same (S2.trans A.same),fun k hk=>by rw [lc];exact slt k hk,by omega,fun q3 H4 B=>?_⟩;refine pushed li (A.Yv B.same (d:=dL (sel c S)) B.ref (Zq (by rw [List.length_map,List.length_take,List.length_map];omega)) fun H5 A5=>?_);show Acc K H2 D H5 (((prt C S).take (i+1)).map dL);rw [List.take_add_one,ep,List.map_append];exact A5
 ·intro H3 A;have ez:(prt C S).length=zs.length:=by rw [List.length_map];omega
  rw [← ez,List.take_length] at A;have S3:=S2.trans A.same;walk_at "rd";refine ⟨by show 1≤sizeLine;decide,fun l0 nl0=>?_⟩;have T1:=Zi nl0 (.lst [.int 1]);have h0:upd H3 l0 (.lst [.int 1]) l0=some (.lst [.int 1]):=Zh;generalize upd H3 l0 (.lst [.int 1])=H4 at T1 h0 ⊢;walk_at "rd";refine Jx (SqT.of (T1 _ _ (S3 _ _ hb))) ?_;rw [List.length_map,Y4];walk_at "rd";refine Zd8 h0 (by omega) fun l1 nl1=>?_
  have T2:=T1.trans (Zi nl1 (.lst (List.replicate S.length (.int 1))));have h1:upd H4 l1 (.lst (List.replicate S.length (.int 1))) l1=some (.lst ((Bg.ones S.length).map V.int)):=by rw [Zh];unfold Bg.ones;rw [List.map_replicate]
  generalize upd H4 l1 (.lst (List.replicate S.length (.int 1)))=H5 at T2 h1 ⊢;walk_at "rd";refine ⟨by show 1≤sizeLine;decide,fun l2 nl2=>?_⟩;have T3:=Zi nl2 (.lst [.ref l1]);have h2:upd H5 l2 (.lst [.ref l1]) l2=some (.lst [.ref l1]):=Zh;have h15:=T3 _ _ h1;have T4:=T2.trans T3;generalize upd H5 l2 (.lst [.ref l1])=H6 at T3 h2 h15 T4 ⊢;have S6:=S3.trans T4;have rD:=vK (Zh2 A) T4
  have r1w:Jc H6 l2 [Bg.ones S.length]:=⟨_,h2,rfl,fun i x r e1 e2=>by
   match i,e1,e2 with
   | 0,e1,e2=>cases e1;cases e2;exact ⟨l1,rfl,.inl h15⟩⟩
  refine ⟨D,l2,prt C S,S.length,rfl,rD,r1w,?_,spos,by omega,by omega,by omega,?_,fun p H7 S7 r7 ok7=>?_⟩
  ·intro r hr;obtain ⟨c,_,rfl⟩:=List.mem_map.mp hr;exact Gf c S
  ·intro r hr z hz;obtain ⟨c,hc,rfl⟩:=List.mem_map.mp hr;obtain ⟨k,hk,rfl⟩:=List.mem_map.mp hz;exact b3C c hc _ (GP (by rw [wdC c hc];exact slt k hk))
  have gok:=Ziz (n:=ws.length) slt snd ok7;have eg:gdOf ws.length C S=if (Bg.blOf (prt C S) S.length).1=true then (true,spr ws.length S (Bg.blOf (prt C S) S.length).2 S.length) else Bg.blOf (prt C S) S.length:=rfl
  have ylen:(Bg.blOf (prt C S) S.length).1=true→(Bg.blOf (prt C S) S.length).2.length=S.length:=fun z=>(ok7.yes z).1
  clear ok7;generalize Bg.blOf (prt C S) S.length=st at r7 eg ylen;obtain ⟨bb,y⟩:=st;obtain ⟨p',l,ep,hp7,nl,hl⟩:=jH r7;cases ep;have S07:=S6.trans S7;walk_at "rd";refine Z_ (SqT.of hp7) (v:=.bl bb) rfl ?_;walk_at "rd";cases bb with
  | false =>
   rw [if_neg Bool.false_ne_true] at eg;walk_at "rd";refine k p H7 S07 ?_ gok;rw [eg];exact r7.mono fun c z=>S6.free z
  | true =>
   rw [if_pos rfl] at eg;have ly2:y.length=S.length:=ylen rfl;have hl':H7 l=some (.lst (y.map V.int)):=hl;walk_at "rd";refine ⟨by show 1≤sizeLine;decide,fun m0 nm0=>?_⟩;have U1:=Zi nm0 (.lst [.int 0]);have g0:upd H7 m0 (.lst [.int 0]) m0=some (.lst [.int 0]):=Zh;generalize upd H7 m0 (.lst [.int 0])=H8 at U1 g0 ⊢;walk_at "rd";refine Z_ (SqT.of (U1 _ _ (S07 _ _ hp))) (v:=.ref a1) rfl ?_;walk_at "rd";refine Jx (SqT.of (U1 _ _ (S07 _ _ ha1))) ?_;rw [ly];walk_at "rd";refine Zd8 g0 (by omega) fun m1 nm1=>?_
   have U2:=U1.trans (Zi nm1 (.lst (List.replicate ws.length (.int 0))));have nm7:H m1=none:=(S07.trans U1).free nm1;have nmb:H7 m1=none:=U1.free nm1;have g1:upd H8 m1 (.lst (List.replicate ws.length (.int 0))) m1=some (.lst ((spr ws.length S y 0).map V.int)):=by rw [Zh];unfold spr;rw [List.map_replicate]
   generalize upd H8 m1 (.lst (List.replicate ws.length (.int 0)))=H9 at U2 g1 ⊢;walk_at "rd";refine Z_ (SqT.of (U2 _ _ hp7)) (v:=.ref l) rfl ?_;walk_at "rd";refine ⟨b,l,_,_,rfl,SqT.of (U2 _ _ (S07 _ _ hb)),SqL.of (U2 _ _ hl'),?_⟩;refine ud (k1:=.T) (k2:=.L) (xs:=(nI S).map V.int) (ys:=y.map V.int) (n:=S.length) (by rw [List.length_map,Y4]) (by rw [List.length_map];exact ly2) (fun j σ H3=>∃u5 u6:Option V,σ = [some (.ref p0),some (.ref b),some (.ref D),some (.ref p),some (.ref m1),u5,u6]∧Same H7 H3∧H3 m1=some (.lst ((spr ws.length S y j).map V.int))) ⟨_,_,rfl,U2,g1⟩ (fun j σ H3 _ ⟨_,_,_,U,_⟩=>⟨SqT.of (U _ _ (S07 _ _ hb)),SqL.of (U _ _ hl')⟩) ?_ ?_
   ·rintro j z1 z2 σ H3 T e1 e2 ⟨u5,u6,rfl,U,hm⟩ nT;obtain ⟨s,es,rfl⟩:=Fp e1;rw [List.getElem?_map] at e2;obtain ⟨c,ec,rfl⟩:=Option.map_eq_some_iff.mp e2;have ls:=slt s (List.mem_of_getElem? es);have gs:S.getD j 0=s:=by rw [List.getD_eq_getElem?_getD,es];rfl
    have gc:pt y j=c:=by unfold pt;rw [List.getD_eq_getElem?_getD,ec];rfl
    have V1:=Zi nT (.tup [.int (s:Int),.int c]);refine Y5 (SqT.of Zh) rfl ?_;walk_at "rd";have hm':=V1 _ _ hm;have U':=U.trans V1;generalize upd H3 T (.tup [.int (s:Int),.int c])=H4 at U' hm' ⊢;refine Zcr (g8 (i:=4) rfl (g8 (i:=5) rfl ?_));refine ⟨m1,_,_,s,rfl,rfl,hm',?_,?_⟩
    ·unfold ixN;rw [if_pos (by omega),if_pos (by rw [List.length_map,Ww];omega)];simp
    refine ⟨_,_,rfl,fun a o q=>by rw [ZD (Zz q nmb)];exact U' a o q,?_⟩;rw [Zh];show some (HO.lst (((spr ws.length S y j).map V.int).set s (.int c)))=some (.lst (((spr ws.length S y j).set (S.getD j 0) (pt y j)).map V.int));rw [gs,gc,List.map_set]
   ·rintro σ H3 ⟨u5,u6,rfl,U,hm⟩;walk_at "rd";refine ⟨by show 2≤sizeLine;decide,fun pp np=>?_⟩;have V1:=Zi np (.tup [.bl true,.ref m1]);refine k pp _ ((S07.trans U).trans V1) ?_ gok;rw [eg];exact .tup Zh (.cons (.bl true) (.cons (kj nm7 (V1 _ _ hm)) .nil))
end Gu
set_option Elab.async false
set_option linter.all false
set_option maxRecDepth 100000
set_option maxHeartbeats 4000000
namespace K73
open PySem L2 Fr G1 Sm Vs G2 Rk Sz Sf Rw Cl Br Dn Gu
open PySem.W (Dat kqdOk)
open K73H
open Ex0 Kd in
structure Exs (K:Fg) (mg:Str→Option Value) (x:Ad):Prop where
 v:ExcV K mg "VesselError" x.V
 mv:mg "ValueError" = none
 m0:mg "NoFraction" = some (.ref x.c0)
 m1:mg "NoStuffs" = some (.ref x.c1)
 m2:mg "NoHeap" = some (.ref x.c2)
 m3:mg "NoPace" = some (.ref x.c3)
 m4:mg "NoTurnings" = some (.ref x.c4)
 m5:mg "NoTurning" = some (.ref x.c5)
 m6:mg "NoText" = some (.ref x.c6)
 m7:mg "NotNow" = some (.ref x.c7)
 m8:mg "TooMany" = some (.ref x.c8)
 m9:mg "NoDrain" = some (.ref x.c9)
 m10:mg "NotEven" = some (.ref x.c10)
 m11:mg "NoStuff" = some (.ref x.c11)
 m12:mg "NoPieces" = some (.ref x.c12)
 m13:mg "NoDeed" = some (.ref x.c13)
 n9:ExcC K mg "NoDrain" x.c9 [.type "ValueError",.type "Exception",.type "BaseException",.type "object"] "ValueError.__new__"
 s9:SubC K x.c9 x.V
 a9:ExcA K x.c9
 k9_0:KitE K x.c9 (.ref x.c0) false
 k9_1:KitE K x.c9 (.ref x.c1) false
 k9_2:KitE K x.c9 (.ref x.c2) false
 k9_3:KitE K x.c9 (.ref x.c3) false
 k9_4:KitE K x.c9 (.ref x.c4) false
 k9_5:KitE K x.c9 (.ref x.c5) false
 k9_6:KitE K x.c9 (.ref x.c6) false
 k9_7:KitE K x.c9 (.ref x.c7) false
 k9_8:KitE K x.c9 (.ref x.c8) false
 k9_9:KitE K x.c9 (.ref x.c9) true
 k9_10:KitE K x.c9 (.ref x.c10) false
 k9_11:KitE K x.c9 (.ref x.c11) false
 k9_12:KitE K x.c9 (.ref x.c12) false
 k9_13:KitE K x.c9 (.ref x.c13) false
 kv9:KitE K x.c9 (.ty "ValueError") true
def RK (x:Ex0.Ad) (C:Addr) (nm:Str):Prop:=(C=x.c9∧nm = "NoDrain")
def WR(x:Ex0.Ad):Sp:=fun vs H Q _=>∃(e C:Addr) (nm:Str),vs=[.ref e]∧H e=some (excO e C)∧RK x C nm∧∀(p:Addr) (H':Hp),Same H H'→H' p=some (.lst [.str nm])→Q (.ref p) H'
theorem Zci{x:Ex0.Ad}{vs:List V}{H:Hp}{Q:VK}{E:XK}{y:Str}(h:WR x vs H Q E):vs.length=[y].length:=by
 obtain ⟨a,b,c,rfl,_⟩:=h;rfl
open Ex0 Kd in
theorem ZbH {K:Fg} {mg:Str→Option Value} {x:Ad} (T:Exs K mg x) {e:Addr} {H:Hp} {D:Ends} (he:H e=some (excO e x.c9)) (k:∀(p:Addr) (H':Hp),Same H H'→H' p=some (.lst [.str "NoDrain"])→D.rt (.ref p) H'):Zbq K x D [some (.ref e),none] H:=by
 refine ⟨(by show 0≤sizeLine;decide),fun l nl=>?_⟩;have ne:e≠l:=Zz he nl;have h1:upd H l (.lst []) e=some (excO e x.c9):=by rw [ZD ne];exact he
 have hl0:upd H l (.lst []) l=some (.lst []):=Zh;have S0:Same H (upd H l (.lst [])):=Zi nl _;generalize hH1:upd H l (.lst [])=H1 at h1 hl0 S0 ⊢;refine Gh (.of h1) T.a9 T.k9_0 ?_;refine Gh (.of h1) T.a9 T.k9_1 ?_;refine Gh (.of h1) T.a9 T.k9_2 ?_;refine Gh (.of h1) T.a9 T.k9_3 ?_;refine Gh (.of h1) T.a9 T.k9_4 ?_;refine Gh (.of h1) T.a9 T.k9_5 ?_;refine Gh (.of h1) T.a9 T.k9_6 ?_;refine Gh (.of h1) T.a9 T.k9_7 ?_;refine Gh (.of h1) T.a9 T.k9_8 ?_;refine Zgz (.of h1) T.a9 T.k9_9 hl0 ?_;have h2:upd H1 l (.lst [.str "NoDrain"]) e=some (excO e x.c9):=by rw [ZD ne];exact h1
 have hl:upd H1 l (.lst [.str "NoDrain"]) l=some (.lst [.str "NoDrain"]):=Zh
 have S:Same H (upd H1 l (.lst [.str "NoDrain"])):=fun b o q=>by
  rw [ZD (Zz q nl)];exact S0 _ _ q
 generalize upd H1 l (.lst [.str "NoDrain"])=H2 at h2 hl S ⊢;refine Gh (.of h2) T.a9 T.k9_10 ?_;refine Gh (.of h2) T.a9 T.k9_11 ?_;refine Gh (.of h2) T.a9 T.k9_12 ?_;refine Gh (.of h2) T.a9 T.k9_13 ?_;refine ⟨_,rfl,e,x.c9,_,true,rfl,.of h2,T.a9,T.kv9,_,rfl,iteF ?_⟩;exact ⟨_,rfl,k l H2 S hl⟩
theorem ZdA{K:Fg}{mg:Str→Option Value}{x:Ex0.Ad}(T:Exs K mg x){vs:List V}{H:Hp}{Q:VK}{E:XK}{N:List Str}(hN:N.length=2)(h:WR x vs H Q E):Ex0.Zbq K x (G1.ends Q) (L2.start N vs) H:=by
 obtain ⟨e,C,nm,rfl,he,rk,k⟩:=h;rw [show L2.start N [.ref e]=[some (.ref e),none] by unfold L2.start;rw [hN];rfl];obtain ⟨rfl,rfl⟩:=rk;exact ZbH T he k
def Jg(K:Fg):Sp:=fun vs H Q _=>∃(v w:V) (ws:List Str) (ts:List Tn) (ns:List Int),vs=[v,w]∧Rz K H v (dV ws ts)∧Rz K H w (dI ns)∧DrOk ws ts∧ns.length≤100∧(¬ ∃S,GdQ ws ts ns S)∧∀H',Same H H'→Q (.bl true) H'
theorem gQ{K:Fg}{vs:List V}{H:Hp}{Q:VK}{E:XK}{x y:Str}(h:Jg K vs H Q E):vs.length=[x,y].length:=by
 obtain ⟨a,b,c,d,e,rfl,_⟩:=h;rfl
def Wm(K:Fg)(x:Ex0.Ad):TS:=(tSeq (tAsg (tC .non) (Zn 2))
 (tSeq (Zgq K (JK K x.c9) x.V 3 2 (Zc (tVar 0) (Zc (tVar 1) tNil)))
 (tRet (vd (tOp Zfn (tVar 2) (tC .non)) (tOp (rEqD K) (ZG (WR x) [] E0 (Zc (tVar 2) tNil)) (tLst (Zc (tC (.str "NoDrain")) tNil)))))))
theorem ZaH{K:Fg}{mg:Str→Option Value}{x:Ex0.Ad}(T:Exs K mg x){vs:List V}{H:Hp}{Q:VK}{E:XK}{N:List Str}(hN:N.length=4)(h:Jg K vs H Q E):Wm K x (ends Q) (L2.start N vs) H:=by
 obtain ⟨v,w,ws,ts,ns,rfl,rv,rw_,dr,l100,no,k⟩:=h;rw [show L2.start N [v,w]=[some v,some w,none,none] by unfold L2.start;rw [hN];rfl];unfold Wm;walk_at "rd";refine ⟨_,rfl,_,rfl,v,w,ws,ts,ns,rfl,rv,rw_,dr,l100,fun S gq=>absurd ⟨S,gq⟩ no,fun _ H1 S1=>⟨x.c9,rfl,T.s9,fun ex nx=>?_⟩⟩;have Sx:=Zi nx (excO ex x.c9);walk_at "rd";refine ⟨_,rfl,?_⟩;refine ⟨ex,x.c9,"NoDrain",rfl,Zh,⟨rfl,rfl⟩,fun p H2 S2 hp=>?_⟩;walk_at "rd";refine ⟨by show 1≤sizeLine;decide,fun q nq=>?_⟩;have S3:=Zi nq (.lst [.str "NoDrain"]);have ok:kqdOk 8 (.list [.str "NoDrain"])=true:=by decide +kernel
 refine Zir (d:=.list [.str "NoDrain"]) (e:=.list [.str "NoDrain"]) (.lst (SqL.of (S3 _ _ hp)) (.cons (.str _) .nil)) (.lst (SqL.of Zh) (.cons (.str _) .nil)) ok ok (fun _=>?_) (fun z=>absurd rfl z);exact k _ (S1.trans (Sx.trans (S2.trans S3)))
def Wz(K:Fg):Sp:=fun vs H Q _=>∃(v w:V) (ws:List Str) (ts:List Tn) (S:List Nat) (p:Addr) (r:Bool×List Int),vs=[v,w,.ref p]∧Rz K H v (dV ws ts)∧Rz K H w (Dn.dS S)∧DrOk ws ts∧S≠[]∧S.length≤5∧(∀k∈S,k < ws.length)∧Rp K (fun _=>True) H (.ref p) (qG r)∧GdOk ws.length (ts.map chg) S r∧∀H',Same H H'→Q (.bl true) H'
theorem Zcd{K:Fg}{vs:List V}{H:Hp}{Q:VK}{E:XK}{x y z:Str}(h:Wz K vs H Q E):vs.length=[x,y,z].length:=by
 obtain ⟨a,b,c,d,e,f,g,rfl,_⟩:=h;rfl
theorem z60:((10:Int) ^ (60:Int).toNat)=((10 ^ 60:Nat):Int):=by decide
def zB(K:Fg):TS:=(tSeq (tIfS (tNot (tB (ZG (vg K) [] E0 (Zc (tVar 2) tNil))))
 (tRet (tC (.bl false)))
 Z9)
 (tSeq (tIfS (tNot (tB (tOp (rIxT K) (tVar 2) (tC (.int 0)))))
 (tSeq (tIfS (tNot (tB (ZG (jl K) [] E0 (Zc (tOp (rIxT K) (tVar 2) (tC (.int 1))) (Zc (tCB (Yh K) (Zc (tOp (rIxT K) (tVar 0) (tC (.int 1))) tNil)) (Zc (tUn (rU fun i=>.int (-i)) (tOp rPow (tC (.int 10)) (tC (.int 60)))) tNil))))))
 (tRet (tC (.bl false)))
 Z9)
 (tSeq (tAsg (ZG (Ux K) [] E0 (Zc (tVar 0) (Zc (tOp (rIxT K) (tVar 2) (tC (.int 1))) tNil))) (Zn 3))
 (tRet (tOp rGt (tCB (ZdI K) (Zc (Y6 (iTup K (tVar 1)) (tOp (rIxL K) (tVar 4) (tVar 0))) tNil)) (tC (.int 0))))))
 Z9)
 (tSeq (tIfS (tOr (tNot (tB (ZG (jl K) [] E0 (Zc (tOp (rIxT K) (tVar 2) (tC (.int 1))) (Zc (tCB (Yh K) (Zc (tOp (rIxT K) (tVar 0) (tC (.int 0))) tNil)) (Zc (tC (.int 0)) tNil)))))) (Z6 (tOp rEq (tCB (Zfo K) (Zc (tOp (rIxT K) (tVar 2) (tC (.int 1))) tNil)) (tC (.int 0)))))
 (tRet (tC (.bl false)))
 Z9)
 (tSeq (tIfS (Z6 (tOp rGt (tCB (Yh K) (Zc (Gr (Js (Zc (tCB (Yh K) (Zc (tOp (rIxT K) (tVar 2) (tC (.int 1))) tNil)) tNil)) 1 (Zn 0) (tAnd (Z6 (tOp rGt (tOp (rIxL K) (tOp (rIxT K) (tVar 3) (tC (.int 1))) (tVar 0)) (tC (.int 0)))) (Z6 (tOp (rIn K true) (tVar 0) (tVar 2)))) (tVar 0)) tNil)) (tC (.int 0))))
 (tRet (tC (.bl false)))
 Z9)
 (tRet (tOp rEq (tCB (Yh K) (Zc (Gr (U9 K (ZG (Y7 K) [] E0 (Zc (tVar 0) tNil))) 1 (Zn 0) (Z6 (tOp rNe (ZG (Uq K) [] E0 (Zc (tOp (rIxT K) (tVar 3) (tC (.int 1))) (Zc (tVar 0) tNil))) (tC (.int 0)))) (tVar 0)) tNil)) (tC (.int 0))))))))
theorem Zdu{K:Fg}{vs:List V}{H:Hp}{Q:VK}{E:XK}{N:List Str}(hN:N.length=4)(h:Wz K vs H Q E):zB K (ends Q) (L2.start N vs) H:=by
 obtain ⟨v,w,ws,ts,S,p,⟨bb,y⟩,rfl,rv,rw_,dr,sne,s5,slt,rp,ok,k⟩:=h;have co:=dr.ch;have t8:=co.le;have w5:=co.w5;have t0:0 < ts.length:=List.length_pos_iff.mpr dr.ne;have w1:=dr.w1;have lR:(ts.map chg).length=ts.length:=List.length_map _;obtain ⟨p',l,ep,hp,_,hl⟩:=jH rp;cases ep;have rv0:=rv;obtain ⟨a,v1,v2,rfl,ha,r1,r2⟩:=jg rv;obtain ⟨b,xs,rfl,hb,rx⟩:=r1.Yz;obtain ⟨c,us,rfl,hc,ru⟩:=r2.Yz;obtain ⟨d,rfl,hd⟩:=Za3 rw_;have lx:xs.length=ws.length:=by rw [rx.length,List.length_map]
 have lu:us.length=ts.length:=by rw [ru.length,List.length_map]
 have hl:H l=some (.lst (y.map V.int)):=hl;have bd:∀x∈y,x.natAbs < 10 ^ 60:=pts fun k _=>ok.bnd k
 rw [show L2.start N [.ref a,.ref d,.ref p]=[some (.ref a),some (.ref d),some (.ref p),none] by unfold L2.start;rw [hN];rfl];unfold zB;walk_at "rd";refine ⟨p,bb,.ref l,rfl,hp,?_⟩;walk_at "rd";refine Z_ (SqT.of hp) (v:=.bl bb) rfl ?_;cases bb with
 | false =>
  obtain ⟨n1,n2⟩:=ok.no rfl;have n1:y.length=ts.length:=by rw [← lR];exact n1
  walk_at "rd";refine Z_ (SqT.of hp) (v:=.ref l) rfl ?_;walk_at "rd";refine Z_ (SqT.of ha) (v:=.ref c) rfl ?_;walk_at "rd";refine Jx (SqT.of hc) ?_;walk_at "rd";refine ⟨l,y,_,by rw [lu,n1];rfl,hl,fun z=>by rw [z] at n1;simp at n1;omega,by omega,fun x hx=>?_,bd,fun H1 S1=>?_⟩
  ·have:=bd x hx
   rw [z60];omega
  walk_at "rd";refine Z_ (SqT.of (S1 _ _ hp)) (v:=.ref l) rfl ?_;walk_at "rd";refine ⟨.ref a,ws,ts,l,y,rfl,rv0.same S1,co,S1 _ _ hl,n1,fun q H2 A2=>?_⟩;have hq:=AccZ.ints A2;have S2:=S1.trans A2.same;walk_at "rd";refine Zcq (SqT.of (S2 _ _ hd)) ?_;refine J2 (xs:=(nI S).map V.int) fun D nD=>⟨fun i H3=>AccZ K H2 D H3 (((sel (comes y (ts.map chg) ws.length) S).take i).map Dat.int),by simpa using AccZ.start (Same.refl _) nD,fun i H3 _ A=>SqT.of (A.same _ _ (S2 _ _ hd)),?_,?_⟩
  ·intro i z H3 hz A;have li:=(List.getElem?_eq_some_iff.mp hz).1;obtain ⟨m,hm,rfl⟩:=Fp hz;have lm:=slt m (List.mem_of_getElem? hm);have es:(sel (comes y (ts.map chg) ws.length) S)[i]? = some (pt (comes y (ts.map chg) ws.length) m):=by unfold sel;rw [List.getElem?_map,hm];rfl
   walk_at "rd";refine Jm (SqL.of (A.same _ _ hq)) (v:=.int (pt (comes y (ts.map chg) ws.length) m)) (Yd (by rw [List.getElem?_map,YJ (by rw [kO];exact lm)];rfl)) ?_;refine pushed li (A.Yv (.int _) (Zq (by rw [List.length_map,List.length_take,Gf];omega)) fun H4 A4=>?_);show AccZ K H2 D H4 (((sel (comes y (ts.map chg) ws.length) S).take (i+1)).map Dat.int);rw [List.take_add_one,es,List.map_append];exact A4
  ·intro H3 A;rw [show ((nI S).map V.int).length=(sel (comes y (ts.map chg) ws.length) S).length by rw [List.length_map,Y4,Gf],List.take_length] at A;walk_at "rd";refine ⟨D,_,rfl,SqL.of (AccZ.ints A),fun z=>?_,fun m hm _=>?_⟩
   ·have:=congrArg List.length z
    rw [Gf] at this;exact sne (List.eq_nil_of_length_eq_zero this)
   obtain ⟨kk,hk,rfl⟩:=List.mem_map.mp hm;have lk:=slt kk hk
   have e:pt (comes y (ts.map chg) ws.length) kk=Bo.sm (ts.map chg).length fun l=>pt y l*pt ((ts.map chg).getD l []) kk:=by
    have:=Zaq (y:=y) (R:=ts.map chg) lk
    rw [show pt (comes y (ts.map chg) ws.length) kk=((comes y (ts.map chg) ws.length)[kk]?).getD 0 from by unfold pt;rw [List.getD_eq_getElem?_getD],this];rfl
   have pos:=n2 kk hk;walk_at "rd";rw [e,decide_eq_true pos];exact k H3 (S2.trans A.same)
 | true =>
  obtain ⟨y1,y2,⟨kp,hkp,y3⟩,y4,y5⟩:=ok.yes rfl;have y1:y.length=ws.length:=y1;have yne:y≠[]:=fun z=>by rw [z] at y1;simp at y1;omega
  walk_at "rd";refine Z_ (SqT.of hp) (v:=.ref l) rfl ?_;walk_at "rd";refine Z_ (SqT.of ha) (v:=.ref b) rfl ?_;walk_at "rd";refine Jx (SqT.of hb) ?_;walk_at "rd";refine ⟨l,y,0,by rw [lx,y1];rfl,hl,yne,by omega,pts fun k hk=>y2 k,bd,fun H1 S1=>?_⟩;walk_at "rd";refine Z_ (SqT.of (S1 _ _ hp)) (v:=.ref l) rfl ?_;walk_at "rd";refine ⟨l,y,rfl,SqL.of (S1 _ _ hl),yne,fun m _ up=>?_⟩
  have mp:1≤m:=by
   have:=up (pt y kp) (GP (by omega))
   have y3':1≤pt y kp:=y3;omega
  walk_at "rd";refine Yi (fun z=>absurd z (by omega)) (fun _=>?_);walk_at "rd";refine Z_ (SqT.of (S1 _ _ hp)) (v:=.ref l) rfl ?_;walk_at "rd";refine Yu (SqL.of (S1 _ _ hl)) ?_;rw [List.length_map,y1];walk_at "rd";refine ⟨_,rfl,by omega,by omega,?_⟩;rw [Int.toNat_natCast];refine qH (n:=ws.length) fun D nD=>⟨fun j H3=>AccZ K H1 D H3 (([]:List Int).map Dat.int),AccZ.start (Same.refl _) nD,?_,?_⟩
  ·intro m H3 hm A us hu;obtain ⟨u0,rfl⟩:∃u,us=[u]:=List.length_eq_one_iff.mp hu;have S3:=S1.trans A.same;rw [Int.zero_add];walk_at "rd";refine ⟨⟨[some (.int (m:Int))],rfl,rfl⟩,?_⟩;walk_at "rd";refine Z_ (SqT.of (S3 _ _ hp)) (v:=.ref l) rfl ?_;walk_at "rd";refine Jm (SqL.of (S3 _ _ hl)) (v:=.int (pt y m)) (Yd (by rw [List.getElem?_map,YJ (by omega)];rfl)) ?_;walk_at "rd";refine Yi (fun z=>?_) (fun _=>?_)
   ·have ms:m∈S:=y4 m z;walk_at "rd";refine Zd9 (SqT.of (S3 _ _ hd)) ?_;rw [decide_eq_true ms];walk_at "rd";exact skipped (Pv:=fun j H3=>AccZ K H1 D H3 (([]:List Int).map Dat.int)) hm A
   ·exact skipped (Pv:=fun j H3=>AccZ K H1 D H3 (([]:List Int).map Dat.int)) hm A
  ·intro H3 A;have S3:=S1.trans A.same;walk_at "rd";refine Yu (SqL.of (AccZ.ints A)) ?_;walk_at "rd";refine Yi (fun z=>absurd z (by decide)) (fun _=>?_);walk_at "rd";refine ⟨.ref a,ws,ts,rfl,rv0.same S3,by omega,fun t ht=>by rw [co.fr t ht];omega,fun pm H4 A4=>?_⟩;obtain ⟨zs,hz,rz⟩:=A4.at_;have S4:=S3.trans A4.same;refine ⟨pm,rfl,⟨_,SqL.of hz⟩,?_⟩;refine Za8 (xs:=zs) fun D' nD'=>⟨fun j H5=>AccZ K H4 D' H5 (([]:List Int).map Dat.int),AccZ.start (Same.refl _) nD',fun j H5 _ A=>SqL.of (A.same _ _ hz),?_,?_⟩
   ·intro j x H5 hx A us hu;obtain ⟨u0,rfl⟩:∃u,us=[u]:=List.length_eq_one_iff.mp hu;have lj:=(List.getElem?_eq_some_iff.mp hx).1;obtain ⟨dd,g1,g2⟩:=rz.get hx;rw [List.getElem?_map] at g1;obtain ⟨r,hr,rfl⟩:=Option.map_eq_some_iff.mp g1;obtain ⟨b0,rfl,_,hb0⟩:=kE g2;have lr:=co.wide r (List.mem_of_getElem? hr);have ljR:=(List.getElem?_eq_some_iff.mp hr).1;have er:(ts.map chg).getD j []=r:=by rw [List.getD_eq_getElem?_getD,hr];rfl
    have w0:wrt y r=0:=by
     have:=y5 j ljR
     rw [er] at this;unfold wrt;rw [Zgo ws.length y r y1 lr];exact this
    walk_at "rd";refine ⟨⟨[some (.ref b0)],rfl,rfl⟩,?_⟩;walk_at "rd";refine Z_ (SqT.of (A.same _ _ (S4 _ _ hp))) (v:=.ref l) rfl ?_;walk_at "rd";refine ⟨l,b0,y,r,rfl,A.same _ _ (S4 _ _ hl),A.same _ _ hb0,by omega,fun x hx=>Nat.lt_of_lt_of_le (co.bnd r (List.mem_of_getElem? hr) x hx) (by decide),fun H6 S6=>?_⟩;rw [w0];walk_at "rd";exact skipped (Pv:=fun j H5=>AccZ K H4 D' H5 (([]:List Int).map Dat.int)) lj (A.on S6)
   ·intro H5 A5;walk_at "rd";refine Yu (SqL.of (AccZ.ints A5)) ?_;walk_at "rd";exact k H5 (S4.trans A5.same)
def JH(K:Fg):Sp:=fun vs H Q _=>∃(v w:V) (ws:List Str) (ts:List Tn) (S:List Nat),vs=[v,w]∧Rz K H v (dV ws ts)∧Rz K H w (Dn.dS S)∧DrOk ws ts∧S∈vC ws.length∧isD (ts.map pr) S=true∧∀H',Same H H'→Q (.bl true) H'
theorem gY{K:Fg}{vs:List V}{H:Hp}{Q:VK}{E:XK}{x y:Str}(h:JH K vs H Q E):vs.length=[x,y].length:=by
 obtain ⟨a,b,c,d,e,rfl,_⟩:=h;rfl
def Ws(K:Fg)(x:Ex0.Ad):TS:=(tSeq (tAsg (ZG (JK K x.c9) [] E0 (Zc (tVar 0) (Zc (tVar 1) tNil))) (Zn 2))
 (tSeq (tIfS (tNot (tB (ZG (Wz K) [] E0 (Zc (tVar 0) (Zc (tVar 1) (Zc (tVar 2) tNil))))))
 (tRet (tC (.bl false)))
 Z9)
 (tSeq (tAsg (tCB (Gi K) (Zc (tOp (rIxT K) (tVar 2) (tC (.int 1))) tNil)) (Zn 3))
 (tSeq (YT (tBM0 K "list" ZbM (tOp (rIxT K) (tVar 2) (tC (.int 1)))))
 (tRet (tOp (rEqS K) (ZG (JK K x.c9) [] E0 (Zc (tVar 0) (Zc (tVar 1) tNil))) (tTup (Zc (tOp (rIxT K) (tVar 2) (tC (.int 0))) (Zc (tVar 3) tNil)))))))))
theorem ZaL{K:Fg}{x:Ex0.Ad}{vs:List V}{H:Hp}{Q:VK}{E:XK}{N:List Str}(hN:N.length=4)(h:JH K vs H Q E):Ws K x (ends Q) (L2.start N vs) H:=by
 obtain ⟨v,w,ws,ts,S,rfl,rv,rw_,dr,s1,sD,k⟩:=h;rw [show L2.start N [v,w]=[some v,some w,none,none] by unfold L2.start;rw [hN];rfl];have w5:=dr.ch.w5;obtain ⟨sne,s5,slt⟩:=W4 ws.length (by omega) S s1;have gq:GdQ ws ts (nI S) S:=⟨s1,rfl,sD⟩
 unfold Ws;walk_at "rd";refine ⟨v,w,ws,ts,nI S,rfl,rv,rw_,dr,by rw [Y4];omega,fun S' gq' f H2 S2 r2 ok=>?_,fun no=>absurd ⟨S,gq⟩ no⟩;obtain rfl:S'=S:=Fo gq'.2.1;generalize hr:gdOf ws.length (ts.map chg) S'=r at r2 ok;walk_at "rd";refine ⟨v,w,ws,ts,S',f,r,rfl,rv.same S2,rw_.same S2,dr,sne,s5,slt,r2.mono fun _ _=>trivial,ok,fun H3 S3=>?_⟩;obtain ⟨f',l,ef,hf,nl,hl2⟩:=jH r2;cases ef;walk_at "rd";refine Z_ (SqT.of (S3 _ _ hf)) (v:=.ref l) rfl ?_;walk_at "rd";refine g_ (SqL.of (S3 _ _ hl2)) fun h nh=>?_
 have S4:=S3.trans (Zi nh (.lst (r.2.map V.int)));have hh:upd H3 h (.lst (r.2.map V.int)) h=some (.lst (r.2.map V.int)):=Zh;have nhl:h≠l:=fun z=>by rw [z,S3 _ _ hl2] at nh;cases nh
 generalize upd H3 h (.lst (r.2.map V.int))=H4 at S4 hh ⊢;walk_at "rd";refine Z_ (SqT.of (S4 _ _ hf)) (v:=.ref l) rfl ?_;walk_at "rd";refine ⟨Zd5 (S4 _ _ hl2),Zf3 (S4 _ _ hl2) ?_⟩;have S5:Same H (upd H4 l (.lst [])):=fun c o q=>by rw [ZD (Zz q nl)];exact (S2.trans S4) c o q
 have nfl:f≠l:=fun z=>by rw [z,hl2] at hf;cases hf
 have hf5:upd H4 l (.lst []) f=some (.tup [.bl r.1,.ref l]):=by rw [ZD nfl];exact S4 _ _ hf
 have hh5:upd H4 l (.lst []) h=some (.lst (r.2.map V.int)):=by rw [ZD nhl];exact hh
 generalize upd H4 l (.lst [])=H5 at S5 hf5 hh5 ⊢;walk_at "rd";refine ⟨v,w,ws,ts,nI S',rfl,rv.same S5,rw_.same S5,dr,by rw [Y4];omega,fun S'' gq'' f2 H6 S6 r6 ok6=>?_,fun no=>absurd ⟨S',gq⟩ no⟩;obtain rfl:S''=S':=Fo gq''.2.1;rw [hr] at r6;walk_at "rd";refine Z_ (SqT.of (S6 _ _ hf5)) (v:=.bl r.1) rfl ?_;walk_at "rd";refine ⟨by show 2≤sizeLine;decide,fun t nt=>?_⟩;have S8:=Zi nt (.tup [.bl r.1,.ref h]);have rt:Rp K (fun _=>True) (upd H6 t (.tup [.bl r.1,.ref h])) (.ref t) (qG r):=.tup Zh (.cons (.bl r.1) (.cons (kj trivial (S8 _ _ (S6 _ _ hh5))) .nil));exact ⟨_,(r6.same S8).rep,rt.rep,(Zb1 r).1,(Zb1 r).2,k _ (S5.trans (S6.trans S8))⟩
theorem p30:(10:Int) ^ (30:Int).toNat=1000000000000000000000000000000:=by decide +kernel
theorem zp{ws:List Str}{ts:List Tn}{ns:List Int}(w5:ws.length≤5)(h:∀S∈vC ws.length,S≠[]→S.Nodup→(∀k∈S,k < ws.length)→nI S≠ns) : ¬ ∃S,GdQ ws ts ns S:=fun ⟨S,s1,s2,_⟩=>by
 obtain ⟨a,_,c⟩:=W4 ws.length (by omega) S s1;exact h S s1 a (Zby ws.length (by omega) S s1) c s2
theorem Zb6{S:List Nat}{z:Int}(h:z∈nI S):∃k∈S,(k:Int)=z:=List.mem_map.mp h
def Zdl(K:Fg):TS:=(tSeq (tAsg (ZG (vf K) [] E0 (Zc (tVar 0) (Zc (tC (.int 0)) tNil))) (Zn 1))
 (tSeq (tAsg (tCB (Yh K) (Zc (tOp (rIxT K) (tVar 1) (tC (.int 0))) tNil)) (Zn 2))
 (tSeq (tAsg (tOp rMod (ZG (JL K) [] E0 (Zc (tVar 0) (Zc (tC (.int 15)) tNil))) (tOp rPow (tC (.int 10)) (tC (.int 30)))) (Zn 3))
 (tSeq (tFor (U9 K (ZG (WQ K) [] E0 (Zc (tVar 2) tNil))) (Zn 4)
 (tIfS (tB (ZG (WT K) [] E0 (Zc (tVar 1) (Zc (tVar 4) (Zc (tC (.int 1)) (Zc (tC (.int 0)) tNil))))))
 (tIfS (tNot (tB (ZG (JH K) [] E0 (Zc (tVar 1) (Zc (tVar 4) tNil)))))
 (tRet (tC (.bl false)))
 Z9)
 (tIfS (tNot (tB (ZG (Jg K) [] E0 (Zc (tVar 1) (Zc (tVar 4) tNil)))))
 (tRet (tC (.bl false)))
 Z9)))
 (tSeq (tAsg (tLst (Zc (tTup tNil) (Zc (tTup (Zc (tC (.int 0)) (Zc (tC (.int 0)) tNil))) (Zc (tTup (Zc (tOp qSub (tUn (rU fun i=>.int (-i)) (tC (.int 1))) (tVar 3)) tNil)) (Zc (tTup (Zc (tOp qAdd (tVar 2) (tVar 3)) tNil)) (Zc (zP (Zc (tOp qAdd (tVar 2) (tC (.int 1))) tNil)) tNil)))))) (Zn 5))
 (tRet (tCB (rAll K) (Zc (Y6 (U9 K (tVar 5)) (ZG (Jg K) [] E0 (Zc (tVar 2) (Zc (tVar 0) tNil)))) tNil))))))))
theorem ZgB {K:Fg} {vs:List V} {H:Hp} {Q:VK} {E:XK} (h:spLaw K vs H Q E):Zdl K (ends Q) (L2.start ["_law_script","_law_vessel_here","_law_many","_law_far","_law_some","_law_bad"] vs) H:=by
 obtain ⟨a,ns,rfl,hS,hl,k⟩:=h;show Zdl K (ends Q) [some (.ref a),none,none,none,none,none] H;unfold Zdl;walk_at "rd";refine ⟨a,ns,0,rfl,hS,by decide,fun p H1 ws ts S1 vo rv=>?_⟩;have co:=chOk vo;have w1:=vo.w1;have w5:=co.w5
 have dr:DrOk ws ts:=by
  obtain ⟨hs,po,_,tk⟩:=vo.turns;exact ⟨co,w1,tk.ne,fun t ht=>(po.2 _ (tk.ok t ht).2.1).1⟩
 obtain ⟨p',v1,v2,e0,hp,r1,r2⟩:=jg rv;cases e0;obtain ⟨a1,ys,rfl,ha1,ry⟩:=r1.Yz;have ly:ys.length=ws.length:=by rw [ry.length,List.length_map]
 walk_at "rd";refine Z_ (SqT.of hp) (v:=.ref a1) rfl ?_;walk_at "rd";refine Jx (SqT.of ha1) ?_;rw [ly];walk_at "rd";refine ⟨a,ns,15,rfl,S1.seq hS,by decide,?_⟩;generalize cellOf ns 15=c15;walk_at "rd";rw [p30];walk_at "rd";have f0:0≤c15 % 1000000000000000000000000000000:=by omega
 generalize c15 % 1000000000000000000000000000000=far at f0 ⊢;refine ⟨ws.length,rfl,w5,fun q H2 A2=>?_⟩;obtain ⟨zs,hq,rz⟩:=A2.at_;refine Zd7 (SqL.of hq) ?_;refine Wa (xs:=zs) (fun i σ H3=>∃u4:Option V,σ = [some (.ref a),some (.ref p),some (.int (ws.length:Int)),some (.int far),u4,none]∧Same H2 H3) ⟨_,rfl,Same.refl _⟩ (fun i σ H3 _ ⟨_,_,S⟩=>SqL.of (S _ _ hq)) ?_ ?_
 ·rintro i z σ H3 hz ⟨u4,rfl,S3⟩;obtain ⟨dd,g1,g2⟩:=rz.get hz;rw [List.getElem?_map] at g1;obtain ⟨S,es,rfl⟩:=Option.map_eq_some_iff.mp g1;have s1:=List.mem_of_getElem? es;obtain ⟨sne,s5,slt⟩:=W4 ws.length (by omega) S s1;have S13:=A2.same.trans S3;walk_at "rd";refine ⟨.ref p,z,ws,ts,S,true,rfl,rv.same S13,g2.same S3,fun t ht k hk=>⟨by rw [co.fr t ht];exact slt k hk,by rw [dr.to t ht];exact slt k hk⟩,by omega,fun H4 S4=>?_⟩;have S14:=S13.trans S4;rw [Zf7];cases hD:isD (ts.map pr) S with
  | true =>
   walk_at "rd";refine ⟨.ref p,z,ws,ts,S,rfl,rv.same S14,g2.same (S3.trans S4),dr,s1,hD,fun H5 S5=>?_⟩;walk_at "rd";exact ⟨_,rfl,S3.trans (S4.trans S5)⟩
  | false =>
   walk_at "rd";refine ⟨.ref p,z,ws,ts,nI S,rfl,rv.same S14,g2.same (S3.trans S4),dr,by rw [Y4];omega,(fun ⟨T,_,t2,t3⟩=>by rw [Fo t2,hD] at t3;cases t3),fun H5 S5=>?_⟩;walk_at "rd";exact ⟨_,rfl,S3.trans (S4.trans S5)⟩
 ·rintro σ H3 ⟨u4,rfl,S3⟩;have rv3:=rv.same (A2.same.trans S3);walk_at "rd";refine ⟨by show 0≤sizeLine;decide,fun q0 n0=>?_⟩;have T0:=Zi n0 (.tup []);have e0:Rz K (upd H3 q0 (.tup [])) (.ref q0) (dI []):=.tup Zh .nil;generalize upd H3 q0 (.tup [])=G0 at T0 e0 ⊢;walk_at "rd";refine ⟨by show 2≤sizeLine;decide,fun q1 n1=>?_⟩;have T1:=Zi n1 (.tup [.int 0,.int 0]);have e1:Rz K (upd G0 q1 (.tup [.int 0,.int 0])) (.ref q1) (dI [0,0]):=.tup Zh (RpL.ints [0,0]);generalize upd G0 q1 (.tup [.int 0,.int 0])=G1 at T1 e1 ⊢;walk_at "rd";refine ⟨by show 1≤sizeLine;decide,fun q2 n2=>?_⟩;have T2:=Zi n2 (.tup [.int (-1 - far)]);have e2:Rz K (upd G1 q2 (.tup [.int (-1 - far)])) (.ref q2) (dI [-1 - far]):=.tup Zh (RpL.ints [-1 - far]);generalize upd G1 q2 (.tup [.int (-1 - far)])=G2 at T2 e2 ⊢;walk_at "rd";refine ⟨by show 1≤sizeLine;decide,fun q3 n3=>?_⟩;have T3:=Zi n3 (.tup [.int ((ws.length:Int)+far)]);have e3:Rz K (upd G2 q3 (.tup [.int ((ws.length:Int)+far)])) (.ref q3) (dI [(ws.length:Int)+far]):=.tup Zh (RpL.ints [(ws.length:Int)+far]);generalize upd G2 q3 (.tup [.int ((ws.length:Int)+far)])=G3 at T3 e3 ⊢;walk_at "rd";refine Zd6 ?_;walk_at "rd";refine ⟨ws.length+1,by rw [Int.natCast_add];rfl,by omega,fun q4 n4=>?_⟩;have ev:((List.range (ws.length+1)).map fun k:Nat=>V.int (((ws.length+1:Nat):Int) - 1 - (k:Int)))=((List.range (ws.length+1)).map fun k:Nat=>((ws.length+1:Nat):Int) - 1 - (k:Int)).map V.int:=by rw [List.map_map];rfl
  rw [ev];have T4:=Zi n4 (.tup (((List.range (ws.length+1)).map fun k:Nat=>((ws.length+1:Nat):Int) - 1 - (k:Int)).map V.int));have e4:Rz K (upd G3 q4 (.tup (((List.range (ws.length+1)).map fun k:Nat=>((ws.length+1:Nat):Int) - 1 - (k:Int)).map V.int))) (.ref q4) (dI ((List.range (ws.length+1)).map fun k:Nat=>((ws.length+1:Nat):Int) - 1 - (k:Int))):=.tup Zh (RpL.ints _);generalize upd G3 q4 (.tup (((List.range (ws.length+1)).map fun k:Nat=>((ws.length+1:Nat):Int) - 1 - (k:Int)).map V.int))=G4 at T4 e4 ⊢;walk_at "rd";refine ⟨by show 5≤sizeLine;decide,fun q5 n5=>?_⟩;have T5:=Zi n5 (.lst [.ref q0,.ref q1,.ref q2,.ref q3,.ref q4]);have h5:upd G4 q5 (.lst [.ref q0,.ref q1,.ref q2,.ref q3,.ref q4]) q5=some (.lst [.ref q0,.ref q1,.ref q2,.ref q3,.ref q4]):=Zh;generalize upd G4 q5 (.lst [.ref q0,.ref q1,.ref q2,.ref q3,.ref q4])=G5 at T5 h5 ⊢;have rv5:=rv3.same (T0.trans (T1.trans (T2.trans (T3.trans (T4.trans T5)))))
  have bads:∀(i:Nat) (z:V),[V.ref q0,.ref q1,.ref q2,.ref q3,.ref q4][i]? = some z→∃ns:List Int,Rz K G5 z (dI ns)∧ns.length≤100∧¬ ∃S,GdQ ws ts ns S:=fun i z hz=>by
   match i,hz with
   | 0,hz=>cases hz;exact ⟨[],e0.same (T1.trans (T2.trans (T3.trans (T4.trans T5)))),by decide,zp w5 fun S _ s2 _ _ e=>s2 (by cases S with | nil=>rfl | cons _ _=>cases e)⟩
   | 1,hz=>cases hz;exact ⟨[0,0],e1.same (T2.trans (T3.trans (T4.trans T5))),by decide,zp w5 fun S _ _ nd _ e=>by
     obtain rfl:S=[0,0]:=Fo (T:=[0,0]) e
     simp at nd⟩
   | 2,hz=>cases hz;exact ⟨[-1 - far],e2.same (T3.trans (T4.trans T5)),(by show 1≤100;decide),zp w5 fun S _ _ _ _ e=>by
     obtain ⟨k,_,ek⟩:=Zb6 (S:=S) (z:=-1 - far) (by rw [e];exact List.mem_singleton.mpr rfl)
     omega⟩
   | 3,hz=>cases hz;exact ⟨[(ws.length:Int)+far],e3.same (T4.trans T5),(by show 1≤100;decide),zp w5 fun S _ _ _ lt e=>by
     obtain ⟨k,hk,ek⟩:=Zb6 (S:=S) (z:=(ws.length:Int)+far) (by rw [e];exact List.mem_singleton.mpr rfl)
     have:=lt k hk
     omega⟩
   | 4,hz=>cases hz;exact ⟨_,e4.same T5,by rw [List.length_map,List.length_range];omega,zp w5 fun S _ _ _ lt e=>by
     obtain ⟨k,hk,ek⟩:=Zb6 (S:=S) (z:=(ws.length:Int)) (by rw [e];exact List.mem_map.mpr ⟨0,List.mem_range.mpr (by omega),by omega⟩)
     have:=lt k hk
     omega⟩
  walk_at "rd";refine FN (SqL.of h5) ?_;refine YL (xs:=[.ref q0,.ref q1,.ref q2,.ref q3,.ref q4]) fun D nD=>⟨fun i H6=>AccZ K G5 D H6 ((List.replicate i true).map Dat.bool),AccZ.start (Same.refl _) nD,fun i H6 _ A=>SqL.of (A.same _ _ h5),?_,?_⟩
  ·intro i z H6 hz A;have li:=(List.getElem?_eq_some_iff.mp hz).1;obtain ⟨ns',rz',l',no'⟩:=bads i z hz;walk_at "rd";refine ⟨.ref p,z,ws,ts,ns',rfl,rv5.same A.same,rz'.same A.same,dr,l',no',fun H7 S7=>?_⟩;exact yL (H0:=G5) (by show 5≤1000;decide) li (fun _ _=>Iff.rfl) A S7
  ·intro H6 A;walk_at "rd";refine k_all (AccZ.bls A) ?_;rw [Md.Zdc];exact k H6
theorem Zdq:Zu ["value"] ["value"] (Ze (top 17)):=by walk_at "s"
theorem Y8:Zu ["one","two","rest"] ["one","two"] (Ze (top 18)):=by walk_at "s"
theorem Gg:Zu ["one","two"] ["one","two"] (Ze (top 19)):=by walk_at "s"
theorem Uc:Zu ["row","place","number"] ["row"] (Ze (top 21)):=by walk_at "s"
theorem W5:Zu ["size","own"] ["size","own"] (Ze (top 22)):=by walk_at "s"
theorem Gs:Zu ["size"] ["size"] (Ze (top 23)):=by walk_at "s"
theorem W6:Zu ["row"] ["row"] (Ze (top 24)):=by walk_at "s"
theorem Gw:Zu ["rows"] ["rows"] (Ze (top 25)):=by walk_at "s"
theorem Jk:Zu ["row","divisor","number"] ["row"] (Ze (top 26)):=by walk_at "s"
theorem vG:Zu ["row","place","divisor"] ["row"] (Ze (top 27)):=by walk_at "s"
theorem Ud:Zu ["rows","ends","units"] ["rows","ends"] (Ze (top 29)):=by walk_at "s"
theorem UG:Zu ["board","holders","short"] ["board","holders"] (Ze (top 30)):=by walk_at "s"
theorem YH:Zu ["line","place","number"] ["line"] (Ze (top 31)):=by walk_at "s"
theorem JN:Zu ["line","head","place","rest","divisor"] ["line","head","place"] (Ze (top 32)):=by walk_at "s"
theorem Gv:Zu ["board","at","place","head"] ["board","at","place"] (Ze (top 33)):=by walk_at "s"
theorem UJ:Zu ["board","holders","size","bottom","line","holder","numbers"] ["board","holders","size"] (Ze (top 34)):=by walk_at "s"
theorem jo:Zu ["rows","wants","size","board","holders","at","place"] ["rows","wants"] (Ze (top 35)):=by walk_at "s"
theorem qe:Zu ["rows","wants","told","forward","back"] ["rows","wants"] (Ze (top 36)):=by walk_at "s"
theorem Uz:Zu ["vessel","number","turnings"] ["vessel","number"] (Ze (top 38)):=by walk_at "s"
theorem vJ:Zu ["vessel","number","turning"] ["vessel","number"] (Ze (top 39)):=by walk_at "s"
theorem jr:Zu ["vessel"] ["vessel"] (Ze (top 40)):=by walk_at "s"
theorem jq:Zu ["size","told","longest","longer","stuffs"] ["size"] (Ze (top 42)):=by walk_at "s"
theorem qd:Zu ["heap","stuffs"] ["heap","stuffs"] (Ze (top 43)):=by walk_at "s"
theorem W_:Zu ["vessel","stuffs"] ["vessel","stuffs"] (Ze (top 44)):=by walk_at "s"
theorem Ue:Zu ["vessel","drain"] ["vessel","drain"] (Ze (top 45)):=by walk_at "s"
theorem UL:Zu ["row","stuffs"] ["row","stuffs"] (Ze (top 46)):=by walk_at "s"
theorem uN:Zu ["vessel","drain","parts","told","weights","stuff","weight"] ["vessel","drain"] (Ze (top 47)):=by walk_at "s"
theorem qO:Zu ["_law_script","_law_k"] ["_law_script","_law_k"] (Ze (top 49)):=by walk_at "s"
theorem GC:Zu ["_law_cell","_law_place","_law_number"] ["_law_cell","_law_place"] (Ze (top 50)):=by walk_at "s"
theorem J_:Zu ["_law_one","_law_two"] ["_law_one","_law_two"] (Ze (top 51)):=by walk_at "s"
theorem U0:Zu ["_law_top","_law_bottom","_law_by"] ["_law_top","_law_bottom"] (Ze (top 52)):=by walk_at "s"
theorem Gx:Zu ["_law_number","_law_many","_law_letters","_law_found","_law_k","_law_first"] ["_law_number","_law_many"] (Ze (top 53)):=by walk_at "s"
theorem W9:Zu ["_law_cell","_law_k","_law_many","_law_top","_law_plain","_law_number","_law_found","_law_j"] ["_law_cell","_law_k","_law_many","_law_top","_law_plain"] (Ze (top 54)):=by walk_at "s"
theorem W8:Zu ["_law_script","_law_at","_law_many","_law_size","_law_top","_law_plain","_law_found","_law_k","_law_heap_here"] ["_law_script","_law_at","_law_many","_law_size","_law_top","_law_plain"] (Ze (top 55)):=by walk_at "s"
theorem Gz:Zu ["_law_script","_law_at","_law_size","_law_kind","_law_plain","_law_found","_law_k","_law_after","_law_cell","_law_one","_law_step","_law_chosen","_law_two"] ["_law_script","_law_at","_law_size","_law_kind","_law_plain"] (Ze (top 56)):=by walk_at "s"
theorem zW:Zu ["_law_cell","_law_kind"] ["_law_cell","_law_kind"] (Ze (top 57)):=by walk_at "s"
theorem UW:Zu ["_law_script","_law_at","_law_number","_law_many","_law_top","_law_plain","_law_pool_here","_law_pairs_here","_law_rows","_law_k","_law_cell","_law_one","_law_two"] ["_law_script","_law_at"] (Ze (top 58)):=by walk_at "s"
theorem vI:Zu ["_law_found"] ["_law_found"] (Ze (top 59)):=by walk_at "s"
theorem Ub:Zu ["_law_vessel_here","_law_found","_law_take","_law_give","_law_pace_here"] ["_law_vessel_here"] (Ze (top 60)):=by walk_at "s"
theorem Ua:Zu ["_law_vessel_here","_law_often","_law_rows"] ["_law_vessel_here","_law_often"] (Ze (top 61)):=by walk_at "s"
theorem J8:Zu ["_law_found","_law_width","_law_low"] ["_law_found","_law_width","_law_low"] (Ze (top 62)):=by walk_at "s"
theorem zV:Zu ["_law_found"] ["_law_found"] (Ze (top 63)):=by walk_at "s"
theorem vH:Zu ["_law_row","_law_moved"] ["_law_row","_law_moved"] (Ze (top 64)):=by walk_at "s"
theorem W7:Zu ["_law_many","_law_found","_law_size","_law_some","_law_bits","_law_names"] ["_law_many"] (Ze (top 66)):=by walk_at "s"
theorem qN:Zu ["_law_heap_here","_law_some"] ["_law_heap_here","_law_some"] (Ze (top 67)):=by walk_at "s"
theorem GF:Zu ["_law_vessel_here","_law_some","_law_first","_law_second","_law_turning"] ["_law_vessel_here","_law_some","_law_first","_law_second"] (Ze (top 68)):=by walk_at "s"
theorem GD:Zu ["_law_e","_law_found"] ["_law_e"] (Ze (top 70)):=by walk_at "s"
theorem J7:Zu ["_law_vessel_here","_law_some","_law_caught","_law_e"] ["_law_vessel_here","_law_some"] (Ze (top 71)):=by walk_at "s"
theorem Gy:Zu ["_law_vessel_here","_law_some","_law_found","_law_moved"] ["_law_vessel_here","_law_some","_law_found"] (Ze (top 72)):=by walk_at "s"
theorem J9:Zu ["_law_vessel_here","_law_some","_law_found","_law_held"] ["_law_vessel_here","_law_some"] (Ze (top 73)):=by walk_at "s"
theorem ZeD:Zu ["_law_script","_law_vessel_here","_law_many","_law_far","_law_some","_law_bad"] ["_law_script"] (Ze (top 74)):=by walk_at "s"
section
variable{P:Program}{w:World}{K:Fg}{mg:Str→Option Value}{base:Heap}
theorem ZdN (F:ZR K mg "whole" (top 17) ["value"]) (B:Blt mg)  : FnC P w K mg base CX0 1 "whole" ["value"] Jp:=by
 refine F.ok Zdq (fun _ _ _ _=>Fv) (fun f cdv A outer s H vs Q E hr h=>?_);exact ⟨Zbo K,(Zg (Zv (qj (Zj Jv rfl B.isinstance Zr (Za (pv 0) (Za (JQ rfl B.int Zc9 rfl) Zb))) (qg (ZbT (Zj Jv rfl B.isinstance Zr (Za (pv 0) (Za (JQ rfl B.bool uw rfl) Zb)))))))),(by obtain ⟨i,rfl,k⟩:=h;exact uP k)⟩
theorem Uj (F:ZR K mg "greatest_divisor" (top 18) ["one","two"]) (B:Blt mg)  : FnC P w K mg base CX0 1 "greatest_divisor" ["one","two"] qM:=by
 refine F.ok Y8 (fun _ _ _ _=>Zcn) (fun f cdv A outer s H vs Q E hr h=>?_);have nd:=Y8.nd;have hpo:=fun {M A env}=>@PassesOwn.never M A env
 exact ⟨tDiv,(Zd (G6 hpo (ZF ZbZ (pv 1) Zf (ZJ _))
 (Zd (Zt (i:=2) nd rfl (by walk_at "o") (Zo Zb0 (pv 0) (pv 1)))
 (Zd (Zt (i:=0) nd rfl (by walk_at "o") (pv 1))
 (Zg (Zt (i:=1) nd rfl (by walk_at "o") (pv 2))))))
 (Zg (Zv (Zj yO rfl B.abs Zc_ (Za (pv 0) Zb))))),(by obtain ⟨a,b,rfl,k⟩:=h;exact ZgC a b H _ k)⟩
theorem Gk (F:ZR K mg "least_multiple" (top 19) ["one","two"]) (B:Blt mg) (c_greatest_divisor:FnC P w K mg base CX0 1 "greatest_divisor" ["one","two"] qM):FnC P w K mg base CX0 2 "least_multiple" ["one","two"] spLm:=by
 refine F.ok Gg (fun _ _ _ _=>Zhe) (fun f cdv A outer s H vs Q E hr h=>?_);exact ⟨t_lm K,(Zg (Zv (Zo JZ (Zo j9 (pv 0) (pv 1)) (Zk c_greatest_divisor hr rfl (Za (pv 0) (Za (pv 1) Zb)))))),(Zh3 rfl h)⟩
theorem q_ (F:ZR K mg "first_place" (top 21) ["row"]) (B:Blt mg)  : FnC P w K mg base CX0 1 "first_place" ["row"] (WX K):=by
 refine F.ok Uc (fun _ _ _ _=>Zcm) (fun f cdv A outer s H vs Q E hr h=>?_);have nd:=Uc.nd;have hpo:=fun {M A env}=>@PassesOwn.never M A env
 exact ⟨zN K,(Zd (Yw hpo rfl (z7 rfl B.enumerate (Za (pv 0) Zb)) (Y0 rfl (ZC (Zw (i:=1) nd rfl (by walk_at "o")) (ZC (Zw (i:=2) nd rfl (by walk_at "o")) Yl)))
 (Zg (ZS (ZF ZbZ (pv 2) Zf (ZJ _))
 (Zg (Zv (pv 1)))
 Zx)))
 (Zg (Zv GR))),(ZdE rfl h)⟩
theorem gb (F:ZR K mg "unit_row" (top 22) ["size","own"]) (B:Blt mg)  : FnC P w K mg base CX0 1 "unit_row" ["size","own"] (Wy K):=by
 refine F.ok W5 (fun _ _ _ _=>Zcb) (fun f cdv A outer s H vs Q E hr h=>?_);have nd:=W5.nd;exact ⟨zy K,(Zg (Zv (Jy (M:=["size","own"]) (by show Z8 (Ze (top 22)) ["size","own"] ["size","own"] _ _;walk_at "c") nd rfl (ZW rfl B.range (Za (pv 0) Zb)) (fun _ _ _ _ _=>(uX (ZF Jz (pv 0) (pv 2) (ZJ _)) Zf Zf))))),(Zds rfl h)⟩
theorem vP (F:ZR K mg "unit_rows" (top 23) ["size"]) (B:Blt mg) (c_unit_row:FnC P w K mg base CX0 1 "unit_row" ["size","own"] (Wy K)):FnC P w K mg base CX0 2 "unit_rows" ["size"] (Wx K):=by
 refine F.ok Gs (fun _ _ _ _=>Zca) (fun f cdv A outer s H vs Q E hr h=>?_);have nd:=Gs.nd;exact ⟨zx K,(Zg (Zv (Jy (M:=["size"]) (by show Z8 (Ze (top 23)) ["size"] ["size"] _ _;walk_at "c") nd rfl (ZW rfl B.range (Za (pv 0) Zb)) (fun _ _ _ _ _=>(Zk c_unit_row hr rfl (Za (pv 1) (Za (pv 0) Zb))))))),(Zdr rfl h)⟩
theorem gj (F:ZR K mg "opposite" (top 24) ["row"]) (B:Blt mg)  : FnC P w K mg base CX0 1 "opposite" ["row"] (zQ K):=by
 refine F.ok W6 (fun _ _ _ _=>ZfK) (fun f cdv A outer s H vs Q E hr h=>?_);have nd:=W6.nd;exact ⟨Ze5 K,(Zg (Zv (Jy (M:=["row"]) (by show Z8 (Ze (top 24)) ["row"] ["row"] _ _;walk_at "c") nd rfl (ZgR (pv 0)) (fun _ _ _ _ _=>(j7 Uo (pv 0)))))),(ZgA rfl h)⟩
theorem vR (F:ZR K mg "opposites" (top 25) ["rows"]) (B:Blt mg) (c_opposite:FnC P w K mg base CX0 1 "opposite" ["row"] (zQ K)):FnC P w K mg base CX0 2 "opposites" ["rows"] (WL K):=by
 refine F.ok Gw (fun _ _ _ _=>ZdW) (fun f cdv A outer s H vs Q E hr h=>?_);have nd:=Gw.nd;exact ⟨Zbh K,(Zg (Zv (Jy (M:=["rows"]) (by show Z8 (Ze (top 25)) ["rows"] ["rows"] _ _;walk_at "c") nd rfl (YW (pv 0)) (fun _ _ _ _ _=>(Zk c_opposite hr rfl (Za (pv 0) Zb)))))),(Zfd rfl h)⟩
theorem Gm (F:ZR K mg "common_divisor" (top 26) ["row"]) (B:Blt mg) (c_greatest_divisor:FnC P w K mg base CX0 1 "greatest_divisor" ["one","two"] qM):FnC P w K mg base CX0 2 "common_divisor" ["row"] (zR K):=by
 refine F.ok Jk (fun _ _ _ _=>ZfL) (fun f cdv A outer s H vs Q E hr h=>?_);have nd:=Jk.nd;have hpo:=fun {M A env}=>@PassesOwn.never M A env
 exact ⟨Ze6 K,(Zd (Zt (i:=1) nd rfl (by walk_at "o") Zf)
 (Zd (Yw hpo rfl (YW (pv 0)) (Zw (i:=2) nd rfl (by walk_at "o"))
 (Zg (Zt (i:=1) nd rfl (by walk_at "o") (Zk c_greatest_divisor hr rfl (Za (pv 1) (Za (pv 2) Zb))))))
 (Zg (Zv (pv 1))))),(ZgD rfl h)⟩
theorem Zb2 (F:ZR K mg "lowest" (top 27) ["row"]) (B:Blt mg) (c_first_place:FnC P w K mg base CX0 2 "first_place" ["row"] (WX K)) (c_common_divisor:FnC P w K mg base CX0 2 "common_divisor" ["row"] (zR K)):FnC P w K mg base CX0 3 "lowest" ["row"] (vh K):=by
 refine F.ok vG (fun _ _ _ _=>ZdZ) (fun f cdv A outer s H vs Q E hr h=>?_);have nd:=vG.nd;exact ⟨Zbk K,(Zd (Zt (i:=1) nd rfl (by walk_at "o") (Zk c_first_place hr rfl (Za (pv 0) Zb)))
 (Zd (ZS (ZF ZeL (pv 1) GR (ZJ _))
 (Zg (Zv (Yp JV rfl B.list qJ (Za (pv 0) Zb))))
 Zx)
 (Zd (Zt (i:=2) nd rfl (by walk_at "o") (Zk c_common_divisor hr rfl (Za (pv 0) Zb)))
 (Zd (ZS (ZF j_ (ZP Z7 (pv 0) (pv 1) (fun _ _=>rfl)) Zf (ZJ _))
 (Zg (Zt (i:=2) nd rfl (by walk_at "o") (j7 Uo (pv 2))))
 Zx)
 (Zg (Zv (Jy (M:=["row","place","divisor"]) (by show Z8 (Ze (top 27)) ["row","place","divisor"] ["row","place","divisor"] _ _;walk_at "c") nd rfl (YW (pv 0)) (fun _ _ _ _ _=>(Zo JZ (pv 0) (pv 3)))))))))),(Zfg rfl h)⟩
theorem jc (F:ZR K mg "first_board" (top 29) ["rows","ends"]) (B:Blt mg) (c_unit_rows:FnC P w K mg base CX0 2 "unit_rows" ["size"] (Wx K)):FnC P w K mg base CX0 3 "first_board" ["rows","ends"] (Uw K):=by
 refine F.ok Ud (fun _ _ _ _=>ZaY) (fun f cdv A outer s H vs Q E hr h=>?_);have nd:=Ud.nd;exact ⟨jP K,(Zd (Zt (i:=2) nd rfl (by walk_at "o") (Zk c_unit_rows hr rfl (Za (Zj Zm rfl B.len Z0 (Za (pv 0) Zb)) Zb)))
 (Zg (Zv (jt ["row","unit","end"] ["rows","ends","units"] (by show Z8 (Ze (top 29)) ["rows","ends","units"] ["rows","ends","units"] _ _;walk_at "c") rfl (ZdL rfl B.zip (Za (pv 0) (Za (pv 2) (Za (pv 1) Zb)))) (fun _ _ _ _ _=>(Y0 rfl (ZC (Zw (i:=0) (show (["row","unit","end","rows","ends","units"]:List Str).Nodup by decide +kernel) rfl (by walk_at "o")) (ZC (Zw (i:=1) (show (["row","unit","end","rows","ends","units"]:List Str).Nodup by decide +kernel) rfl (by walk_at "o")) (ZC (Zw (i:=2) (show (["row","unit","end","rows","ends","units"]:List Str).Nodup by decide +kernel) rfl (by walk_at "o")) Yl))))) (fun _ _ _ _ _=>(Zo jw (Zo jw (Yp JV rfl B.list qJ (Za (pv 0) Zb)) (pv 1)) (Yo (Za (pv 2) Zb)))))))),(ZbI rfl h)⟩
theorem yh (F:ZR K mg "short_line" (top 30) ["board","holders"]) (B:Blt mg)  : FnC P w K mg base CX0 1 "short_line" ["board","holders"] (Ui K):=by
 refine F.ok UG (fun _ _ _ _=>Zcc) (fun f cdv A outer s H vs Q E hr h=>?_);have nd:=UG.nd;have hu:=hr.units;exact ⟨zA K,(Zd (ZgO (i:=2) ["line","holder"] ["board","holders","short"] nd rfl rfl (by show Z8 (Ze (top 30)) ["board","holders","short"] ["board","holders","short"] _ _;walk_at "c") rfl (U4 (k1:=.L) (k2:=.L) rfl B.zip (Za (pv 0) (Za (pv 1) Zb))) (fun _ _ _ _ _=>(Y0 rfl (ZC (Zw (i:=0) (show (["line","holder","board","holders","short"]:List Str).Nodup by decide +kernel) rfl (by walk_at "o")) (ZC (Zw (i:=1) (show (["line","holder","board","holders","short"]:List Str).Nodup by decide +kernel) rfl (by walk_at "o")) Yl)))) (fun _ _ _ _ _=>(ZF j_ (ZP Z7 (pv 0) (j7 Uo Zf) (fun _ _=>rfl)) Zf (ZJ _))) (fun _ _ _ _ _=>(pv 1)))
 (Zd (ZS (ZF Jz (Zj Zm rfl B.len Z0 (Za (pv 2) Zb)) Zf (ZJ _))
 (Zg (Zv GR))
 Zx)
 (Zg (Zv (Yr PySem.F.plainAttrs_list PySem.F.slot_list_index PySem.F.type_list_index (ZdQ hu) (pv 1) (Za (Zj (qI rfl) rfl B.min Zc8 (Za (pv 2) Zb)) Zb)))))),(Zdt rfl h)⟩
theorem JR (F:ZR K mg "place_below_nought" (top 31) ["line"]) (B:Blt mg)  : FnC P w K mg base CX0 1 "place_below_nought" ["line"] (WY K):=by
 refine F.ok YH (fun _ _ _ _=>Zco) (fun f cdv A outer s H vs Q E hr h=>?_);have nd:=YH.nd;have hpo:=fun {M A env}=>@PassesOwn.never M A env
 exact ⟨zO K,(Zd (Yw hpo rfl (z7 rfl B.enumerate (Za (U5 jZ (pv 0) j6 (Gj (j7 Uo Zf))) Zb)) (Y0 rfl (ZC (Zw (i:=1) nd rfl (by walk_at "o")) (ZC (Zw (i:=2) nd rfl (by walk_at "o")) Yl)))
 (Zg (ZS (ZF j_ (pv 2) Zf (ZJ _))
 (Zg (Zv (pv 1)))
 Zx)))
 (Zg (Zv GR))),(ZdF rfl h)⟩
theorem qp (F:ZR K mg "line_without" (top 32) ["line","head","place"]) (B:Blt mg) (c_common_divisor:FnC P w K mg base CX0 2 "common_divisor" ["row"] (zR K)):FnC P w K mg base CX0 3 "line_without" ["line","head","place"] (JC K):=by
 refine F.ok JN (fun _ _ _ _=>gM) (fun f cdv A outer s H vs Q E hr h=>?_);have nd:=JN.nd;exact ⟨Wi K,(Zd (ZgM (i:=3) ["number","other"] ["line","head","place","rest","divisor"] nd rfl rfl (by show Z8 (Ze (top 32)) ["line","head","place","rest","divisor"] ["line","head","place","rest","divisor"] _ _;walk_at "c") rfl (U4 (k1:=.L) (k2:=.L) rfl B.zip (Za (pv 0) (Za (pv 1) Zb))) (fun _ _ _ _ _=>(Y0 rfl (ZC (Zw (i:=0) (show (["number","other","line","head","place","rest","divisor"]:List Str).Nodup by decide +kernel) rfl (by walk_at "o")) (ZC (Zw (i:=1) (show (["number","other","line","head","place","rest","divisor"]:List Str).Nodup by decide +kernel) rfl (by walk_at "o")) Yl)))) (fun _ _ _ _ _=>(Zo ql (Zo j9 (ZP Z7 (pv 3) (pv 4) (fun _ _=>rfl)) (pv 0)) (Zo j9 (ZP Z7 (pv 2) (pv 4) (fun _ _=>rfl)) (pv 1)))))
 (Zd (Zt (i:=4) nd rfl (by walk_at "o") (Zk c_common_divisor hr rfl (Za (pv 3) Zb)))
 (Zg (Zv (Jy (M:=["line","head","place","rest","divisor"]) (by show Z8 (Ze (top 32)) ["line","head","place","rest","divisor"] ["line","head","place","rest","divisor"] _ _;walk_at "c") nd rfl (YW (pv 3)) (fun _ _ _ _ _=>(Zo JZ (pv 0) (pv 5)))))))),(ZaE rfl h)⟩
theorem vQ (F:ZR K mg "passed_on" (top 33) ["board","at","place"]) (B:Blt mg) (c_opposite:FnC P w K mg base CX0 3 "opposite" ["row"] (zQ K)) (c_line_without:FnC P w K mg base CX0 3 "line_without" ["line","head","place"] (JC K)):FnC P w K mg base CX0 4 "passed_on" ["board","at","place"] (Uu K):=by
 refine F.ok Gv (fun _ _ _ _=>ZaW) (fun f cdv A outer s H vs Q E hr h=>?_);have nd:=Gv.nd;exact ⟨jN K,(Zd (Zt (i:=3) nd rfl (by walk_at "o") (Zk c_opposite hr rfl (Za (ZP Z7 (pv 0) (pv 1) (fun _ _=>rfl)) Zb)))
 (Zg (Zv (jt ["number","line"] ["board","at","place","head"] (by show Z8 (Ze (top 33)) ["board","at","place","head"] ["board","at","place","head"] _ _;walk_at "c") rfl (z7 rfl B.enumerate (Za (pv 0) Zb)) (fun _ _ _ _ _=>(Y0 rfl (ZC (Zw (i:=0) (show (["number","line","board","at","place","head"]:List Str).Nodup by decide +kernel) rfl (by walk_at "o")) (ZC (Zw (i:=1) (show (["number","line","board","at","place","head"]:List Str).Nodup by decide +kernel) rfl (by walk_at "o")) Yl)))) (fun _ _ _ _ _=>(uX (ZF Jz (pv 0) (pv 3) (ZJ _)) (pv 5) (Zk c_line_without hr rfl (Za (pv 1) (Za (pv 5) (Za (pv 4) Zb)))))))))),(ZbF rfl h)⟩
theorem yj (F:ZR K mg "numbers_on" (top 34) ["board","holders","size"]) (B:Blt mg) (c_lowest:FnC P w K mg base CX0 3 "lowest" ["row"] (vh K)) (c_least_multiple:FnC P w K mg base CX0 3 "least_multiple" ["one","two"] spLm):FnC P w K mg base CX0 4 "numbers_on" ["board","holders","size"] (JF K):=by
 refine F.ok UJ (fun _ _ _ _=>gR) (fun f cdv A outer s H vs Q E hr h=>?_);have nd:=UJ.nd;have hpo:=fun {M A env}=>@PassesOwn.never M A env
 exact ⟨Wn K,(Zd (Zt (i:=3) nd rfl (by walk_at "o") Zf)
 (Zd (Yw hpo rfl (U4 (k1:=.L) (k2:=.L) rfl B.zip (Za (pv 0) (Za (pv 1) Zb))) (Y0 rfl (ZC (Zw (i:=4) nd rfl (by walk_at "o")) (ZC (Zw (i:=5) nd rfl (by walk_at "o")) Yl)))
 (Zg (Zt (i:=3) nd rfl (by walk_at "o") (Zk c_least_multiple hr rfl (Za (pv 3) (Za (ZP Z7 (pv 4) (pv 5) (fun _ _=>rfl)) Zb))))))
 (Zd (Zt (i:=6) nd rfl (by walk_at "o") (Zo vN (Yo (Za Zf Zb)) (pv 2)))
 (Zd (Yw hpo rfl (U4 (k1:=.L) (k2:=.L) rfl B.zip (Za (pv 0) (Za (pv 1) Zb))) (Y0 rfl (ZC (Zw (i:=4) nd rfl (by walk_at "o")) (ZC (Zw (i:=5) nd rfl (by walk_at "o")) Yl)))
 (Zg (ZS (ZF j_ (pv 5) (pv 2) (ZJ _))
 (Zg (uU (Zo JZ (Zo j9 (ZP Z7 (pv 4) (j7 Uo Zf) (fun _ _=>rfl)) (pv 3)) (ZP Z7 (pv 4) (pv 5) (fun _ _=>rfl))) (ZbR (pv 6) (pv 5) set_list)))
 Zx)))
 (Zg (Zv (Zk c_lowest hr rfl (Za (pv 6) Zb)))))))),(ZaI rfl h)⟩
theorem ZaM (F:ZR K mg "settled" (top 35) ["rows","wants"]) (B:Blt mg) (c_first_board:FnC P w K mg base CX0 4 "first_board" ["rows","ends"] (Uw K)) (c_short_line:FnC P w K mg base CX0 4 "short_line" ["board","holders"] (Ui K)) (c_place_below_nought:FnC P w K mg base CX0 4 "place_below_nought" ["line"] (WY K)) (c_passed_on:FnC P w K mg base CX0 4 "passed_on" ["board","at","place"] (Uu K)) (c_numbers_on:FnC P w K mg base CX0 4 "numbers_on" ["board","holders","size"] (JF K)) (c_opposites:FnC P w K mg base CX0 4 "opposites" ["rows"] (WL K)):FnC P w K mg base CX0 5 "settled" ["rows","wants"] (Bg.JD K):=by
 refine F.ok jo (fun _ _ _ _=>Bg.gP) (fun f cdv A outer s H vs Q E hr h=>?_);have nd:=jo.nd;have hpo:=fun {M A env}=>@PassesOwn.never M A env
 exact ⟨Wk K,(Zd (Zt (i:=2) nd rfl (by walk_at "o") (Zj Zm rfl B.len Z0 (Za (ZP Z7 (pv 1) Zf (fun _ _=>rfl)) Zb)))
 (Zd (Zt (i:=3) nd rfl (by walk_at "o") (Zk c_first_board hr rfl (Za (Zo jw (pv 0) (Zk c_opposites hr rfl (Za (pv 1) Zb))) (Za (Zo jw (Zo vN (Yo (Za Zf Zb)) (Zj Zm rfl B.len Z0 (Za (pv 0) Zb))) (Zo vN (Yo (Za (j7 Uo Zf) Zb)) (Zj Zm rfl B.len Z0 (Za (pv 1) Zb)))) Zb))))
 (Zd (Zt (i:=4) nd rfl (by walk_at "o") (j8 rfl rfl B.list rfl B.range (Za (pv 2) (Za (Zo Z2 (pv 2) (Zj Zm rfl B.len Z0 (Za (pv 3) Zb))) Zb))))
 (Zd (Zt (i:=5) nd rfl (by walk_at "o") (Zk c_short_line hr rfl (Za (pv 3) (Za (pv 4) Zb))))
 (Zd (G6 hpo (ZF ZbY (pv 5) GR (ZJ _))
 (Zd (Zt (i:=6) nd rfl (by walk_at "o") (Zk c_place_below_nought hr rfl (Za (ZP Z7 (pv 3) (pv 5) (fun _ _=>rfl)) Zb)))
 (Zd (ZS (ZF ZeL (pv 6) GR (ZJ _))
 (Zg (Zv (Yn (Za U6 (Za (U5 jZ (ZP Z7 (pv 3) (pv 5) (fun _ _=>rfl)) (Gj (pv 2)) (Gj (Zo Z2 (pv 2) (Zj Zm rfl B.len Z0 (Za (pv 0) Zb))))) Zb)))))
 Zx)
 (Zd (Zt (i:=3) nd rfl (by walk_at "o") (Zk c_passed_on hr rfl (Za (pv 3) (Za (pv 5) (Za (pv 6) Zb)))))
 (Zd (uU (pv 6) (ZbR (pv 4) (pv 5) set_list))
 (Zg (Zt (i:=5) nd rfl (by walk_at "o") (Zk c_short_line hr rfl (Za (pv 3) (Za (pv 4) Zb))))))))))
 (Zg (Zv (Yn (Za U6 (Za (Zk c_numbers_on hr rfl (Za (pv 3) (Za (pv 4) (Za (pv 2) Zb)))) Zb)))))))))),(Bg.ZaG rfl h)⟩
theorem gH (F:ZR K mg "balanced" (top 36) ["rows","wants"]) (B:Blt mg) (c_settled:FnC P w K mg base CX0 5 "settled" ["rows","wants"] (Bg.JD K)) (c_opposites:FnC P w K mg base CX0 5 "opposites" ["rows"] (WL K)):FnC P w K mg base CX0 6 "balanced" ["rows","wants"] (Bg.Jj K):=by
 refine F.ok qe (fun _ _ _ _=>Bg.Fw) (fun f cdv A outer s H vs Q E hr h=>?_);have nd:=qe.nd;exact ⟨Bg.Gb K,(Zd (Zt (i:=2) nd rfl (by walk_at "o") (Zk c_settled hr rfl (Za (Zo jw (pv 0) (Zk c_opposites hr rfl (Za (pv 0) Zb))) (Za (pv 1) Zb))))
 (Zd (ZS (ZV (ZP ZQ (pv 2) Zf (fun _ _=>rfl)))
 (Zg (Zv (pv 2)))
 Zx)
 (Zd (Zt (i:=3) nd rfl (by walk_at "o") (U5 jZ (ZP ZQ (pv 2) Zf (fun _ _=>rfl)) j6 (Gj (Zj Zm rfl B.len Z0 (Za (pv 0) Zb)))))
 (Zd (Zt (i:=4) nd rfl (by walk_at "o") (U5 jZ (ZP ZQ (pv 2) Zf (fun _ _=>rfl)) (Gj (Zj Zm rfl B.len Z0 (Za (pv 0) Zb))) j6))
 (Zg (Zv (Yn (Za U6 (Za (jt ["one","two"] ["rows","wants","told","forward","back"] (by show Z8 (Ze (top 36)) ["rows","wants","told","forward","back"] ["rows","wants","told","forward","back"] _ _;walk_at "c") rfl (U4 (k1:=.L) (k2:=.L) rfl B.zip (Za (pv 3) (Za (pv 4) Zb))) (fun _ _ _ _ _=>(Y0 rfl (ZC (Zw (i:=0) (show (["one","two","rows","wants","told","forward","back"]:List Str).Nodup by decide +kernel) rfl (by walk_at "o")) (ZC (Zw (i:=1) (show (["one","two","rows","wants","told","forward","back"]:List Str).Nodup by decide +kernel) rfl (by walk_at "o")) Yl)))) (fun _ _ _ _ _=>(Zo ql (pv 0) (pv 1)))) Zb))))))))),(Bg.zX rfl h)⟩
theorem yg (F:ZR K mg "turning_at" (top 38) ["vessel","number"]) (B:Blt mg) (c_whole:FnC P w K mg base CX0 1 "whole" ["value"] Jp):FnC P w K mg base CX0 2 "turning_at" ["vessel","number"] (Us K):=by
 refine F.ok Uz (fun _ _ _ _=>ZaU) (fun f cdv A outer s H vs Q E hr h=>?_);have nd:=Uz.nd;exact ⟨jL K,(Zd (Zt (i:=2) nd rfl (by walk_at "o") (ZP ZQ (pv 0) Zf (fun _ _=>rfl)))
 (Zd (ZS (PW.pt (pw_or (YZ (ZV (Zk c_whole hr rfl (Za (pv 1) Zb)))) (pw_or1 (YZ (ZdJ Zh6 j_ Zf (pv 1) (Zj Zm rfl B.len Z0 (Za (pv 2) Zb)))))))
 ZbN
 Zx)
 (Zg (Zv (ZP ZQ (pv 2) (pv 1) (fun _ _=>rfl)))))),(ZbD rfl h)⟩
theorem Zb3 (F:ZR K mg "change" (top 39) ["vessel","number"]) (B:Blt mg) (c_turning_at:FnC P w K mg base CX0 2 "turning_at" ["vessel","number"] (Us K)):FnC P w K mg base CX0 3 "change" ["vessel","number"] (Zbu K):=by
 refine F.ok vJ (fun _ _ _ _=>ZfM) (fun f cdv A outer s H vs Q E hr h=>?_);have nd:=vJ.nd;exact ⟨Ze7 K,(Zd (Zt (i:=2) nd rfl (by walk_at "o") (Zk c_turning_at hr rfl (Za (pv 0) (Za (pv 1) Zb))))
 (Zg (Zv (Yp Yk rfl B.tuple Jb (Za (jt ["ahead","behind"] ["vessel","number","turning"] (by show Z8 (Ze (top 39)) ["vessel","number","turning"] ["vessel","number","turning"] _ _;walk_at "c") rfl (U4 (k1:=.T) (k2:=.T) rfl B.zip (Za (ZP ZQ (pv 2) Zf (fun _ _=>rfl)) (Za (ZP ZQ (pv 2) Zf (fun _ _=>rfl)) Zb))) (fun _ _ _ _ _=>(Y0 rfl (ZC (Zw (i:=0) (show (["ahead","behind","vessel","number","turning"]:List Str).Nodup by decide +kernel) rfl (by walk_at "o")) (ZC (Zw (i:=1) (show (["ahead","behind","vessel","number","turning"]:List Str).Nodup by decide +kernel) rfl (by walk_at "o")) Yl)))) (fun _ _ _ _ _=>(Zo ql (pv 1) (pv 0)))) Zb))))),(ZgE rfl h)⟩
theorem ZaP (F:ZR K mg "changes" (top 40) ["vessel"]) (B:Blt mg) (c_change:FnC P w K mg base CX0 3 "change" ["vessel","number"] (Zbu K)):FnC P w K mg base CX0 4 "changes" ["vessel"] (vm K):=by
 refine F.ok jr (fun _ _ _ _=>Zd1) (fun f cdv A outer s H vs Q E hr h=>?_);have nd:=jr.nd;exact ⟨Zbn K,(Zg (Zv (Jy (M:=["vessel"]) (by show Z8 (Ze (top 40)) ["vessel"] ["vessel"] _ _;walk_at "c") nd rfl (ZW rfl B.range (Za (Zj Zm rfl B.len Z0 (Za (ZP ZQ (pv 0) Zf (fun _ _=>rfl)) Zb)) Zb)) (fun _ _ _ _ _=>(Zk c_change hr rfl (Za (pv 1) (Za (pv 0) Zb))))))),(Zfj rfl h)⟩
theorem ZaN (F:ZR K mg "sets_of" (top 42) ["size"]) (B:Blt mg)  : FnC P w K mg base CX0 1 "sets_of" ["size"] (Ut K):=by
 refine F.ok jq (fun _ _ _ _=>ZaV) (fun f cdv A outer s H vs Q E hr h=>?_);have nd:=jq.nd;have hpo:=fun {M A env}=>@PassesOwn.never M A env
 exact ⟨jM K,(Zd (Zt (i:=1) nd rfl (by walk_at "o") (Yo Zb))
 (Zd (ZgP (M:=["size","told","longest","longer","stuffs"]) (i:=2) nd rfl rfl (by show Z8 (Ze (top 42)) ["size","told","longest","longer","stuffs"] ["size","told","longest","longer","stuffs"] _ _;walk_at "c") rfl (ZW rfl B.range (Za (pv 0) Zb)) (fun _ _ _ _ _=>(Yn (Za (pv 0) Zb))))
 (Zd (G6 hpo (ZF qP (Zj Zm rfl B.len Z0 (Za (pv 2) Zb)) Zf (ZJ _))
 (Zd (ZM (Yr PySem.F.plainAttrs_list PySem.F.slot_list_extend PySem.F.type_list_extend Fq (pv 1) (Za (pv 2) Zb)))
 (Zd (Zt (i:=3) nd rfl (by walk_at "o") (Yo Zb))
 (Zd (Yw hpo rfl (YW (pv 2)) (Zw (i:=4) nd rfl (by walk_at "o"))
 (Zg (ZM (Yr PySem.F.plainAttrs_list PySem.F.slot_list_extend PySem.F.type_list_extend Fq (pv 3) (Za (Jy (M:=["size","told","longest","longer","stuffs"]) (by show Z8 (Ze (top 42)) ["size","told","longest","longer","stuffs"] ["size","told","longest","longer","stuffs"] _ _;walk_at "c") nd rfl (vL rfl B.range (Za (Zo Z2 (ZP ZQ (pv 4) (j7 Uo Zf) (fun _ _=>rfl)) Zf) (Za (pv 0) Zb))) (fun _ _ _ _ _=>(Zo Zfx (pv 5) (Yn (Za (pv 0) Zb))))) Zb)))))
 (Zg (Zt (i:=2) nd rfl (by walk_at "o") (pv 3)))))))
 (Zg (Zv (pv 1)))))),(ZbE rfl h)⟩
theorem gG (F:ZR K mg "has_some" (top 43) ["heap","stuffs"]) (B:Blt mg)  : FnC P w K mg base CX0 1 "has_some" ["heap","stuffs"] (Ji K):=by
 refine F.ok qd (fun _ _ _ _=>gW) (fun f cdv A outer s H vs Q E hr h=>?_);have nd:=qd.nd;exact ⟨Wr K,(Zg (Zv (Zj (Zet rfl) rfl B.any ZhV (Za (Jy (M:=["heap","stuffs"]) (by show Z8 (Ze (top 43)) ["heap","stuffs"] ["heap","stuffs"] _ _;walk_at "c") nd rfl (GQ (pv 1)) (fun _ _ _ _ _=>(YB qP (ZP ZQ (pv 1) (pv 0) (fun _ _=>rfl)) Zf (ZJ _)))) Zb)))),(ZaK rfl h)⟩
theorem gF (F:ZR K mg "is_drain" (top 44) ["vessel","stuffs"]) (B:Blt mg) (c_has_some:FnC P w K mg base CX0 1 "has_some" ["heap","stuffs"] (Ji K)):FnC P w K mg base CX0 2 "is_drain" ["vessel","stuffs"] (JG K):=by
 refine F.ok W_ (fun _ _ _ _=>gU) (fun f cdv A outer s H vs Q E hr h=>?_);have nd:=W_.nd;exact ⟨Wo K,(Zg (Zv (Zj (Wb rfl) rfl B.all Zau (Za (Jy (M:=["vessel","stuffs"]) (by show Z8 (Ze (top 44)) ["vessel","stuffs"] ["vessel","stuffs"] _ _;walk_at "c") nd rfl (GQ (ZP ZQ (pv 0) Zf (fun _ _=>rfl))) (fun _ _ _ _ _=>(Zh4 (Zk c_has_some hr rfl (Za (ZP ZQ (pv 0) Zf (fun _ _=>rfl)) (Za (pv 2) Zb))) (qg (ZbT (Zk c_has_some hr rfl (Za (ZP ZQ (pv 0) Zf (fun _ _=>rfl)) (Za (pv 2) Zb)))))))) Zb)))),(ZaJ rfl h)⟩
theorem jd {x:Ex0.Ad} (T:Exs K mg x) (F:ZR K mg "check_drain" (top 45) ["vessel","drain"]) (B:Blt mg) (c_is_drain:FnC P w K mg base CX0 2 "is_drain" ["vessel","stuffs"] (JG K)) (c_sets_of:FnC P w K mg base CX0 2 "sets_of" ["size"] (Ut K)) (c_whole:FnC P w K mg base CX0 2 "whole" ["value"] Jp):FnC P w K mg base (CXE P w) 3 "check_drain" ["vessel","drain"] (Uy K x.c9):=by
 refine F.okE Ue (fun _ _ _ _=>Za0) (fun f cdv A outer s H vs Q E hr h=>?_);have nd:=Ue.nd;have hu:=hr.units;have hlv:=Zg_ (P:=P) (w:=w) (K:=K) (mg:=mg) (base:=base) (N:=["vessel","drain"]) (qual:="check_drain") (sc:=Ze (top 45)) (f:=f) (cd:=cdv) (A:=A) (outer:=outer) (s:=s) (H:=H) (E:=E);exact ⟨jR K E x,(Zd (ZS (PW.pt (pw_or (YZ (ZV (Zj (Wb rfl) rfl B.all Zau (Za (Jy (M:=["vessel","drain"]) (by show Z8 (Ze (top 45)) ["vessel","drain"] ["vessel","drain"] _ _;walk_at "c") nd rfl (GQ (pv 1)) (fun _ _ _ _ _=>(Zk c_whole hr rfl (Za (pv 0) Zb)))) Zb)))) (pw_or1 (ZF (qm hu) (pv 1) (Zk c_sets_of hr rfl (Za (Zj Zm rfl B.len Z0 (Za (ZP ZQ (pv 0) Zf (fun _ _=>rfl)) Zb)) Zb)) (by with_unfolding_all rfl)))))
 (Zg (uT hlv rfl rfl T.n9 PySem.F.excBase_ValueError Yt))
 Zx)
 (Zg (ZS (YZ (ZV (Zk c_is_drain hr rfl (Za (pv 0) (Za (pv 1) Zb)))))
 (Zg (uT hlv rfl rfl T.n9 PySem.F.excBase_ValueError Yt))
 Zx))),(ZbK rfl h)⟩
theorem yp (F:ZR K mg "numbers_at" (top 46) ["row","stuffs"]) (B:Blt mg)  : FnC P w K mg base CX0 1 "numbers_at" ["row","stuffs"] (WM K):=by
 refine F.ok UL (fun _ _ _ _=>Zcg) (fun f cdv A outer s H vs Q E hr h=>?_);have nd:=UL.nd;exact ⟨zG K,(Zg (Zv (Jy (M:=["row","stuffs"]) (by show Z8 (Ze (top 46)) ["row","stuffs"] ["row","stuffs"] _ _;walk_at "c") nd rfl (GQ (pv 1)) (fun _ _ _ _ _=>(ZP ZQ (pv 1) (pv 0) (fun _ _=>rfl)))))),(Zdx rfl h)⟩
theorem ZdO {x:Ex0.Ad} (T:Exs K mg x) (F:ZR K mg "guard" (top 47) ["vessel","drain"]) (B:Blt mg) (c_check_drain:FnC P w K mg base (CXE P w) 6 "check_drain" ["vessel","drain"] (Uy K x.c9)) (c_balanced:FnC P w K mg base CX0 6 "balanced" ["rows","wants"] (Bg.Jj K)) (c_numbers_at:FnC P w K mg base CX0 6 "numbers_at" ["row","stuffs"] (WM K)) (c_changes:FnC P w K mg base CX0 6 "changes" ["vessel"] (vm K)):FnC P w K mg base (CXE P w) 7 "guard" ["vessel","drain"] (JK K x.c9):=by
 refine F.okE uN (fun _ _ _ _=>Zcl) (fun f cdv A outer s H vs Q E hr h=>?_);have nd:=uN.nd;have hpo:=ZhL (CX:=CXE P w) (P:=P) (w:=w) (K:=K) (mg:=mg) (base:=base) (N:=["vessel","drain","parts","told","weights","stuff","weight"]) (qual:="guard") (sc:=Ze (top 47)) (f:=f) (cd:=cdv) (A:=A) (outer:=outer) (s:=s) (H:=H) (E:=E);have hlv:=Zg_ (P:=P) (w:=w) (K:=K) (mg:=mg) (base:=base) (N:=["vessel","drain","parts","told","weights","stuff","weight"]) (qual:="guard") (sc:=Ze (top 47)) (f:=f) (cd:=cdv) (A:=A) (outer:=outer) (s:=s) (H:=H) (E:=E);exact ⟨zM K E x,(Zd (ZM (G7 c_check_drain hr rfl hlv.pass (Za (pv 0) (Za (pv 1) Zb))))
 (Zd (ZgP (M:=["vessel","drain","parts","told","weights","stuff","weight"]) (i:=2) nd rfl rfl (by show Z8 (Ze (top 47)) ["vessel","drain","parts","told","weights","stuff","weight"] ["vessel","drain","parts","told","weights","stuff","weight"] _ _;walk_at "c") rfl (YW (Zk c_changes hr rfl (Za (pv 0) Zb))) (fun _ _ _ _ _=>(Zk c_numbers_at hr rfl (Za (pv 0) (Za (pv 2) Zb)))))
 (Zd (Zt (i:=3) nd rfl (by walk_at "o") (Zk c_balanced hr rfl (Za (pv 2) (Za (Yo (Za (Zo vN (Yo (Za Zf Zb)) (Zj Zm rfl B.len Z0 (Za (pv 1) Zb))) Zb)) Zb))))
 (Zd (ZS (YZ (ZV (ZP ZQ (pv 3) Zf (fun _ _=>rfl))))
 (Zg (Zv (pv 3)))
 Zx)
 (Zd (Zt (i:=4) nd rfl (by walk_at "o") (Zo vN (Yo (Za Zf Zb)) (Zj Zm rfl B.len Z0 (Za (ZP ZQ (pv 0) Zf (fun _ _=>rfl)) Zb))))
 (Zd (Yw hpo rfl (U4 (k1:=.T) (k2:=.L) rfl B.zip (Za (pv 1) (Za (ZP ZQ (pv 3) Zf (fun _ _=>rfl)) Zb))) (Y0 rfl (ZC (Zw (i:=5) nd rfl (by walk_at "o")) (ZC (Zw (i:=6) nd rfl (by walk_at "o")) Yl)))
 (Zg (uU (pv 6) (ZbR (pv 4) (pv 5) set_list))))
 (Zg (Zv (Yn (Za U6 (Za (pv 4) Zb))))))))))),(ZdD rfl h)⟩
theorem qZ (F:ZR K mg "_law_cell_at" (top 49) ["_law_script","_law_k"]) (B:Blt mg)  : FnC P w K mg base CX0 1 "_law_cell_at" ["_law_script","_law_k"] (JL K):=by
 refine F.ok qO (fun _ _ _ _=>Zd2) (fun f cdv A outer s H vs Q E hr h=>?_);exact ⟨Zgr K,(Zd (ZS (ZF j_ (pv 1) (Zj Zm rfl B.len Z0 (Za (pv 0) Zb)) (ZJ _))
 (Zg (Zv (ZP Z7 (pv 0) (pv 1) (fun _ _=>rfl))))
 Zx)
 (Zg (Zv Zf))),(by obtain ⟨a,ns,k,rfl,hS,h0,q⟩:=h;exact Zfk hS h0 q)⟩
theorem vZ (F:ZR K mg "_law_mixed" (top 50) ["_law_cell","_law_place"]) (B:Blt mg)  : FnC P w K mg base CX0 1 "_law_mixed" ["_law_cell","_law_place"] Jh:=by
 refine F.ok GC (fun _ _ _ _=>ZdY) (fun f cdv A outer s H vs Q E hr h=>?_);have nd:=GC.nd;exact ⟨Zbj K,(Zd (Zt (i:=2) nd rfl (by walk_at "o") (Zo Z1 (Zo Z2 (Zo Z2 (Zo Ug (Zo Z1 (pv 0) Zf) Zf) (Zo Ug Zf (pv 1))) Zf) Zf))
 (Zd (Zt (i:=2) nd rfl (by walk_at "o") (Zo Z1 (Zo Z2 (Zo Z2 (Zo Ug (pv 2) (pv 2)) (Zo Ug Zf (pv 1))) Zf) Zf))
 (Zg (Zv (Zo Z1 (Zo Z2 (Zo Ug (pv 2) (pv 2)) Zf) Zf))))),(Zff rfl h)⟩
theorem qW (F:ZR K mg "_law_divisor" (top 51) ["_law_one","_law_two"]) (B:Blt mg)  : FnC P w K mg base CX0 1 "_law_divisor" ["_law_one","_law_two"] qM:=by
 refine F.ok J_ (fun _ _ _ _=>Zcn) (fun f cdv A outer s H vs Q E hr h=>?_);have nd:=J_.nd;have hpo:=fun {M A env}=>@PassesOwn.never M A env
 exact ⟨Zbm K,(Zd (G6 hpo (ZF ZbZ (pv 1) Zf (ZJ _))
 (Zg (ZgL (i:=0) (j:=1) rfl nd rfl rfl (by decide) rfl rfl (Za (pv 1) (Za (Zo Zb0 (pv 0) (pv 1)) Zb)) rfl)))
 (Zg (Zv (Zj yO rfl B.abs Zc_ (Za (pv 0) Zb))))),(Zfi rfl h)⟩
theorem yr (F:ZR K mg "_law_lowest" (top 52) ["_law_top","_law_bottom"]) (B:Blt mg) (c_law_divisor:FnC P w K mg base CX0 1 "_law_divisor" ["_law_one","_law_two"] qM):FnC P w K mg base CX0 2 "_law_lowest" ["_law_top","_law_bottom"] (jm K):=by
 refine F.ok U0 (fun _ _ _ _=>Zd0) (fun f cdv A outer s H vs Q E hr h=>?_);have nd:=U0.nd;exact ⟨Zbl K,(Zd (Zt (i:=2) nd rfl (by walk_at "o") (Zk c_law_divisor hr rfl (Za (pv 0) (Za (pv 1) Zb))))
 (Zg (Zv (Yn (Za (Zo JZ (pv 0) (pv 2)) (Za (Zo JZ (pv 1) (pv 2)) Zb)))))),(Zfh rfl h)⟩
theorem vV (F:ZR K mg "_law_words" (top 53) ["_law_number","_law_many"]) (B:Blt mg)  : FnC P w K mg base CX0 1 "_law_words" ["_law_number","_law_many"] (Ur K):=by
 refine F.ok Gx (fun _ _ _ _=>ZaT) (fun f cdv A outer s H vs Q E hr h=>?_);have nd:=Gx.nd;have hpo:=fun {M A env}=>@PassesOwn.never M A env
 exact ⟨jK K,(Zd (Zt (i:=2) nd rfl (by walk_at "o") Yt)
 (Zd (Zt (i:=3) nd rfl (by walk_at "o") (Yo Zb))
 (Zd (Yw hpo rfl (ZW rfl B.range (Za (pv 1) Zb)) (Zw (i:=4) nd rfl (by walk_at "o"))
 (Zd (Zt (i:=5) nd rfl (by walk_at "o") (ZP ZhI (pv 2) (Zo Z1 (Zo Z2 (pv 0) (Zo Ug Zf (pv 4))) Zf) (fun _ _=>rfl)))
 (Zg (ZM (Yr PySem.F.plainAttrs_list PySem.F.slot_list_append PySem.F.type_list_append Zy (pv 3) (Za (Zo jx (Zo jx (pv 5) (U5 Zgx Yt j6 (Gj (Zo Z1 (Zo Ym (pv 0) Zf) Zf)))) (Zo Zfw (pv 5) (Zo Z1 (Zo Ym (pv 0) Zf) Zf))) Zb))))))
 (Zg (Zv (Yp Yk rfl B.tuple Jb (Za (pv 3) Zb))))))),(ZbC rfl h)⟩
theorem gD (F:ZR K mg "_law_heap" (top 54) ["_law_cell","_law_k","_law_many","_law_top","_law_plain"]) (B:Blt mg) (c_law_mixed:FnC P w K mg base CX0 1 "_law_mixed" ["_law_cell","_law_place"] Jh):FnC P w K mg base CX0 2 "_law_heap" ["_law_cell","_law_k","_law_many","_law_top","_law_plain"] (WW K):=by
 refine F.ok W9 (fun _ _ _ _=>Zck) (fun f cdv A outer s H vs Q E hr h=>?_);have nd:=W9.nd;have hpo:=fun {M A env}=>@PassesOwn.never M A env
 exact ⟨zL K,(Zd (Zt (i:=5) nd rfl (by walk_at "o") (pv 0))
 (Zd (ZS (ZF qP (pv 1) Zf (ZJ _))
 (Zg (Zt (i:=5) nd rfl (by walk_at "o") (Zo Ym (pv 0) Zf)))
 Zx)
 (Zd (Zt (i:=6) nd rfl (by walk_at "o") (Yo Zb))
 (Zd (Yw hpo rfl (ZW rfl B.range (Za (pv 2) Zb)) (Zw (i:=7) nd rfl (by walk_at "o"))
 (Zg (ZS (ZV (pv 4))
 (Zd (ZM (Yr PySem.F.plainAttrs_list PySem.F.slot_list_append PySem.F.type_list_append Zy (pv 6) (Za (Zo Z1 (pv 5) (pv 3)) Zb)))
 (Zg (Zt (i:=5) nd rfl (by walk_at "o") (Zo Ym (pv 5) (pv 3)))))
 (Zg (ZM (Yr PySem.F.plainAttrs_list PySem.F.slot_list_append PySem.F.type_list_append Zy (pv 6) (Za (Zo Z1 (Zk c_law_mixed hr rfl (Za (pv 0) (Za (Zo Z2 (Zo Ug Zf (pv 1)) (pv 7)) Zb))) (pv 3)) Zb)))))))
 (Zg (Zv (Yp Yk rfl B.tuple Jb (Za (pv 6) Zb)))))))),(ZdC rfl h)⟩
theorem gB (F:ZR K mg "_law_pool" (top 55) ["_law_script","_law_at","_law_many","_law_size","_law_top","_law_plain"]) (B:Blt mg) (c_law_heap:FnC P w K mg base CX0 2 "_law_heap" ["_law_cell","_law_k","_law_many","_law_top","_law_plain"] (WW K)) (c_law_cell_at:FnC P w K mg base CX0 2 "_law_cell_at" ["_law_script","_law_k"] (JL K)):FnC P w K mg base CX0 3 "_law_pool" ["_law_script","_law_at","_law_many","_law_size","_law_top","_law_plain"] (WD K):=by
 refine F.ok W8 (fun _ _ _ _=>Zce) (fun f cdv A outer s H vs Q E hr h=>?_);have nd:=W8.nd;have hu:=hr.units;have hpo:=fun {M A env}=>@PassesOwn.never M A env
 exact ⟨zE K,(Zd (Zt (i:=6) nd rfl (by walk_at "o") (Yo Zb))
 (Zd (Yw hpo rfl (ZW rfl B.range (Za (pv 3) Zb)) (Zw (i:=7) nd rfl (by walk_at "o"))
 (Zd (Zt (i:=8) nd rfl (by walk_at "o") (Zk c_law_heap hr rfl (Za (Zk c_law_cell_at hr rfl (Za (pv 0) (Za (Zo Z2 (pv 1) (Zo Z1 (pv 7) Zf)) Zb))) (Za (pv 7) (Za (pv 2) (Za (pv 4) (Za (pv 5) Zb)))))))
 (Zg (ZS (ZF (qm hu) (pv 8) (pv 6) (by with_unfolding_all rfl))
 (Zg (ZM (Yr PySem.F.plainAttrs_list PySem.F.slot_list_append PySem.F.type_list_append Zy (pv 6) (Za (pv 8) Zb))))
 Zx))))
 (Zd (ZS (ZF Jz (Zj Zm rfl B.len Z0 (Za (pv 6) Zb)) Zf (ZJ _))
 (Zg (ZM (Yr PySem.F.plainAttrs_list PySem.F.slot_list_append PySem.F.type_list_append Zy (pv 6) (Za (Yp Yk rfl B.tuple Jb (Za (Jy (M:=["_law_script","_law_at","_law_many","_law_size","_law_top","_law_plain","_law_found","_law_k","_law_heap_here"]) (by show Z8 (Ze (top 55)) ["_law_script","_law_at","_law_many","_law_size","_law_top","_law_plain","_law_found","_law_k","_law_heap_here"] ["_law_script","_law_at","_law_many","_law_size","_law_top","_law_plain","_law_found","_law_k","_law_heap_here"] _ _;walk_at "c") nd rfl (ZW rfl B.range (Za (pv 2) Zb)) (fun _ _ _ _ _=>(Yp Zc3 rfl B.int Zc9 (Za (qj (YB Jz (pv 0) Zf (ZJ _)) (qg (YB Jz (ZP ZQ (ZP Z7 (pv 7) Zf (fun _ _=>rfl)) Zf (fun _ _=>rfl)) Zf (ZJ _)))) Zb)))) Zb)) Zb))))
 Zx)
 (Zg (Zv (pv 6)))))),(Zdv rfl h)⟩
theorem vY (F:ZR K mg "_law_pairs" (top 56) ["_law_script","_law_at","_law_size","_law_kind","_law_plain"]) (B:Blt mg) (c_law_cell_at:FnC P w K mg base CX0 1 "_law_cell_at" ["_law_script","_law_k"] (JL K)) (c_law_mixed:FnC P w K mg base CX0 1 "_law_mixed" ["_law_cell","_law_place"] Jh):FnC P w K mg base CX0 2 "_law_pairs" ["_law_script","_law_at","_law_size","_law_kind","_law_plain"] (Uv K):=by
 refine F.ok Gz (fun _ _ _ _=>ZaX) (fun f cdv A outer s H vs Q E hr h=>?_);have nd:=Gz.nd;have hu:=hr.units;have hpo:=fun {M A env}=>@PassesOwn.never M A env
 exact ⟨jO K,(Zd (Zt (i:=5) nd rfl (by walk_at "o") (Yo Zb))
 (Zd (Yw hpo rfl (ZW rfl B.range (Za (pv 2) Zb)) (Zw (i:=6) nd rfl (by walk_at "o"))
 (Zd (Zt (i:=7) nd rfl (by walk_at "o") (Zo Z1 (Zo Z2 (pv 6) Zf) (pv 2)))
 (Zd (ZS (PW.pt (pw_and (ZF Jz (pv 3) Zf (ZJ _)) (pw_and1 (ZF qP (pv 2) Zf (ZJ _)))))
 (Zg (ZM (Yr PySem.F.plainAttrs_list PySem.F.slot_list_append PySem.F.type_list_append Zy (pv 5) (Za (Yn (Za (pv 6) (Za (Zo Z2 (Zo Ug (Zo Ym (pv 6) Zf) Zf) (Zo Z1 (Zo Z2 (pv 6) Zf) Zf)) Zb))) Zb))))
 (Zg (ZS (ZF qP (pv 3) Zf (ZJ _))
 (Zg (ZM (Yr PySem.F.plainAttrs_list PySem.F.slot_list_append PySem.F.type_list_append Zy (pv 5) (Za (Yn (Za (pv 6) (Za (pv 7) Zb))) Zb))))
 Zx)))
 (Zg (ZS (ZF Jz (pv 3) Zf (ZJ _))
 (Zg (ZM (Yr PySem.F.plainAttrs_list PySem.F.slot_list_append PySem.F.type_list_append Zy (pv 5) (Za (Yn (Za (pv 7) (Za (pv 6) Zb))) Zb))))
 Zx)))))
 (Zd (Yw hpo rfl (ZW rfl B.range (Za Zf Zb)) (Zw (i:=6) nd rfl (by walk_at "o"))
 (Zd (Zt (i:=8) nd rfl (by walk_at "o") (Zk c_law_cell_at hr rfl (Za (pv 0) (Za (Zo Z2 (pv 1) (pv 6)) Zb))))
 (Zg (ZS (PW.pt (pw_or (ZF Jz (pv 3) Zf (ZJ _)) (pw_or1 (ZF Jz (Zo Z1 (pv 8) Zf) Zf (ZJ _)))))
 (Zd (Zt (i:=9) nd rfl (by walk_at "o") (Zo Z1 (Zk c_law_mixed hr rfl (Za (pv 8) (Za Zf Zb))) (pv 2)))
 (Zd (Zt (i:=10) nd rfl (by walk_at "o") (Zo Z1 (Zk c_law_mixed hr rfl (Za (pv 8) (Za Zf Zb))) (Zo ql (pv 2) Zf)))
 (Zd (ZS (ZV (pv 4))
 (Zd (Zt (i:=9) nd rfl (by walk_at "o") (Zo Z1 (Zo Z1 (Zo Ym (pv 8) Zf) Zf) (pv 2)))
 (Zg (Zt (i:=10) nd rfl (by walk_at "o") (Zo Z1 (Zo Z1 (Zo Ym (pv 8) Zf) Zf) (Zo ql (pv 2) Zf)))))
 Zx)
 (Zg (ZM (Yr PySem.F.plainAttrs_list PySem.F.slot_list_append PySem.F.type_list_append Zy (pv 5) (Za (Yn (Za (pv 9) (Za (Zo Z1 (Zo Z2 (Zo Z2 (pv 9) Zf) (pv 10)) (pv 2)) Zb))) Zb)))))))
 Zx))))
 (Zd (Zt (i:=11) nd rfl (by walk_at "o") (Yo Zb))
 (Zd (Yw hpo rfl (YW (pv 5)) (Y0 rfl (ZC (Zw (i:=9) nd rfl (by walk_at "o")) (ZC (Zw (i:=12) nd rfl (by walk_at "o")) Yl)))
 (Zg (ZS (PW.pt (pw_and (ZF (qm hu) (Yn (Za (pv 9) (Za (pv 12) Zb))) (pv 11) (by with_unfolding_all rfl)) (pw_and (ZF j_ (pv 12) (pv 2) (ZJ _)) (pw_and1 (ZF j_ (Zj Zm rfl B.len Z0 (Za (pv 11) Zb)) Zf (ZJ _))))))
 (Zg (ZM (Yr PySem.F.plainAttrs_list PySem.F.slot_list_append PySem.F.type_list_append Zy (pv 11) (Za (Yn (Za (pv 9) (Za (pv 12) Zb))) Zb))))
 Zx)))
 (Zg (Zv (pv 11)))))))),(ZbG rfl h)⟩
theorem gC (F:ZR K mg "_law_pace" (top 57) ["_law_cell","_law_kind"]) (B:Blt mg) (c_law_lowest:FnC P w K mg base CX0 2 "_law_lowest" ["_law_top","_law_bottom"] (jm K)):FnC P w K mg base CX0 3 "_law_pace" ["_law_cell","_law_kind"] (WK K):=by
 refine F.ok zW (fun _ _ _ _=>Zcf) (fun f cdv A outer s H vs Q E hr h=>?_);exact ⟨zF K,(Zd (ZS (ZF Jz (pv 1) Zf (ZJ _))
 (Zg (Zv (Yn (Za Zf (Za Zf Zb)))))
 Zx)
 (Zd (ZS (ZF Jz (pv 1) Zf (ZJ _))
 (Zg (Zv (Zk c_law_lowest hr rfl (Za (Zo Z2 Zf (Zo Z1 (pv 0) Zf)) (Za (Zo Z2 Zf (Zo Z1 (Zo Ym (pv 0) Zf) Zf)) Zb)))))
 Zx)
 (Zg (Zv (Zk c_law_lowest hr rfl (Za (Zo Z2 Zf (Zo Z1 (pv 0) (Zo ju Zf Zf))) (Za (Zo Z2 Zf (Zo Z1 (Zo Ym (pv 0) (Zo ju Zf Zf)) (Zo ju Zf Zf))) Zb))))))),(Zdw rfl h)⟩
theorem yq (F:ZR K mg "_law_vessel" (top 58) ["_law_script","_law_at"]) (B:Blt mg) (c_law_mixed:FnC P w K mg base CX0 3 "_law_mixed" ["_law_cell","_law_place"] Jh) (c_law_pool:FnC P w K mg base CX0 3 "_law_pool" ["_law_script","_law_at","_law_many","_law_size","_law_top","_law_plain"] (WD K)) (c_law_pairs:FnC P w K mg base CX0 3 "_law_pairs" ["_law_script","_law_at","_law_size","_law_kind","_law_plain"] (Uv K)) (c_law_cell_at:FnC P w K mg base CX0 3 "_law_cell_at" ["_law_script","_law_k"] (JL K)) (c_law_words:FnC P w K mg base CX0 3 "_law_words" ["_law_number","_law_many"] (Ur K)) (c_law_pace:FnC P w K mg base CX0 3 "_law_pace" ["_law_cell","_law_kind"] (WK K)):FnC P w K mg base CX0 4 "_law_vessel" ["_law_script","_law_at"] (vf K):=by
 refine F.ok UW (fun _ _ _ _=>ZdU) (fun f cdv A outer s H vs Q E hr h=>?_);have nd:=UW.nd;have hpo:=fun {M A env}=>@PassesOwn.never M A env
 exact ⟨Zbf K,(Zd (Zt (i:=2) nd rfl (by walk_at "o") (Zk c_law_mixed hr rfl (Za (Zk c_law_cell_at hr rfl (Za (pv 0) (Za (pv 1) Zb))) (Za Zf Zb))))
 (Zd (Zt (i:=3) nd rfl (by walk_at "o") (Zo Z2 Zf (Zo Z1 (pv 2) Zf)))
 (Zd (Zt (i:=4) nd rfl (by walk_at "o") (Zo Z2 Zf (Zo Z1 (Zo Ym (pv 2) Zf) Zf)))
 (Zd (Zt (i:=5) nd rfl (by walk_at "o") (YB Jz (Zo Z1 (Zo Ym (pv 2) Zf) Zf) Zf (ZJ _)))
 (Zd (Zt (i:=6) nd rfl (by walk_at "o") (Zk c_law_pool hr rfl (Za (pv 0) (Za (Zo Z2 (pv 1) Zf) (Za (pv 3) (Za (Zo Z2 Zf (Zo Z1 (Zo Ym (pv 2) Zf) Zf)) (Za (pv 4) (Za (pv 5) Zb))))))))
 (Zd (Zt (i:=7) nd rfl (by walk_at "o") (Zk c_law_pairs hr rfl (Za (pv 0) (Za (Zo Z2 (pv 1) Zf) (Za (Zj Zm rfl B.len Z0 (Za (pv 6) Zb)) (Za (Zo Z1 (Zo Ym (pv 2) Zf) Zf) (Za (pv 5) Zb)))))))
 (Zd (Zt (i:=8) nd rfl (by walk_at "o") (Yo Zb))
 (Zd (Yw hpo rfl (ZW rfl B.range (Za (Zj Zm rfl B.len Z0 (Za (pv 7) Zb)) Zb)) (Zw (i:=9) nd rfl (by walk_at "o"))
 (Zd (Zt (i:=10) nd rfl (by walk_at "o") (Zk c_law_cell_at hr rfl (Za (pv 0) (Za (Zo Z2 (Zo Z2 (pv 1) Zf) (pv 9)) Zb))))
 (Zd (uU (ZP Z7 (pv 7) (pv 9) (fun _ _=>rfl)) (Y0 rfl (ZC (Zw (i:=11) nd rfl (by walk_at "o")) (ZC (Zw (i:=12) nd rfl (by walk_at "o")) Yl))))
 (Zg (ZM (Yr PySem.F.plainAttrs_list PySem.F.slot_list_append PySem.F.type_list_append Zy (pv 8) (Za (Yn (Za (ZP Z7 (pv 6) (pv 11) (fun _ _=>rfl)) (Za (ZP Z7 (pv 6) (pv 12) (fun _ _=>rfl)) (Za (Zk c_law_pace hr rfl (Za (Zo Ym (pv 10) Zf) (Za (Zo Z1 (Zo Ym (pv 2) Zf) Zf) Zb))) Zb)))) Zb)))))))
 (Zg (Zv (Yn (Za (Zk c_law_words hr rfl (Za (Zo Ym (pv 2) Zf) (Za (pv 3) Zb))) (Za (Yp Yk rfl B.tuple Jb (Za (pv 8) Zb)) Zb))))))))))))),(Zfb rfl h)⟩
theorem vW (F:ZR K mg "_law_whole" (top 59) ["_law_found"]) (B:Blt mg)  : FnC P w K mg base CX0 1 "_law_whole" ["_law_found"] Jp:=by
 refine F.ok vI (fun _ _ _ _=>Fv) (fun f cdv A outer s H vs Q E hr h=>?_);exact ⟨Zbo K,(Zg (Zv (qj (Zj Jv rfl B.isinstance Zr (Za (pv 0) (Za (JQ rfl B.int Zc9 rfl) Zb))) (qg (ZbT (Zj Jv rfl B.isinstance Zr (Za (pv 0) (Za (JQ rfl B.bool uw rfl) Zb)))))))),(by obtain ⟨i,rfl,k⟩:=h;exact uP k)⟩
theorem qY (F:ZR K mg "_law_changes" (top 60) ["_law_vessel_here"]) (B:Blt mg)  : FnC P w K mg base CX0 1 "_law_changes" ["_law_vessel_here"] (Y7 K):=by
 refine F.ok Ub (fun _ _ _ _=>gZ) (fun f cdv A outer s H vs Q E hr h=>?_);have nd:=Ub.nd;have hpo:=fun {M A env}=>@PassesOwn.never M A env
 exact ⟨zJ K,(Zd (Zt (i:=1) nd rfl (by walk_at "o") (Yo Zb))
 (Zd (Yw hpo rfl (GQ (ZP ZQ (pv 0) Zf (fun _ _=>rfl))) (Y0 rfl (ZC (Zw (i:=2) nd rfl (by walk_at "o")) (ZC (Zw (i:=3) nd rfl (by walk_at "o")) (ZC (Zw (i:=4) nd rfl (by walk_at "o")) Yl))))
 (Zg (ZM (Yr PySem.F.plainAttrs_list PySem.F.slot_list_append PySem.F.type_list_append Zy (pv 1) (Za (jt ["_law_one","_law_two"] ["_law_vessel_here","_law_found","_law_take","_law_give","_law_pace_here"] (by show Z8 (Ze (top 60)) ["_law_vessel_here","_law_found","_law_take","_law_give","_law_pace_here"] ["_law_vessel_here","_law_found","_law_take","_law_give","_law_pace_here"] _ _;walk_at "c") rfl (U4 (k1:=.T) (k2:=.T) rfl B.zip (Za (pv 2) (Za (pv 3) Zb))) (fun _ _ _ _ _=>(Y0 rfl (ZC (Zw (i:=0) (show (["_law_one","_law_two","_law_vessel_here","_law_found","_law_take","_law_give","_law_pace_here"]:List Str).Nodup by decide +kernel) rfl (by walk_at "o")) (ZC (Zw (i:=1) (show (["_law_one","_law_two","_law_vessel_here","_law_found","_law_take","_law_give","_law_pace_here"]:List Str).Nodup by decide +kernel) rfl (by walk_at "o")) Yl)))) (fun _ _ _ _ _=>(Zo ql (pv 1) (pv 0)))) Zb)))))
 (Zg (Zv (pv 1))))),(Zdz rfl h)⟩
theorem qX (F:ZR K mg "_law_come_to" (top 61) ["_law_vessel_here","_law_often"]) (B:Blt mg) (c_law_changes:FnC P w K mg base CX0 1 "_law_changes" ["_law_vessel_here"] (Y7 K)):FnC P w K mg base CX0 2 "_law_come_to" ["_law_vessel_here","_law_often"] (Ux K):=by
 refine F.ok Ua (fun _ _ _ _=>ZaZ) (fun f cdv A outer s H vs Q E hr h=>?_);have nd:=Ua.nd;exact ⟨jQ K,(Zd (Zt (i:=2) nd rfl (by walk_at "o") (Zk c_law_changes hr rfl (Za (pv 0) Zb)))
 (Zg (Zv (ZgS ["_law_stuff"] ["_law_vessel_here","_law_often","_law_rows"] (by show jF (Ze (top 61)) ["_law_vessel_here","_law_often","_law_rows"] ["_law_vessel_here","_law_often","_law_rows"] _ _;walk_at "k") rfl (ZW rfl B.range (Za (Zj Zm rfl B.len Z0 (Za (ZP ZQ (pv 0) Zf (fun _ _=>rfl)) Zb)) Zb)) (fun _ _ _ _ _=>(Zw (i:=0) (show (["_law_stuff","_law_vessel_here","_law_often","_law_rows"]:List Str).Nodup by decide +kernel) rfl (by walk_at "o"))) (fun _ _ _ _ _=>(Zj (kW rfl) rfl B.sum ZeX (Za (Jy (M:=["_law_stuff","_law_vessel_here","_law_often","_law_rows"]) (by show Z8 (relC _ (Ze (top 61))) ["_law_stuff","_law_vessel_here","_law_often","_law_rows"] ["_law_stuff","_law_vessel_here","_law_often","_law_rows"] _ _;walk_at "c") (show (["_law_stuff","_law_vessel_here","_law_often","_law_rows"]:List Str).Nodup by decide +kernel) rfl (ZW rfl B.range (Za (Zj Zm rfl B.len Z0 (Za (pv 3) Zb)) Zb)) (fun _ _ _ _ _=>(Zo Ug (ZP Z7 (pv 3) (pv 0) (fun _ _=>rfl)) (ZP Z7 (ZP Z7 (pv 4) (pv 0) (fun _ _=>rfl)) (pv 1) (fun _ _=>rfl))))) Zb))))))),(ZbJ rfl h)⟩
theorem qT (F:ZR K mg "_law_numbers" (top 62) ["_law_found","_law_width","_law_low"]) (B:Blt mg) (c_law_whole:FnC P w K mg base CX0 1 "_law_whole" ["_law_found"] Jp):FnC P w K mg base CX0 2 "_law_numbers" ["_law_found","_law_width","_law_low"] (jl K):=by
 refine F.ok J8 (fun _ _ _ _=>ZdX) (fun f cdv A outer s H vs Q E hr h=>?_);have nd:=J8.nd;exact ⟨Zbi K,(Zd (ZS (PW.pt (pw_or (YZ (ZV (Zj Jv rfl B.isinstance Zr (Za (pv 0) (Za (JQ rfl B.list qJ rfl) Zb))))) (pw_or (ZF ZbZ (Zj Zm rfl B.len Z0 (Za (pv 0) Zb)) (pv 1) (ZJ _)) (pw_or1 (YZ (ZV (Zj (Wb rfl) rfl B.all Zau (Za (Jy (M:=["_law_found","_law_width","_law_low"]) (by show Z8 (Ze (top 62)) ["_law_found","_law_width","_law_low"] ["_law_found","_law_width","_law_low"] _ _;walk_at "c") nd rfl (YW (pv 0)) (fun _ _ _ _ _=>(Zk c_law_whole hr rfl (Za (pv 0) Zb)))) Zb))))))))
 (Zg (Zv U6))
 Zx)
 (Zg (Zv (qj (YB Zh7 (Zj (qI rfl) rfl B.min Zc8 (Za (pv 0) Zb)) (pv 2) (ZJ _)) (qg (YB j_ (Zj (kY rfl) rfl B.max ZeY (Za (Jy (M:=["_law_found","_law_width","_law_low"]) (by show Z8 (Ze (top 62)) ["_law_found","_law_width","_law_low"] ["_law_found","_law_width","_law_low"] _ _;walk_at "c") nd rfl (YW (pv 0)) (fun _ _ _ _ _=>(Zj yO rfl B.abs Zc_ (Za (pv 0) Zb)))) Zb)) (Zo ju Zf Zf) (ZJ _))))))),(Zfe rfl h)⟩
theorem gw (F:ZR K mg "_law_told" (top 63) ["_law_found"]) (B:Blt mg)  : FnC P w K mg base CX0 1 "_law_told" ["_law_found"] (vg K):=by
 refine F.ok zV (fun _ _ _ _=>ZdV) (fun f cdv A outer s H vs Q E hr h=>?_);exact ⟨Zbg K,(Zg (Zv (qj (Zj Jv rfl B.isinstance Zr (Za (pv 0) (Za (JQ rfl B.tuple Jb rfl) Zb))) (qj (YB Jz (Zj Zm rfl B.len Z0 (Za (pv 0) Zb)) Zf (ZJ _)) (qg (Zj Jv rfl B.isinstance Zr (Za (ZP ZQ (pv 0) Zf (fun _ _=>rfl)) (Za (JQ rfl B.bool uw rfl) Zb)))))))),(Zfc rfl h)⟩
theorem vU (F:ZR K mg "_law_worth" (top 64) ["_law_row","_law_moved"]) (B:Blt mg)  : FnC P w K mg base CX0 1 "_law_worth" ["_law_row","_law_moved"] (Uq K):=by
 refine F.ok vH (fun _ _ _ _=>ZaS) (fun f cdv A outer s H vs Q E hr h=>?_);exact ⟨jJ K,(Zg (Zv (Zj (kW rfl) rfl B.sum ZeX (Za (jt ["_law_one","_law_two"] ["_law_row","_law_moved"] (by show Z8 (Ze (top 64)) ["_law_row","_law_moved"] ["_law_row","_law_moved"] _ _;walk_at "c") rfl (U4 (k1:=.L) (k2:=.L) rfl B.zip (Za (pv 0) (Za (pv 1) Zb))) (fun _ _ _ _ _=>(Y0 rfl (ZC (Zw (i:=0) (show (["_law_one","_law_two","_law_row","_law_moved"]:List Str).Nodup by decide +kernel) rfl (by walk_at "o")) (ZC (Zw (i:=1) (show (["_law_one","_law_two","_law_row","_law_moved"]:List Str).Nodup by decide +kernel) rfl (by walk_at "o")) Yl)))) (fun _ _ _ _ _=>(Zo Ug (pv 0) (pv 1)))) Zb)))),(ZbB rfl h)⟩
theorem gA (F:ZR K mg "_law_sets" (top 66) ["_law_many"]) (B:Blt mg)  : FnC P w K mg base CX0 1 "_law_sets" ["_law_many"] (WQ K):=by
 refine F.ok W7 (fun _ _ _ _=>Zch) (fun f cdv A outer s H vs Q E hr h=>?_);have nd:=W7.nd;have hpo:=fun {M A env}=>@PassesOwn.never M A env
 exact ⟨zH K,(Zd (Zt (i:=1) nd rfl (by walk_at "o") (Yo Zb))
 (Zd (Yw hpo rfl (vL rfl B.range (Za Zf (Za (Zo Z2 (pv 0) Zf) Zb))) (Zw (i:=2) nd rfl (by walk_at "o"))
 (Zd (Zt (i:=3) nd rfl (by walk_at "o") (Yo Zb))
 (Zd (Yw hpo rfl (ZW rfl B.range (Za (Zo ZgY Zf (pv 0)) Zb)) (Zw (i:=4) nd rfl (by walk_at "o"))
 (Zd (Zt (i:=5) nd rfl (by walk_at "o") (Yp Yk rfl B.tuple Jb (Za (uW ["_law_k"] ["_law_many","_law_found","_law_size","_law_some","_law_bits","_law_names"] (by show Z8 (Ze (top 66)) ["_law_many","_law_found","_law_size","_law_some","_law_bits","_law_names"] ["_law_many","_law_found","_law_size","_law_some","_law_bits","_law_names"] _ _;walk_at "c") rfl (ZW rfl B.range (Za (pv 0) Zb)) (fun _ _ _ _ _=>(Zw (i:=0) (show (["_law_k","_law_many","_law_found","_law_size","_law_some","_law_bits","_law_names"]:List Str).Nodup by decide +kernel) rfl (by walk_at "o"))) (fun _ _ _ _ _=>(ZF Jz (Zo Zg1 (Zo ZgX (pv 5) (pv 0)) Zf) Zf (ZJ _))) (fun _ _ _ _ _=>(pv 0))) Zb)))
 (Zg (ZS (ZF Jz (Zj Zm rfl B.len Z0 (Za (pv 5) Zb)) (pv 2) (ZJ _))
 (Zg (ZM (Yr PySem.F.plainAttrs_list PySem.F.slot_list_append PySem.F.type_list_append Zy (pv 3) (Za (pv 5) Zb))))
 Zx))))
 (Zg (Zt (i:=1) nd rfl (by walk_at "o") (Zo jw (pv 1) (Zj Za9 rfl B.sorted Zc7 (Za (pv 3) Zb))))))))
 (Zg (Zv (pv 1))))),(Zdy rfl h)⟩
theorem qQ (F:ZR K mg "_law_touches" (top 67) ["_law_heap_here","_law_some"]) (B:Blt mg)  : FnC P w K mg base CX0 1 "_law_touches" ["_law_heap_here","_law_some"] (Jf K):=by
 refine F.ok qN (fun _ _ _ _=>gO) (fun f cdv A outer s H vs Q E hr h=>?_);exact ⟨Wj K,(Zg (Zv (YB qP (Zj Zm rfl B.len Z0 (Za (uW ["_law_stuff"] ["_law_heap_here","_law_some"] (by show Z8 (Ze (top 67)) ["_law_heap_here","_law_some"] ["_law_heap_here","_law_some"] _ _;walk_at "c") rfl (GQ (pv 1)) (fun _ _ _ _ _=>(Zw (i:=0) (show (["_law_stuff","_law_heap_here","_law_some"]:List Str).Nodup by decide +kernel) rfl (by walk_at "o"))) (fun _ _ _ _ _=>(ZF qP (ZP ZQ (pv 1) (pv 0) (fun _ _=>rfl)) Zf (ZJ _))) (fun _ _ _ _ _=>(pv 0))) Zb)) Zf (ZJ _)))),(ZaF rfl h)⟩
theorem Fd (F:ZR K mg "_law_holds" (top 68) ["_law_vessel_here","_law_some","_law_first","_law_second"]) (B:Blt mg) (c_law_touches:FnC P w K mg base CX0 1 "_law_touches" ["_law_heap_here","_law_some"] (Jf K)):FnC P w K mg base CX0 2 "_law_holds" ["_law_vessel_here","_law_some","_law_first","_law_second"] (WT K):=by
 refine F.ok GF (fun _ _ _ _=>Zcj) (fun f cdv A outer s H vs Q E hr h=>?_);have nd:=GF.nd;have hpo:=fun {M A env}=>@PassesOwn.never M A env
 exact ⟨zK K,(Zd (Yw hpo rfl (GQ (ZP ZQ (pv 0) Zf (fun _ _=>rfl))) (Zw (i:=4) nd rfl (by walk_at "o"))
 (Zg (ZS (PW.pt (pw_and (ZV (Zk c_law_touches hr rfl (Za (ZP ZQ (pv 4) (pv 2) (fun _ _=>rfl)) (Za (pv 1) Zb)))) (pw_and1 (YZ (ZV (Zk c_law_touches hr rfl (Za (ZP ZQ (pv 4) (pv 3) (fun _ _=>rfl)) (Za (pv 1) Zb))))))))
 (Zg (Zv U6))
 Zx)))
 (Zg (Zv U6))),(ZdB rfl h)⟩
theorem Fb {x:Ex0.Ad} (T:Exs K mg x) (F:ZR K mg "_law_kinds" (top 70) ["_law_e"]) (B:Blt mg)  : FnC P w K mg base CX0 1 "_law_kinds" ["_law_e"] (WR x):=by
 refine F.ok GD (fun _ _ _ _=>Zci) (fun f cdv A outer s H vs Q E hr h=>?_);have nd:=GD.nd;exact ⟨Ex0.Zbq K x,(Zd (Zt (i:=1) nd rfl (by walk_at "o") (Yo Zb))
 (Zd (ZS (ZV (Zj Z4 rfl B.isinstance Zr (Za (pv 0) (Za (Yx rfl T.m0 rfl) Zb))))
 (Zg (ZM (Yr PySem.F.plainAttrs_list PySem.F.slot_list_append PySem.F.type_list_append Zy (pv 1) (Za Yt Zb))))
 Zx)
 (Zd (ZS (ZV (Zj Z4 rfl B.isinstance Zr (Za (pv 0) (Za (Yx rfl T.m1 rfl) Zb))))
 (Zg (ZM (Yr PySem.F.plainAttrs_list PySem.F.slot_list_append PySem.F.type_list_append Zy (pv 1) (Za Yt Zb))))
 Zx)
 (Zd (ZS (ZV (Zj Z4 rfl B.isinstance Zr (Za (pv 0) (Za (Yx rfl T.m2 rfl) Zb))))
 (Zg (ZM (Yr PySem.F.plainAttrs_list PySem.F.slot_list_append PySem.F.type_list_append Zy (pv 1) (Za Yt Zb))))
 Zx)
 (Zd (ZS (ZV (Zj Z4 rfl B.isinstance Zr (Za (pv 0) (Za (Yx rfl T.m3 rfl) Zb))))
 (Zg (ZM (Yr PySem.F.plainAttrs_list PySem.F.slot_list_append PySem.F.type_list_append Zy (pv 1) (Za Yt Zb))))
 Zx)
 (Zd (ZS (ZV (Zj Z4 rfl B.isinstance Zr (Za (pv 0) (Za (Yx rfl T.m4 rfl) Zb))))
 (Zg (ZM (Yr PySem.F.plainAttrs_list PySem.F.slot_list_append PySem.F.type_list_append Zy (pv 1) (Za Yt Zb))))
 Zx)
 (Zd (ZS (ZV (Zj Z4 rfl B.isinstance Zr (Za (pv 0) (Za (Yx rfl T.m5 rfl) Zb))))
 (Zg (ZM (Yr PySem.F.plainAttrs_list PySem.F.slot_list_append PySem.F.type_list_append Zy (pv 1) (Za Yt Zb))))
 Zx)
 (Zd (ZS (ZV (Zj Z4 rfl B.isinstance Zr (Za (pv 0) (Za (Yx rfl T.m6 rfl) Zb))))
 (Zg (ZM (Yr PySem.F.plainAttrs_list PySem.F.slot_list_append PySem.F.type_list_append Zy (pv 1) (Za Yt Zb))))
 Zx)
 (Zd (ZS (ZV (Zj Z4 rfl B.isinstance Zr (Za (pv 0) (Za (Yx rfl T.m7 rfl) Zb))))
 (Zg (ZM (Yr PySem.F.plainAttrs_list PySem.F.slot_list_append PySem.F.type_list_append Zy (pv 1) (Za Yt Zb))))
 Zx)
 (Zd (ZS (ZV (Zj Z4 rfl B.isinstance Zr (Za (pv 0) (Za (Yx rfl T.m8 rfl) Zb))))
 (Zg (ZM (Yr PySem.F.plainAttrs_list PySem.F.slot_list_append PySem.F.type_list_append Zy (pv 1) (Za Yt Zb))))
 Zx)
 (Zd (ZS (ZV (Zj Z4 rfl B.isinstance Zr (Za (pv 0) (Za (Yx rfl T.m9 rfl) Zb))))
 (Zg (ZM (Yr PySem.F.plainAttrs_list PySem.F.slot_list_append PySem.F.type_list_append Zy (pv 1) (Za Yt Zb))))
 Zx)
 (Zd (ZS (ZV (Zj Z4 rfl B.isinstance Zr (Za (pv 0) (Za (Yx rfl T.m10 rfl) Zb))))
 (Zg (ZM (Yr PySem.F.plainAttrs_list PySem.F.slot_list_append PySem.F.type_list_append Zy (pv 1) (Za Yt Zb))))
 Zx)
 (Zd (ZS (ZV (Zj Z4 rfl B.isinstance Zr (Za (pv 0) (Za (Yx rfl T.m11 rfl) Zb))))
 (Zg (ZM (Yr PySem.F.plainAttrs_list PySem.F.slot_list_append PySem.F.type_list_append Zy (pv 1) (Za Yt Zb))))
 Zx)
 (Zd (ZS (ZV (Zj Z4 rfl B.isinstance Zr (Za (pv 0) (Za (Yx rfl T.m12 rfl) Zb))))
 (Zg (ZM (Yr PySem.F.plainAttrs_list PySem.F.slot_list_append PySem.F.type_list_append Zy (pv 1) (Za Yt Zb))))
 Zx)
 (Zd (ZS (ZV (Zj Z4 rfl B.isinstance Zr (Za (pv 0) (Za (Yx rfl T.m13 rfl) Zb))))
 (Zg (ZM (Yr PySem.F.plainAttrs_list PySem.F.slot_list_append PySem.F.type_list_append Zy (pv 1) (Za Yt Zb))))
 Zx)
 (Zd (ZS (YZ (ZV (Zj Z4 rfl B.isinstance Zr (Za (pv 0) (Za (JQ rfl T.mv yR rfl) Zb)))))
 (Zg (ZM (Yr PySem.F.plainAttrs_list PySem.F.slot_list_append PySem.F.type_list_append Zy (pv 1) (Za Yt Zb))))
 Zx)
 (Zg (Zv (pv 1))))))))))))))))))),(ZdA T rfl h)⟩
theorem qR {x:Ex0.Ad} (T:Exs K mg x) (F:ZR K mg "_law_refused" (top 71) ["_law_vessel_here","_law_some"]) (B:Blt mg) (c_guard:FnC P w K mg base (CXE P w) 7 "guard" ["vessel","drain"] (JK K x.c9)) (c_law_kinds:FnC P w K mg base CX0 7 "_law_kinds" ["_law_e"] (WR x)):FnC P w K mg base CX0 8 "_law_refused" ["_law_vessel_here","_law_some"] (Jg K):=by
 refine F.ok J7 (fun _ _ _ _=>gQ) (fun f cdv A outer s H vs Q E hr h=>?_);have nd:=J7.nd;have hu:=hr.units;have own:GZ (cxOf CX0 P w K mg base ["_law_vessel_here","_law_some","_law_caught","_law_e"] "_law_refused" (Ze (top 71)) f cdv A outer s H E).nox:=⟨rfl,rfl,rfl⟩
 exact ⟨Wm K x,(Zd (Zt (i:=2) nd rfl (by walk_at "o") GR)
 (Zd (Zfr (n:=3) (y:=2) c_guard hr own rfl (Za (pv 0) (Za (pv 1) Zb)) rfl T.v nd rfl rfl rfl rfl)
 (Zg (Zv (qj (YB ZbY (pv 2) GR (ZJ _)) (qg (YB (Zg0 hu) (Zk c_law_kinds hr rfl (Za (pv 2) Zb)) (Yo (Za Yt Zb)) (ZJ _)))))))),(ZaH T rfl h)⟩
theorem vX (F:ZR K mg "_law_right" (top 72) ["_law_vessel_here","_law_some","_law_found"]) (B:Blt mg) (c_law_told:FnC P w K mg base CX0 2 "_law_told" ["_law_found"] (vg K)) (c_law_come_to:FnC P w K mg base CX0 2 "_law_come_to" ["_law_vessel_here","_law_often"] (Ux K)) (c_law_numbers:FnC P w K mg base CX0 2 "_law_numbers" ["_law_found","_law_width","_law_low"] (jl K)) (c_law_changes:FnC P w K mg base CX0 2 "_law_changes" ["_law_vessel_here"] (Y7 K)) (c_law_worth:FnC P w K mg base CX0 2 "_law_worth" ["_law_row","_law_moved"] (Uq K)):FnC P w K mg base CX0 3 "_law_right" ["_law_vessel_here","_law_some","_law_found"] (Wz K):=by
 refine F.ok Gy (fun _ _ _ _=>Zcd) (fun f cdv A outer s H vs Q E hr h=>?_);have nd:=Gy.nd;exact ⟨zB K,(Zd (ZS (YZ (ZV (Zk c_law_told hr rfl (Za (pv 2) Zb))))
 (Zg (Zv U6))
 Zx)
 (Zd (ZS (YZ (ZV (ZP ZQ (pv 2) Zf (fun _ _=>rfl))))
 (Zd (ZS (YZ (ZV (Zk c_law_numbers hr rfl (Za (ZP ZQ (pv 2) Zf (fun _ _=>rfl)) (Za (Zj Zm rfl B.len Z0 (Za (ZP ZQ (pv 0) Zf (fun _ _=>rfl)) Zb)) (Za (j7 Uo (Zo ju Zf Zf)) Zb))))))
 (Zg (Zv U6))
 Zx)
 (Zd (Zt (i:=3) nd rfl (by walk_at "o") (Zk c_law_come_to hr rfl (Za (pv 0) (Za (ZP ZQ (pv 2) Zf (fun _ _=>rfl)) Zb))))
 (Zg (Zv (YB qP (Zj (qI rfl) rfl B.min Zc8 (Za (Jy (M:=["_law_vessel_here","_law_some","_law_found","_law_moved"]) (by show Z8 (Ze (top 72)) ["_law_vessel_here","_law_some","_law_found","_law_moved"] ["_law_vessel_here","_law_some","_law_found","_law_moved"] _ _;walk_at "c") nd rfl (GQ (pv 1)) (fun _ _ _ _ _=>(ZP Z7 (pv 4) (pv 0) (fun _ _=>rfl)))) Zb)) Zf (ZJ _))))))
 Zx)
 (Zd (ZS (PW.pt (pw_or (YZ (ZV (Zk c_law_numbers hr rfl (Za (ZP ZQ (pv 2) Zf (fun _ _=>rfl)) (Za (Zj Zm rfl B.len Z0 (Za (ZP ZQ (pv 0) Zf (fun _ _=>rfl)) Zb)) (Za Zf Zb)))))) (pw_or1 (ZF Jz (Zj (kY rfl) rfl B.max ZeY (Za (ZP ZQ (pv 2) Zf (fun _ _=>rfl)) Zb)) Zf (ZJ _)))))
 (Zg (Zv U6))
 Zx)
 (Zd (ZS (ZF qP (Zj Zm rfl B.len Z0 (Za (uW ["_law_k"] ["_law_vessel_here","_law_some","_law_found","_law_moved"] (by show Z8 (Ze (top 72)) ["_law_vessel_here","_law_some","_law_found","_law_moved"] ["_law_vessel_here","_law_some","_law_found","_law_moved"] _ _;walk_at "c") rfl (ZW rfl B.range (Za (Zj Zm rfl B.len Z0 (Za (ZP ZQ (pv 2) Zf (fun _ _=>rfl)) Zb)) Zb)) (fun _ _ _ _ _=>(Zw (i:=0) (show (["_law_k","_law_vessel_here","_law_some","_law_found","_law_moved"]:List Str).Nodup by decide +kernel) rfl (by walk_at "o"))) (fun _ _ _ _ _=>(PW.pt (pw_and (ZF qP (ZP Z7 (ZP ZQ (pv 3) Zf (fun _ _=>rfl)) (pv 0) (fun _ _=>rfl)) Zf (ZJ _)) (pw_and1 (ZF vO (pv 0) (pv 2) (by with_unfolding_all rfl)))))) (fun _ _ _ _ _=>(pv 0))) Zb)) Zf (ZJ _))
 (Zg (Zv U6))
 Zx)
 (Zg (Zv (YB Jz (Zj Zm rfl B.len Z0 (Za (uW ["_law_row"] ["_law_vessel_here","_law_some","_law_found","_law_moved"] (by show Z8 (Ze (top 72)) ["_law_vessel_here","_law_some","_law_found","_law_moved"] ["_law_vessel_here","_law_some","_law_found","_law_moved"] _ _;walk_at "c") rfl (YW (Zk c_law_changes hr rfl (Za (pv 0) Zb))) (fun _ _ _ _ _=>(Zw (i:=0) (show (["_law_row","_law_vessel_here","_law_some","_law_found","_law_moved"]:List Str).Nodup by decide +kernel) rfl (by walk_at "o"))) (fun _ _ _ _ _=>(ZF ZbZ (Zk c_law_worth hr rfl (Za (ZP ZQ (pv 3) Zf (fun _ _=>rfl)) (Za (pv 0) Zb))) Zf (ZJ _))) (fun _ _ _ _ _=>(pv 0))) Zb)) Zf (ZJ _)))))))),(Zdu rfl h)⟩
theorem qU {x:Ex0.Ad} (T:Exs K mg x) (F:ZR K mg "_law_guarded" (top 73) ["_law_vessel_here","_law_some"]) (B:Blt mg) (c_guard:FnC P w K mg base (CXE P w) 7 "guard" ["vessel","drain"] (JK K x.c9)) (c_law_right:FnC P w K mg base CX0 7 "_law_right" ["_law_vessel_here","_law_some","_law_found"] (Wz K)):FnC P w K mg base CX0 8 "_law_guarded" ["_law_vessel_here","_law_some"] (JH K):=by
 refine F.ok J9 (fun _ _ _ _=>gY) (fun f cdv A outer s H vs Q E hr h=>?_);have nd:=J9.nd;have hu:=hr.units;exact ⟨Ws K x,(Zd (Zt (i:=2) nd rfl (by walk_at "o") (G7 c_guard hr rfl ZgV (Za (pv 0) (Za (pv 1) Zb))))
 (Zd (ZS (YZ (ZV (Zk c_law_right hr rfl (Za (pv 0) (Za (pv 1) (Za (pv 2) Zb))))))
 (Zg (Zv U6))
 Zx)
 (Zd (Zt (i:=3) nd rfl (by walk_at "o") (Yp JV rfl B.list qJ (Za (ZP ZQ (pv 2) Zf (fun _ _=>rfl)) Zb)))
 (Zd (ZM (ZgU PySem.F.plainAttrs_list PySem.F.slot_list_clear PySem.F.type_list_clear ZdR (ZP ZQ (pv 2) Zf (fun _ _=>rfl))))
 (Zg (Zv (YB (ZgZ hu) (G7 c_guard hr rfl ZgV (Za (pv 0) (Za (pv 1) Zb))) (Yn (Za (ZP ZQ (pv 2) Zf (fun _ _=>rfl)) (Za (pv 3) Zb))) (ZJ _)))))))),(ZaL rfl h)⟩
theorem Zg2 {f:Addr} {fd:FuncData} (F:Fun K "law" "law" (top 74) f fd) (B:Blt mg) (c_law_vessel:FnC P w K mg base CX0 8 "_law_vessel" ["_law_script","_law_at"] (vf K)) (c_law_sets:FnC P w K mg base CX0 8 "_law_sets" ["_law_many"] (WQ K)) (c_law_cell_at:FnC P w K mg base CX0 8 "_law_cell_at" ["_law_script","_law_k"] (JL K)) (c_law_holds:FnC P w K mg base CX0 8 "_law_holds" ["_law_vessel_here","_law_some","_law_first","_law_second"] (WT K)) (c_law_refused:FnC P w K mg base CX0 8 "_law_refused" ["_law_vessel_here","_law_some"] (Jg K)) (c_law_guarded:FnC P w K mg base CX0 8 "_law_guarded" ["_law_vessel_here","_law_some"] (JH K)):FnOk P w K mg base CX0 9 f fd ["_law_script"] (spLaw K):=by
 refine F.ok ZeD (fun vs H Q E h=>?_) (fun cdv A outer s H vs Q E hr h=>?_)
 ·obtain ⟨a,ns,rfl,_⟩:=h;rfl
 have nd:=ZeD.nd;have hpo:=fun {M A env}=>@PassesOwn.never M A env
 exact ⟨Zdl K,(Zd (Zt (i:=1) nd rfl (by walk_at "o") (Zk c_law_vessel hr rfl (Za (pv 0) (Za Zf Zb))))
 (Zd (Zt (i:=2) nd rfl (by walk_at "o") (Zj Zm rfl B.len Z0 (Za (ZP ZQ (pv 1) Zf (fun _ _=>rfl)) Zb)))
 (Zd (Zt (i:=3) nd rfl (by walk_at "o") (Zo Z1 (Zk c_law_cell_at hr rfl (Za (pv 0) (Za Zf Zb))) (Zo ju Zf Zf)))
 (Zd (Yw hpo rfl (YW (Zk c_law_sets hr rfl (Za (pv 2) Zb))) (Zw (i:=4) nd rfl (by walk_at "o"))
 (Zg (ZS (ZV (Zk c_law_holds hr rfl (Za (pv 1) (Za (pv 4) (Za Zf (Za Zf Zb))))))
 (Zg (ZS (YZ (ZV (Zk c_law_guarded hr rfl (Za (pv 1) (Za (pv 4) Zb)))))
 (Zg (Zv U6))
 Zx))
 (Zg (ZS (YZ (ZV (Zk c_law_refused hr rfl (Za (pv 1) (Za (pv 4) Zb)))))
 (Zg (Zv U6))
 Zx)))))
 (Zd (Zt (i:=5) nd rfl (by walk_at "o") (Yo (Za (Yn Zb) (Za (Yn (Za Zf (Za Zf Zb))) (Za (Yn (Za (Zo ql (j7 Uo Zf) (pv 3)) Zb)) (Za (Yn (Za (Zo Z2 (pv 2) (pv 3)) Zb)) (Za (ZbS rfl rfl B.tuple rfl B.reversed rfl B.range (Za (Zo Z2 (pv 2) Zf) Zb)) Zb)))))))
 (Zg (Zv (Zj (Wb rfl) rfl B.all Zau (Za (Jy (M:=["_law_script","_law_vessel_here","_law_many","_law_far","#_law_some","_law_bad"]) (by show Z8 (Ze (top 74)) ["_law_script","_law_vessel_here","_law_many","_law_far","_law_some","_law_bad"] ["_law_script","_law_vessel_here","_law_many","_law_far","#_law_some","_law_bad"] _ _;walk_at "c") nd rfl (YW (pv 5)) (fun _ _ _ _ _=>(Zk c_law_refused hr rfl (Za (pv 2) (Za (pv 0) Zb))))) Zb))))))))),(ZgB h)⟩
end
theorem bd1{G:Value→Value→Value→Option Addr→Value→Value→FuncData}{ps:List Str}(e:ps.length=1)(h:∀(a b c:Value) (d:Option Addr) (x y u0:Value),bindArgs (G a b c d x y) ⟨[u0],[]⟩=pure (ps.zip [u0]))(a b c:Value)(d:Option Addr)(x y:Value)(us:List Value)(hl:us.length=ps.length):bindArgs (G a b c d x y) ⟨us,[]⟩=pure (ps.zip us):=by
 have e0:us.length=1:=hl.trans e;obtain ⟨u0,us,rfl⟩:=List.exists_cons_of_length_eq_add_one e0;cases List.eq_nil_of_length_eq_zero (Nat.succ.inj e0);exact h a b c d x y u0
theorem bd2{G:Value→Value→Value→Option Addr→Value→Value→FuncData}{ps:List Str}(e:ps.length=2)(h:∀(a b c:Value) (d:Option Addr) (x y u0 u1:Value),bindArgs (G a b c d x y) ⟨[u0,u1],[]⟩=pure (ps.zip [u0,u1]))(a b c:Value)(d:Option Addr)(x y:Value)(us:List Value)(hl:us.length=ps.length):bindArgs (G a b c d x y) ⟨us,[]⟩=pure (ps.zip us):=by
 have e0:us.length=2:=hl.trans e;obtain ⟨u0,us,rfl⟩:=List.exists_cons_of_length_eq_add_one e0;have e1:us.length=1:=Nat.succ.inj e0;obtain ⟨u1,us,rfl⟩:=List.exists_cons_of_length_eq_add_one e1;cases List.eq_nil_of_length_eq_zero (Nat.succ.inj e1);exact h a b c d x y u0 u1
theorem bd3{G:Value→Value→Value→Option Addr→Value→Value→FuncData}{ps:List Str}(e:ps.length=3)(h:∀(a b c:Value) (d:Option Addr) (x y u0 u1 u2:Value),bindArgs (G a b c d x y) ⟨[u0,u1,u2],[]⟩=pure (ps.zip [u0,u1,u2]))(a b c:Value)(d:Option Addr)(x y:Value)(us:List Value)(hl:us.length=ps.length):bindArgs (G a b c d x y) ⟨us,[]⟩=pure (ps.zip us):=by
 have e0:us.length=3:=hl.trans e;obtain ⟨u0,us,rfl⟩:=List.exists_cons_of_length_eq_add_one e0;have e1:us.length=2:=Nat.succ.inj e0;obtain ⟨u1,us,rfl⟩:=List.exists_cons_of_length_eq_add_one e1;have e2:us.length=1:=Nat.succ.inj e1;obtain ⟨u2,us,rfl⟩:=List.exists_cons_of_length_eq_add_one e2;cases List.eq_nil_of_length_eq_zero (Nat.succ.inj e2);exact h a b c d x y u0 u1 u2
theorem bd4{G:Value→Value→Value→Option Addr→Value→Value→FuncData}{ps:List Str}(e:ps.length=4)(h:∀(a b c:Value) (d:Option Addr) (x y u0 u1 u2 u3:Value),bindArgs (G a b c d x y) ⟨[u0,u1,u2,u3],[]⟩=pure (ps.zip [u0,u1,u2,u3]))(a b c:Value)(d:Option Addr)(x y:Value)(us:List Value)(hl:us.length=ps.length):bindArgs (G a b c d x y) ⟨us,[]⟩=pure (ps.zip us):=by
 have e0:us.length=4:=hl.trans e;obtain ⟨u0,us,rfl⟩:=List.exists_cons_of_length_eq_add_one e0;have e1:us.length=3:=Nat.succ.inj e0;obtain ⟨u1,us,rfl⟩:=List.exists_cons_of_length_eq_add_one e1;have e2:us.length=2:=Nat.succ.inj e1;obtain ⟨u2,us,rfl⟩:=List.exists_cons_of_length_eq_add_one e2;have e3:us.length=1:=Nat.succ.inj e2;obtain ⟨u3,us,rfl⟩:=List.exists_cons_of_length_eq_add_one e3;cases List.eq_nil_of_length_eq_zero (Nat.succ.inj e3);exact h a b c d x y u0 u1 u2 u3
theorem bd5{G:Value→Value→Value→Option Addr→Value→Value→FuncData}{ps:List Str}(e:ps.length=5)(h:∀(a b c:Value) (d:Option Addr) (x y u0 u1 u2 u3 u4:Value),bindArgs (G a b c d x y) ⟨[u0,u1,u2,u3,u4],[]⟩=pure (ps.zip [u0,u1,u2,u3,u4]))(a b c:Value)(d:Option Addr)(x y:Value)(us:List Value)(hl:us.length=ps.length):bindArgs (G a b c d x y) ⟨us,[]⟩=pure (ps.zip us):=by
 have e0:us.length=5:=hl.trans e;obtain ⟨u0,us,rfl⟩:=List.exists_cons_of_length_eq_add_one e0;have e1:us.length=4:=Nat.succ.inj e0;obtain ⟨u1,us,rfl⟩:=List.exists_cons_of_length_eq_add_one e1;have e2:us.length=3:=Nat.succ.inj e1;obtain ⟨u2,us,rfl⟩:=List.exists_cons_of_length_eq_add_one e2;have e3:us.length=2:=Nat.succ.inj e2;obtain ⟨u3,us,rfl⟩:=List.exists_cons_of_length_eq_add_one e3;have e4:us.length=1:=Nat.succ.inj e3;obtain ⟨u4,us,rfl⟩:=List.exists_cons_of_length_eq_add_one e4;cases List.eq_nil_of_length_eq_zero (Nat.succ.inj e4);exact h a b c d x y u0 u1 u2 u3 u4
theorem bd6{G:Value→Value→Value→Option Addr→Value→Value→FuncData}{ps:List Str}(e:ps.length=6)(h:∀(a b c:Value) (d:Option Addr) (x y u0 u1 u2 u3 u4 u5:Value),bindArgs (G a b c d x y) ⟨[u0,u1,u2,u3,u4,u5],[]⟩=pure (ps.zip [u0,u1,u2,u3,u4,u5]))(a b c:Value)(d:Option Addr)(x y:Value)(us:List Value)(hl:us.length=ps.length):bindArgs (G a b c d x y) ⟨us,[]⟩=pure (ps.zip us):=by
 have e0:us.length=6:=hl.trans e;obtain ⟨u0,us,rfl⟩:=List.exists_cons_of_length_eq_add_one e0;have e1:us.length=5:=Nat.succ.inj e0;obtain ⟨u1,us,rfl⟩:=List.exists_cons_of_length_eq_add_one e1;have e2:us.length=4:=Nat.succ.inj e1;obtain ⟨u2,us,rfl⟩:=List.exists_cons_of_length_eq_add_one e2;have e3:us.length=3:=Nat.succ.inj e2;obtain ⟨u3,us,rfl⟩:=List.exists_cons_of_length_eq_add_one e3;have e4:us.length=2:=Nat.succ.inj e3;obtain ⟨u4,us,rfl⟩:=List.exists_cons_of_length_eq_add_one e4;have e5:us.length=1:=Nat.succ.inj e4;obtain ⟨u5,us,rfl⟩:=List.exists_cons_of_length_eq_add_one e5;cases List.eq_nil_of_length_eq_zero (Nat.succ.inj e5);exact h a b c d x y u0 u1 u2 u3 u4 u5
theorem FnAt{K:Fg}{h:Heap}{mg:Str→Option Value}{n:Str}{st:Stmt}{ps:List Str}(X:K.In h)(G:h.Ns mainGlobals mg)(p:FnIn K n st)(hb:∀(kV doc pm:Value) (an:Option Addr) (cdv ct:Value) (us:List Value),us.length=ps.length→bindArgs (PySem.W.fnOf n n (Je st) (YC st) (Ze st) .none kV doc pm an cdv ct) ⟨us,[]⟩=pure (ps.zip us)):ZR K mg n st ps:=by
 obtain ⟨_,_,_,_,_,_,_,_,_,_,a,l,c,k⟩:=p;exact Zee X G a l c k hb
abbrev Pg:=PySem.Challenge.rw_vesselhall_k73_guards.prog
theorem fin:PySem.Challenge.rw_vesselhall_k73_guards.Holds:=by
 refine K73H.headed ?_;intro w K h mg fa X G hfa p0 p1 p2 p3 p4 p5 p6 p7 p8 p9 p10 p11 p12 p13 p14 p15 p16 p17 p18 p19 p20 p21 p22 p23 p24 p25 p26 p27 p28 p29 p30 p31 p32 p33 p34 p35 p36 p37 p38 p39 p40 p41 p42 p43 p44 p45 p46 p47 p48 p49 p50 z_len z_abs z_range z_isinstance z_int z_bool z_tuple z_list z_str z_zip z_set z_all z_any z_min z_max z_sum z_sorted z_enumerate z_reversed z_dict z_ord z_divmod V q0 q1 q2 q3 q4 q5 q6 q7 q8 q9 q10 q11 q12 q13 qd0 qd1 qd2 qd3 qd4 qd5 qd6 qd7 qd8 qd9 qd10 qd11 qd12 qd13 aV xV zVE gt tk aC0 tC0 dC0 aC1 tC1 dC1 aC2 tC2 dC2 aC3 tC3 dC3 aC4 tC4 dC4 aC5 tC5 dC5 aC6 tC6 dC6 aC7 tC7 dC7 aC8 tC8 dC8 aC9 tC9 dC9 aC10 tC10 dC10 aC11 tC11 dC11 aC12 tC12 dC12 aC13 tC13 dC13 x9 v9 ga9 hk9 cl9 ob9 be9 ve9 m9_0 m9_1 m9_2 m9_3 m9_4 m9_5 m9_6 m9_7 m9_8 m9_9 m9_10 m9_11 m9_12 m9_13;obtain ⟨_,_,an,_,_,kV,dc,pm,cd,ct,aL,lL,cL,kL⟩:=p50;cases hfa.symm.trans (PySem.W.mg_of X G aL);have B:Blt mg:=⟨PySem.W.mg_none_of X G z_len,PySem.W.mg_none_of X G z_abs,PySem.W.mg_none_of X G z_range,PySem.W.mg_none_of X G z_isinstance,PySem.W.mg_none_of X G z_int,PySem.W.mg_none_of X G z_bool,PySem.W.mg_none_of X G z_tuple,PySem.W.mg_none_of X G z_list,PySem.W.mg_none_of X G z_str,PySem.W.mg_none_of X G z_zip,PySem.W.mg_none_of X G z_set,PySem.W.mg_none_of X G z_all,PySem.W.mg_none_of X G z_any,PySem.W.mg_none_of X G z_min,PySem.W.mg_none_of X G z_max,PySem.W.mg_none_of X G z_sum,PySem.W.mg_none_of X G z_sorted,PySem.W.mg_none_of X G z_enumerate,PySem.W.mg_none_of X G z_reversed,PySem.W.mg_none_of X G z_dict,PySem.W.mg_none_of X G z_ord,PySem.W.mg_none_of X G z_divmod⟩
 refine ⟨PySem.W.fnOf "law" "law" (Je (top 74)) (YC (top 74)) (Ze (top 74)) .none kV dc pm an cd ct,fun s v=>.of_eq rfl,fun base _ _=>?_⟩
 have T:Exs K mg ⟨V,q0,q1,q2,q3,q4,q5,q6,q7,q8,q9,q10,q11,q12,q13⟩:={
   v:=⟨PySem.W.mg_of X G aV,_,_,xV,by decide⟩
   mv:=PySem.W.mg_none_of X G zVE
   m0:=PySem.W.mg_of X G aC0
   m1:=PySem.W.mg_of X G aC1
   m2:=PySem.W.mg_of X G aC2
   m3:=PySem.W.mg_of X G aC3
   m4:=PySem.W.mg_of X G aC4
   m5:=PySem.W.mg_of X G aC5
   m6:=PySem.W.mg_of X G aC6
   m7:=PySem.W.mg_of X G aC7
   m8:=PySem.W.mg_of X G aC8
   m9:=PySem.W.mg_of X G aC9
   m10:=PySem.W.mg_of X G aC10
   m11:=PySem.W.mg_of X G aC11
   m12:=PySem.W.mg_of X G aC12
   m13:=PySem.W.mg_of X G aC13
   n9:=⟨PySem.W.mg_of X G aC9,x9⟩
   s9:=⟨Zek x9,v9⟩
   a9:=⟨ga9,hk9,cl9,gt,tk,ob9,be9⟩
   k9_0:=Yy m9_0 m9_9 tC0 dC0
   k9_1:=Yy m9_1 m9_9 tC1 dC1
   k9_2:=Yy m9_2 m9_9 tC2 dC2
   k9_3:=Yy m9_3 m9_9 tC3 dC3
   k9_4:=Yy m9_4 m9_9 tC4 dC4
   k9_5:=Yy m9_5 m9_9 tC5 dC5
   k9_6:=Yy m9_6 m9_9 tC6 dC6
   k9_7:=Yy m9_7 m9_9 tC7 dC7
   k9_8:=Yy m9_8 m9_9 tC8 dC8
   k9_9:=Yy m9_9 m9_9 tC9 dC9
   k9_10:=Yy m9_10 m9_9 tC10 dC10
   k9_11:=Yy m9_11 m9_9 tC11 dC11
   k9_12:=Yy m9_12 m9_9 tC12 dC12
   k9_13:=Yy m9_13 m9_9 tC13 dC13
   kv9:=ZfN ve9 (by decide +kernel) }
 have c_whole:=ZdN (P:=Pg) (w:=w) (base:=base) (FnAt X G p0 (bd1 rfl fun _ _ _ _ _ _ _=>rfl)) B;have c_greatest_divisor:=Uj (P:=Pg) (w:=w) (base:=base) (FnAt X G p1 (bd2 rfl fun _ _ _ _ _ _ _ _=>rfl)) B;have c_first_place:=q_ (P:=Pg) (w:=w) (base:=base) (FnAt X G p3 (bd1 rfl fun _ _ _ _ _ _ _=>rfl)) B;have c_unit_row:=gb (P:=Pg) (w:=w) (base:=base) (FnAt X G p4 (bd2 rfl fun _ _ _ _ _ _ _ _=>rfl)) B;have c_opposite:=gj (P:=Pg) (w:=w) (base:=base) (FnAt X G p6 (bd1 rfl fun _ _ _ _ _ _ _=>rfl)) B;have c_short_line:=yh (P:=Pg) (w:=w) (base:=base) (FnAt X G p11 (bd2 rfl fun _ _ _ _ _ _ _ _=>rfl)) B;have c_place_below_nought:=JR (P:=Pg) (w:=w) (base:=base) (FnAt X G p12 (bd1 rfl fun _ _ _ _ _ _ _=>rfl)) B;have c_sets_of:=ZaN (P:=Pg) (w:=w) (base:=base) (FnAt X G p21 (bd1 rfl fun _ _ _ _ _ _ _=>rfl)) B;have c_has_some:=gG (P:=Pg) (w:=w) (base:=base) (FnAt X G p22 (bd2 rfl fun _ _ _ _ _ _ _ _=>rfl)) B;have c_numbers_at:=yp (P:=Pg) (w:=w) (base:=base) (FnAt X G p25 (bd2 rfl fun _ _ _ _ _ _ _ _=>rfl)) B;have c_law_cell_at:=qZ (P:=Pg) (w:=w) (base:=base) (FnAt X G p27 (bd2 rfl fun _ _ _ _ _ _ _ _=>rfl)) B;have c_law_mixed:=vZ (P:=Pg) (w:=w) (base:=base) (FnAt X G p28 (bd2 rfl fun _ _ _ _ _ _ _ _=>rfl)) B;have c_law_divisor:=qW (P:=Pg) (w:=w) (base:=base) (FnAt X G p29 (bd2 rfl fun _ _ _ _ _ _ _ _=>rfl)) B;have c_law_words:=vV (P:=Pg) (w:=w) (base:=base) (FnAt X G p31 (bd2 rfl fun _ _ _ _ _ _ _ _=>rfl)) B;have c_law_whole:=vW (P:=Pg) (w:=w) (base:=base) (FnAt X G p37 (bd1 rfl fun _ _ _ _ _ _ _=>rfl)) B;have c_law_changes:=qY (P:=Pg) (w:=w) (base:=base) (FnAt X G p38 (bd1 rfl fun _ _ _ _ _ _ _=>rfl)) B;have c_law_told:=gw (P:=Pg) (w:=w) (base:=base) (FnAt X G p41 (bd1 rfl fun _ _ _ _ _ _ _=>rfl)) B;have c_law_worth:=vU (P:=Pg) (w:=w) (base:=base) (FnAt X G p42 (bd2 rfl fun _ _ _ _ _ _ _ _=>rfl)) B;have c_law_sets:=gA (P:=Pg) (w:=w) (base:=base) (FnAt X G p43 (bd1 rfl fun _ _ _ _ _ _ _=>rfl)) B;have c_law_touches:=qQ (P:=Pg) (w:=w) (base:=base) (FnAt X G p44 (bd2 rfl fun _ _ _ _ _ _ _ _=>rfl)) B;have c_law_kinds:=Fb (P:=Pg) (w:=w) (base:=base) T (FnAt X G p46 (bd1 rfl fun _ _ _ _ _ _ _=>rfl)) B;have c_least_multiple:=Gk (P:=Pg) (w:=w) (base:=base) (FnAt X G p2 (bd2 rfl fun _ _ _ _ _ _ _ _=>rfl)) B c_greatest_divisor;have c_unit_rows:=vP (P:=Pg) (w:=w) (base:=base) (FnAt X G p5 (bd1 rfl fun _ _ _ _ _ _ _=>rfl)) B c_unit_row;have c_opposites:=vR (P:=Pg) (w:=w) (base:=base) (FnAt X G p7 (bd1 rfl fun _ _ _ _ _ _ _=>rfl)) B c_opposite;have c_common_divisor:=Gm (P:=Pg) (w:=w) (base:=base) (FnAt X G p8 (bd1 rfl fun _ _ _ _ _ _ _=>rfl)) B c_greatest_divisor;have c_turning_at:=yg (P:=Pg) (w:=w) (base:=base) (FnAt X G p18 (bd2 rfl fun _ _ _ _ _ _ _ _=>rfl)) B c_whole;have c_is_drain:=gF (P:=Pg) (w:=w) (base:=base) (FnAt X G p23 (bd2 rfl fun _ _ _ _ _ _ _ _=>rfl)) B c_has_some;have c_law_lowest:=yr (P:=Pg) (w:=w) (base:=base) (FnAt X G p30 (bd2 rfl fun _ _ _ _ _ _ _ _=>rfl)) B c_law_divisor;have c_law_heap:=gD (P:=Pg) (w:=w) (base:=base) (FnAt X G p32 (bd5 rfl fun _ _ _ _ _ _ _ _ _ _ _=>rfl)) B c_law_mixed;have c_law_pairs:=vY (P:=Pg) (w:=w) (base:=base) (FnAt X G p34 (bd5 rfl fun _ _ _ _ _ _ _ _ _ _ _=>rfl)) B c_law_cell_at c_law_mixed;have c_law_come_to:=qX (P:=Pg) (w:=w) (base:=base) (FnAt X G p39 (bd2 rfl fun _ _ _ _ _ _ _ _=>rfl)) B c_law_changes;have c_law_numbers:=qT (P:=Pg) (w:=w) (base:=base) (FnAt X G p40 (bd3 rfl fun _ _ _ _ _ _ _ _ _=>rfl)) B c_law_whole;have c_law_holds:=Fd (P:=Pg) (w:=w) (base:=base) (FnAt X G p45 (bd4 rfl fun _ _ _ _ _ _ _ _ _ _=>rfl)) B c_law_touches;have c_lowest:=Zb2 (P:=Pg) (w:=w) (base:=base) (FnAt X G p9 (bd1 rfl fun _ _ _ _ _ _ _=>rfl)) B (c_first_place.mono (by decide:1≤2)) c_common_divisor;have c_first_board:=jc (P:=Pg) (w:=w) (base:=base) (FnAt X G p10 (bd2 rfl fun _ _ _ _ _ _ _ _=>rfl)) B c_unit_rows;have c_line_without:=qp (P:=Pg) (w:=w) (base:=base) (FnAt X G p13 (bd3 rfl fun _ _ _ _ _ _ _ _ _=>rfl)) B c_common_divisor;have c_change:=Zb3 (P:=Pg) (w:=w) (base:=base) (FnAt X G p19 (bd2 rfl fun _ _ _ _ _ _ _ _=>rfl)) B c_turning_at;have c_check_drain:=jd (P:=Pg) (w:=w) (base:=base) T (FnAt X G p24 (bd2 rfl fun _ _ _ _ _ _ _ _=>rfl)) B c_is_drain (c_sets_of.mono (by decide:1≤2)) (c_whole.mono (by decide:1≤2));have c_law_pool:=gB (P:=Pg) (w:=w) (base:=base) (FnAt X G p33 (bd6 rfl fun _ _ _ _ _ _ _ _ _ _ _ _=>rfl)) B c_law_heap (c_law_cell_at.mono (by decide:1≤2));have c_law_pace:=gC (P:=Pg) (w:=w) (base:=base) (FnAt X G p35 (bd2 rfl fun _ _ _ _ _ _ _ _=>rfl)) B c_law_lowest;have c_law_right:=vX (P:=Pg) (w:=w) (base:=base) (FnAt X G p48 (bd3 rfl fun _ _ _ _ _ _ _ _ _=>rfl)) B (c_law_told.mono (by decide:1≤2)) c_law_come_to c_law_numbers (c_law_changes.mono (by decide:1≤2)) (c_law_worth.mono (by decide:1≤2));have c_passed_on:=vQ (P:=Pg) (w:=w) (base:=base) (FnAt X G p14 (bd3 rfl fun _ _ _ _ _ _ _ _ _=>rfl)) B (c_opposite.mono (by decide:1≤3)) c_line_without;have c_numbers_on:=yj (P:=Pg) (w:=w) (base:=base) (FnAt X G p15 (bd3 rfl fun _ _ _ _ _ _ _ _ _=>rfl)) B c_lowest (c_least_multiple.mono (by decide:2≤3));have c_changes:=ZaP (P:=Pg) (w:=w) (base:=base) (FnAt X G p20 (bd1 rfl fun _ _ _ _ _ _ _=>rfl)) B c_change;have c_law_vessel:=yq (P:=Pg) (w:=w) (base:=base) (FnAt X G p36 (bd2 rfl fun _ _ _ _ _ _ _ _=>rfl)) B (c_law_mixed.mono (by decide:1≤3)) c_law_pool (c_law_pairs.mono (by decide:2≤3)) (c_law_cell_at.mono (by decide:1≤3)) (c_law_words.mono (by decide:1≤3)) c_law_pace;have c_settled:=ZaM (P:=Pg) (w:=w) (base:=base) (FnAt X G p16 (bd2 rfl fun _ _ _ _ _ _ _ _=>rfl)) B (c_first_board.mono (by decide:3≤4)) (c_short_line.mono (by decide:1≤4)) (c_place_below_nought.mono (by decide:1≤4)) c_passed_on c_numbers_on (c_opposites.mono (by decide:2≤4));have c_balanced:=gH (P:=Pg) (w:=w) (base:=base) (FnAt X G p17 (bd2 rfl fun _ _ _ _ _ _ _ _=>rfl)) B c_settled (c_opposites.mono (by decide:2≤5));have c_guard:=ZdO (P:=Pg) (w:=w) (base:=base) T (FnAt X G p26 (bd2 rfl fun _ _ _ _ _ _ _ _=>rfl)) B (c_check_drain.mono (by decide:3≤6)) c_balanced (c_numbers_at.mono (by decide:1≤6)) (c_changes.mono (by decide:4≤6));have c_law_refused:=qR (P:=Pg) (w:=w) (base:=base) T (FnAt X G p47 (bd2 rfl fun _ _ _ _ _ _ _ _=>rfl)) B c_guard (c_law_kinds.mono (by decide:1≤7));have c_law_guarded:=qU (P:=Pg) (w:=w) (base:=base) T (FnAt X G p49 (bd2 rfl fun _ _ _ _ _ _ _ _=>rfl)) B c_guard (c_law_right.mono (by decide:3≤7));exact Zg2 (P:=Pg) (w:=w) (base:=base) (ZeQ (st:=top 74) lL cL kL) B (c_law_vessel.mono (by decide:4≤8)) (c_law_sets.mono (by decide:1≤8)) (c_law_cell_at.mono (by decide:1≤8)) (c_law_holds.mono (by decide:2≤8)) c_law_refused c_law_guarded
end K73
theorem PySem.Challenge.cw_vesselhall_k73_guards_holds : PySem.Challenge.rw_vesselhall_k73_guards.Holds := by
 exact K73.fin
#print axioms PySem.Challenge.cw_vesselhall_k73_guards_holds

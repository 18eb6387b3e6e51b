import PyProof.Rows.All
import Wide.All
import OpenK.AllK
import Wide.FinOn
import PyProof.EqAt
import PyProof.EqKinds
import PyProof.TupleCall
import PySem.SetTable
import Wide.Seal
import Lean
import PySem.Challenge.RW_vesselhall_k81_the_lack
set_option Elab.async false
set_option linter.all false
set_option maxRecDepth 100000
set_option maxHeartbeats 4000000
local macro_rules | `(tactic| walk_at "o") => `(tactic| first | exact Or.inl rfl | exact Or.inr rfl)
local macro_rules | `(tactic| walk_at "c") => `(tactic| exact ⟨rfl,by decide +kernel,by decide +kernel,by decide +kernel,by decide +kernel,rfl,by decide +kernel,by decide +kernel,by decide +kernel⟩)
local macro_rules | `(tactic| walk_at "k") => `(tactic| exact ⟨rfl,by decide +kernel,by decide +kernel,by decide +kernel,rfl,by decide +kernel,by decide +kernel,by decide +kernel⟩)
abbrev Fg := PySem.W.Frag
namespace HdT
open PySem PySem.W
def grow:BT→Nat→List Obj→BT
 | T,_,[]=>T
 | T,n,o :: os=>grow (T.ins n o) (n+1) os
def growOk:BT→Nat→List Obj→Bool
 | _,_,[]=>true
 | T,n,o :: os=>match ((T.ins n o).get n).isSome with
  | true=>growOk (T.ins n o) (n+1) os
  | false=>false
theorem grow_abs:∀(os:List Obj) (T:BT) (n:Nat) (life:Life),growOk T n os=true→absHeap (grow T n os) (n+os.length) life = ⟨(absHeap T n life).objs++os.toArray,life⟩
 | [],T,n,life,_=>by
  show absHeap T n life=_;rw [show ([]:List Obj).toArray = #[] from rfl,Array.append_empty];rfl
 | o :: os,T,n,life,h=>by
  unfold growOk at h;split at h
  ·rename_i e;have ih:=grow_abs os (T.ins n o) (n+1) life h;rw [absHeap_ins e] at ih;show absHeap (grow (T.ins n o) (n+1) os) (n+(os.length+1)) life=_;rw [show n+(os.length+1)=n+1+os.length by omega,ih];show Heap.mk ((absHeap T n life).objs.push o++os.toArray) life=Heap.mk ((absHeap T n life).objs++(o :: os).toArray) life;congr 1;simp
  ·cases h
def runT(tb:String→Option Builtin)(p:Program)(w:World)(n₀ : Nat)(ann:Option Value):Nat→SharedT→Thread→Option SharedT
 | 0,_,_=>none
 | n+1,s,t=>match through t with
  | true=>some s
  | false=>match stepOk n₀ ann t with
   | false=>none
   | true=>match stepT (denote tb) p w s t with
    | some (s',t')=>runT tb p w n₀ ann n s' t'
    | none=>none
theorem runT_of{tb:String→Option Builtin}{p:Program}{w:World}{n₀ : Nat}{ann:Option Value}:∀{n:Nat} {s r:SharedT} {t:Thread},runT tb p w n₀ ann n s t=some r→topRun tb p w n₀ ann n s.abs t=some r.abs
 | 0,_,_,_,h=>by cases h
 | n+1,s,r,t,h=>by
  unfold runT at h;unfold topRun;cases he:through t with
  | true=>rw [he] at h;cases h;rfl
  | false =>
   rw [he] at h;cases hk:stepOk n₀ ann t with
   | false=>rw [hk] at h;cases h
   | true =>
    rw [hk] at h;cases hs:stepT (denote tb) p w s t with
    | none=>rw [hs] at h;cases h
    | some x=>obtain ⟨s₂,t₂⟩:=x;rw [hs] at h;rw [stepT_spec hs];exact runT_of h
noncomputable def start0 (P:Params) (os:OsState):SharedT:=⟨grow .nil 0 (boot_heap P).objs.toList,(boot_heap P).objs.toList.length,(boot_heap P).life,Array.mk [],boot_drawn,boot_toks,os⟩
theorem start0_abs{P:Params}{os:OsState}(h:growOk .nil 0 (boot_heap P).objs.toList=true):(start0 P os).abs = ⟨boot_heap P,Array.mk [],boot_drawn,boot_toks,os⟩:=by
 have e:=grow_abs (boot_heap P).objs.toList .nil 0 (boot_heap P).life h;rw [Nat.zero_add] at e;unfold SharedT.abs start0;simp only;rw [e];congr 1
noncomputable def ends (tb:String→Option Builtin) (mods:List Str) (p:Program) (w:World) (N:Nat) (os:OsState):Option Shared :=
 match (boot_heap w.params).isNs mainGlobals with
 | true=>(runT tb p w (boot_heap w.params).objs.size ((boot_heap w.params).nsMap mainGlobals "__annotations__") N (start0 w.params os) (topStub p)).bind fun r =>
   match staticsOk mods (boot_heap w.params) r.abs.heap && namesBound p r.abs.heap && gensDone r.abs && laidKept (boot_heap w.params) r.abs.heap with
   | true=>some r.abs
   | false=>none
 | false=>none
theorem ends_of{p:Program}{w:World}{N:Nat}{os:OsState}{r:Shared}(g:growOk .nil 0 (boot_heap w.params).objs.toList=true)(h:ends treeTable (importedModules p.main.body) p w N os=some r):topFrom treeTable p w N ⟨boot_heap w.params,Array.mk [],boot_drawn,boot_toks,os⟩=some r:=by
 unfold ends at h;unfold topFrom;cases hi:(boot_heap w.params).isNs mainGlobals with
 | false=>rw [hi] at h;cases h
 | true =>
  rw [hi] at h;simp only at h ⊢;obtain ⟨x,hx,hr⟩:=Option.bind_eq_some_iff.mp h
  have:=runT_of hx
  rw [start0_abs g] at this;show (topRun treeTable p w (boot_heap w.params).objs.size ((boot_heap w.params).nsMap mainGlobals "__annotations__") N ⟨boot_heap w.params,Array.mk [],boot_drawn,boot_toks,os⟩ (topStub p)).bind _=_;rw [this];exact hr
theorem left{p q:Program}{loose:List Str}{Xt:Shared→Bool}{α : Type}{Yf:Shared→α}{Ya:World→α}{N:Nat}
  (e:opening p=plainProg p.main.scope.names) (hN:Nat.ble 600 N=true) (f:∀s,fenceModules? p s=some s) (g:∀w:World,growOk .nil 0 (boot_heap w.params).objs.toList=true)
  (h:∀w os,(ends treeTable (importedModules p.main.body) p w N os).map (fun s=>(openSeen q loose (importedModules p.main.body) Xt true s,Yf s))=some (openGood q loose,Ya w)):LeftO p q loose Xt Yf Ya N:=fun w=>by
 obtain ⟨s,hs,hv⟩:=Option.map_eq_some_iff.mp (boot_open e hN f w);unfold openEnds;rw [hs];obtain ⟨heap,gens,drawn,toks,os⟩:=s;obtain ⟨h1,h2⟩:=Prod.mk.inj hv;obtain ⟨h2,h3⟩:=Prod.mk.inj h2;obtain ⟨h3,h4⟩:=Prod.mk.inj h3;subst h1 h2 h3 h4;obtain ⟨r,hr,hv⟩:=Option.map_eq_some_iff.mp (h w os);show (topFrom treeTable p w N _).map _=_;rw [ends_of (g w) hr];exact congrArg some hv
end HdT
namespace K81H
open PySem
def qv:PySem.Program:=PySem.W.view PySem.Challenge.pw_vesselhall_k81_the_lack [1,2,4,5,7,8,9,10,11,12,13,14,15,17,18,19,20,21,23,25,26,27,29,30,31,33,34,35,36,37,38,39,40,41,42,43,44,45,46,47,48,49,50,51,52,53]
theorem said(h:PySem.Challenge.rw_vesselhall_k81_the_lack.row.Holds):PySem.Challenge.rw_vesselhall_k81_the_lack.Holds:=by
 w_on;o_law;exact h
theorem booted{q:PySem.Program}{loose:List PySem.Str}{Xt:PySem.Shared→Bool}{α : Type}{Yf:PySem.Shared→α}{Ya:PySem.World→α}(h:∀w os,(HdT.ends PySem.treeTable (PySem.importedModules PySem.Challenge.pw_vesselhall_k81_the_lack.main.body) PySem.Challenge.pw_vesselhall_k81_the_lack w 3654 os).map (fun s=>(PySem.W.openSeen q loose (PySem.importedModules PySem.Challenge.pw_vesselhall_k81_the_lack.main.body) Xt true s,Yf s))=some (PySem.W.openGood q loose,Ya w)):PySem.W.LeftO PySem.Challenge.pw_vesselhall_k81_the_lack q loose Xt Yf Ya 3654 :=
 HdT.left (by kernel_rfl) (by decide) (fun s=>by kernel_rfl) (fun w=>by kernel_rfl) h
local macro_rules | `(tactic| o_head $H)=>`(tactic| refine PySem.W.holds_open (q:=K81H.qv) (loose:=[]) (Xt:=fun s=>PySem.W.xlAt K81H.qv [] s && PySem.W.recOk [] s) (XP:=PySem.W.XL K81H.qv []) (Yf:=PySem.W.Hook.obs $H) (Ya:=PySem.W.Hook.val $H) (YP:=PySem.W.Hook.says $H) (N:=3654) ?_ (PySem.W.Hook.of $H) (PySem.W.Hook.keeps $H) (fun s e=>PySem.W.xl_of s (Bool.and_eq_true_iff.mp e).1) PySem.W.XL.keeps (by rfl) (by rfl) (by rfl) (fun s e=>PySem.W.recFacts_of (Bool.and_eq_true_iff.mp e).2) (by rfl) (by first | assumption | decide +kernel) (by decide +kernel) ⟨rfl,rfl,rfl,rfl,rfl,by decide +kernel⟩ ?_ ?_)
set_option maxRecDepth 100000 in
set_option maxHeartbeats 0 in
open PySem.W PyProof.Rows in
theorem pre(hL:∀(α : Type) (Yf:PySem.Shared→α) (Ya:PySem.World→α),PySem.W.LeftO PySem.Challenge.pw_vesselhall_k81_the_lack qv [] (fun s=>PySem.W.xlAt qv [] s && PySem.W.recOk [] s) Yf Ya 3654)(hP:PySem.Challenge.rw_vesselhall_k81_the_lack.row.toRowW.promised)(hC:∀(YP:PySem.World→PySem.Heap→Prop) (d:DefRec),PySem.W.WalkO qv [] (PySem.W.XL qv []) YP PySem.Challenge.rw_vesselhall_k81_the_lack.row.toRowW d [] (fun f vs=>PySem.call f vs)):PySem.Challenge.rw_vesselhall_k81_the_lack.row.Holds:=by
 w_on;k_head
 ·exact hL _ _ _
 ·exact hP
 ·exact hC _ _
def asl:List Nat:=[2,3,15,22,23,24,25,28,35,36,37,40,42,43,45,46,47,49,50,52,53,54,56,57,59,60,61,64,65,66,69,70,71,73,74,76,77,78,81,82,83,86,87,88,90,91,93,94,95,97,98,100,101,102,104,105,107,108,109,111,112,114,115,116,118,119,121,122,123,125,126,128,129,130,133,134,135,138,139,140,142,143,145,146,147,150,151,152,155,156,157,160,161,162,164,165,167,168,169,172,173,174,177,178,179,181,182,184,185,186,188,189,191,192,193,195,196,198,199,200,202,203,205,206,207,209,210,212,213,214,216,217,219,220,221,224,225,226,228,229,231,232,233,235,236,238,239,240,242,243,245,246,247,249,250,252,253,254,256,257,259,260,261,264,265,266,269,270,271,273,274,276,277,278,281,282,283,286,287,288,291,292,293,295,296,298,299,300,303,304,305,308,309]
theorem asl_ok(P:PySem.Params):asl=(pre.heap_1 P).map (·.1):=by kernel_rfl
set_option maxRecDepth 100000 in
set_option maxHeartbeats 0 in
theorem seen(w:PySem.World)(os:PySem.OsState):(HdT.ends PySem.treeTable (PySem.importedModules PySem.Challenge.pw_vesselhall_k81_the_lack.main.body) PySem.Challenge.pw_vesselhall_k81_the_lack w 3654 os).map (fun s=>PySem.W.openSeen (PySem.W.view PySem.Challenge.pw_vesselhall_k81_the_lack [1,2,4,5,7,8,9,10,11,12,13,14,15,17,18,19,20,21,23,25,26,27,29,30,31,33,34,35,36,37,38,39,40,41,42,43,44,45,46,47,48,49,50,51,52,53]) [] (PySem.importedModules PySem.Challenge.pw_vesselhall_k81_the_lack.main.body) (fun s=>PySem.W.xlAt (PySem.W.view PySem.Challenge.pw_vesselhall_k81_the_lack [1,2,4,5,7,8,9,10,11,12,13,14,15,17,18,19,20,21,23,25,26,27,29,30,31,33,34,35,36,37,38,39,40,41,42,43,44,45,46,47,48,49,50,51,52,53]) [] s && PySem.W.recOk [] s) true s)=some (PySem.W.openGood (PySem.W.view PySem.Challenge.pw_vesselhall_k81_the_lack [1,2,4,5,7,8,9,10,11,12,13,14,15,17,18,19,20,21,23,25,26,27,29,30,31,33,34,35,36,37,38,39,40,41,42,43,44,45,46,47,48,49,50,51,52,53]) []):=by
 rw [PySem.W.Fast.te4187177175401517315,PySem.W.Fast.te5923862056798008813,PySem.W.Fast.te14364793385576792824,PySem.W.Fast.te1616419578070936384];kernel_rfl
set_option maxRecDepth 100000 in
set_option maxHeartbeats 0 in
theorem hook(w:PySem.World)(os:PySem.OsState):(HdT.ends PySem.treeTable (PySem.importedModules PySem.Challenge.pw_vesselhall_k81_the_lack.main.body) PySem.Challenge.pw_vesselhall_k81_the_lack w 3654 os).map (fun s=>asl.map s.heap.get?)=some ((pre.heap_1 w.params).map fun p=>some p.2):=by
 unfold asl;rw [PySem.W.Fast.te5923862056798008813,PySem.W.Fast.te14364793385576792824,PySem.W.Fast.te1616419578070936384];kernel_rfl
theorem hooks:PySem.W.LeftO PySem.Challenge.pw_vesselhall_k81_the_lack qv [] (fun s=>PySem.W.xlAt qv [] s && PySem.W.recOk [] s) (fun s=>asl.map s.heap.get?) (fun w=>(pre.heap_1 w.params).map fun p=>some p.2) 3654 :=
 booted (fun w=>fun os=>by
  obtain ⟨s,e,a⟩:=Option.map_eq_some_iff.mp (seen w os)
  have b:=hook w os
  rw [e] at b ⊢
  exact congrArg some (Prod.ext a (Option.some.inj b)))
end K81H
set_option Elab.async false
set_option linter.all false
set_option maxRecDepth 100000
set_option maxHeartbeats 4000000
set_option Elab.async false
set_option linter.all false
set_option maxRecDepth 100000
namespace L2
open PySem PySem.Spec PyProof.Rows
abbrev Key:=Sum Int Str
def keyIs:Key→Value→Bool
 | .inl k,v=>Value.isInt k v
 | .inr x,v=>Value.isStrOf x v
def keyH(w:World):Key→Int
 | .inl k=>hashInt k
 | .inr x=>hashStr w x
theorem keyIs_shape:∀{k:Key} {v:Value},keyIs k v=true→(∃i t,k=Sum.inl i∧v=Value.int i t)∨(∃x t,k=Sum.inr x∧v=Value.str x t)
 | .inl i,v,h=>by
  obtain ⟨t,e⟩:=Value.isInt_shape (k:=i) (v:=v) h;exact .inl ⟨i,t,rfl,e⟩
 | .inr x,v,h=>by
  obtain ⟨t,e⟩:=Value.isStrOf_shape (x:=x) (v:=v) h;exact .inr ⟨x,t,rfl,e⟩
theorem keyIs_int(i:Int)(t:Tok):keyIs (.inl i) (.int i t)=true:=by simp [keyIs,Value.isInt]
theorem keyIs_str(x:Str)(t:Tok):keyIs (.inr x) (.str x t)=true:=by simp [keyIs,Value.isStrOf]
theorem key_ll(a b:Int):decide ((Sum.inl a:Key)=Sum.inl b)=(a == b):=by
 by_cases e:a=b
 ·subst e;simp
 ·have h : ¬ (Sum.inl a:Key)=Sum.inl b:=fun q=>e (Sum.inl.inj q)
  rw [decide_eq_false h];exact (beq_eq_false_iff_ne.mpr e).symm
theorem key_rr(a b:Str):decide ((Sum.inr a:Key)=Sum.inr b)=decide (a=b):=by
 by_cases e:a=b
 ·subst e;simp
 ·have h : ¬ (Sum.inr a:Key)=Sum.inr b:=fun q=>e (Sum.inr.inj q)
  rw [decide_eq_false h,decide_eq_false e]
theorem key_lr(a:Int)(b:Str):decide ((Sum.inl a:Key)=Sum.inr b)=false:=decide_eq_false (fun q=>nomatch q)
theorem key_rl(a:Str)(b:Int):decide ((Sum.inr a:Key)=Sum.inl b)=false:=decide_eq_false (fun q=>nomatch q)
def mixKind(prog:Program)(w:World):PySem.KeyKind prog w Key where
 is:=keyIs
 hash:=keyH w
 inj:=fun v a b ha hb=>by
  rcases keyIs_shape ha with ⟨i,t,rfl,rfl⟩ | ⟨x,t,rfl,rfl⟩
  ·rcases keyIs_shape hb with ⟨j,u,rfl,e⟩ | ⟨y,u,rfl,e⟩
   ·injection e with e1 _;rw [e1]
   ·exact nomatch e
  ·rcases keyIs_shape hb with ⟨j,u,rfl,e⟩ | ⟨y,u,rfl,e⟩
   ·exact nomatch e
   ·injection e with e1 _;rw [e1]
 byValue:=fun k v h=>by
  rcases keyIs_shape h with ⟨i,t,rfl,rfl⟩ | ⟨x,t,rfl,rfl⟩ <;> rfl
 pyHash:=fun hv h=>by
  rcases keyIs_shape hv with ⟨i,t,rfl,rfl⟩ | ⟨x,t,rfl,rfl⟩
  ·exact wpAny_pyHash_int h
  ·exact wpAny_pyHash_str h
 eqBool:=fun hu hv h=>by
  rcases keyIs_shape hu with ⟨i,t,rfl,rfl⟩ | ⟨x,t,rfl,rfl⟩
  ·rcases keyIs_shape hv with ⟨j,u,rfl,rfl⟩ | ⟨y,u,rfl,rfl⟩
   ·rw [key_ll] at h;exact wpAny_eqBool_int h
   ·rw [key_lr] at h;exact SeqAt.EqAt.int_str i t y u _ _ _ _ h
  ·rcases keyIs_shape hv with ⟨j,u,rfl,rfl⟩ | ⟨y,u,rfl,rfl⟩
   ·rw [key_rl] at h;exact SeqAt.EqAt.str_int x t j u _ _ _ _ h
   ·rw [key_rr] at h;exact wpAny_eqBool_str h
 «strs»:=fun k x t v h=>by
  rcases keyIs_shape h with ⟨i,u,rfl,e⟩ | ⟨y,u,rfl,e⟩
  ·exact nomatch e
  ·injection e with e1 _
   subst e1;cases v <;> rfl
theorem mixKind_int(prog:Program)(w:World)(i:Int)(t:Tok):(mixKind prog w).is (.inl i) (.int i t)=true:=keyIs_int i t
theorem mixKind_str(prog:Program)(w:World)(x:Str)(t:Tok):(mixKind prog w).is (.inr x) (.str x t)=true:=keyIs_str x t
inductive V where
 | non | bl (b:Bool) | int (i:Int) | str (x:Str) | byt (b:Array UInt8) | flt (b:UInt64) | ref (a:Addr) | ty (n:String)
 deriving DecidableEq
def RelV:V→Value→Prop
 | .non,u=>u=Value.none
 | .bl b,u=>u=Value.bool b
 | .int i,u=>∃t,u=Value.int i t
 | .str x,u=>∃t,u=Value.str x t
 | .byt b,u=>∃t,u=Value.bytes b t
 | .flt b,u=>∃t,u=Value.float b t
 | .ref a,u=>u=Value.ref a
 | .ty n,u=>u=Value.type n
abbrev Vals:List V→List Value→Prop:=Paired RelV
theorem Vals.length{xs:List V}{us:List Value}(r:Vals xs us):xs.length=us.length:=Paired.length r
theorem Vals.get:∀{xs:List V} {us:List Value} {i:Nat} {x:V},Vals xs us→xs[i]? = some x→∃u,us[i]? = some u∧RelV x u
 | _,_,_,_,.nil,e=>by simp at e
 | _,_,0,_,.cons r _,e=>by simp at e;subst e;exact ⟨_,rfl,r⟩
 | _,_,i+1,x,.cons _ t,e=>by
  obtain ⟨u,h1,h2⟩:=Vals.get (i:=i) (x:=x) t (by simpa using e);exact ⟨u,by simpa using h1,h2⟩
theorem Vals.append:∀{xs ys:List V} {us ws:List Value},Vals xs us→Vals ys ws→Vals (xs++ys) (us++ws)
 | _,_,_,_,.nil,s=>s
 | _,_,_,_,.cons r t,s=>.cons r (Vals.append t s)
theorem Vals.take:∀{xs:List V} {us:List Value} (n:Nat),Vals xs us→Vals (xs.take n) (us.take n)
 | _,_,0,_=>.nil
 | _,_,_+1,.nil=>.nil
 | _,_,n+1,.cons r t=>.cons r (Vals.take n t)
theorem Vals.drop:∀{xs:List V} {us:List Value} (n:Nat),Vals xs us→Vals (xs.drop n) (us.drop n)
 | _,_,0,r=>r
 | _,_,_+1,.nil=>.nil
 | _,_,n+1,.cons _ t=>Vals.drop n t
def RelO:Option V→Option Value→Prop
 | some v,some u=>RelV v u
 | none,none=>True
 | _,_=>False
def KV{κ : Type}:List (κ×V)→List (κ×Value)→Prop:=Paired fun (p : κ×V) (q : κ×Value)=>p.1=q.1∧RelV p.2 q.2
def kV:Key→V
 | .inl i=>.int i
 | .inr x=>.str x
inductive HO where
 | lst (xs:List V)
 | tup (xs:List V)
 | dK (kvs:List (Key×V)) | dT (kvs:List (List Key×V))
 | set (S:Int→Bool) (n:Nat)
 | ins (C dx:Addr) (fs:List (Str×V))
 | own (x:Addr)
 | xd (fs:List (Str×V))
 | met (f x:Addr)
 | rng (lo hi:Int)
 | frz (o:Obj) (u:HO)
 | tbl (ps:Array Value)
 | ext (φ : Heap→Prop)
abbrev Hp:=Addr→Option HO
def upd(H:Hp)(a:Addr)(o:HO):Hp:=fun b=>if b=a then some o else H b
theorem upd_same{H:Hp}{a:Addr}{o:HO}:upd H a o a=some o:=by unfold upd;rw [if_pos rfl]
theorem upd_ne{H:Hp}{a b:Addr}{o:HO}(h:b≠a):upd H a o b=H b:=by unfold upd;rw [if_neg h]
theorem upd_upd{H:Hp}{a:Addr}{o u:HO}:upd (upd H a o) a u=upd H a u:=by
 funext b;unfold upd;split <;> rfl
theorem ne_of{H:Hp}{a b:Addr}{o u:HO}(h:H a=some o)(h':H b=some u)(d:o≠u):a≠b:=by
 intro e;subst e;rw [h] at h';exact d (Option.some.inj h')
theorem ne_of_none{H:Hp}{a b:Addr}{o:HO}(h:H a=some o)(h':H b=none):a≠b:=by
 intro e;subst e;rw [h] at h';cases h'
section
variable(P:Program)(w:World)
def ObjOk(H:Hp)(h:Heap)(a:Addr):HO→Prop
 | .lst xs=>xs.length≤sizeLine∧∃(its:List Value) (n:Nat),Vals xs its∧h.get? a=some { cls:=.type "list",data:=.seq its.toArray n }
 | .tup xs=>xs.length≤sizeLine∧∃its:List Value,Vals xs its∧IsTup h a its.toArray
 | .dK kvs=>kvs.length≤sizeLine∧(a == sysModules)=false∧∃vs,KV kvs vs∧h.DictOf (mixKind P w) a vs
 | .dT kvs=>kvs.length≤sizeLine∧(a == sysModules)=false∧∃xs:List (List Key×Addr×Value),
   Paired (fun (p:List Key×V) (q:List Key×Addr×Value)=>p.1=q.1∧H q.2.1=some (.tup (p.1.map kV))∧RelV p.2 q.2.2) kvs xs ∧
   ∃o es ep,h.get? a=some o∧o.ExactDict∧o.data = .dict es ep∧es.toList=xs.map (entryOfKey (tupleKind (mixKind P w)))∧(xs.map (·.1)).Nodup
 | .set S n=>h.SetOf (intKind P w) a S n
 | .ins C dx fs=>H dx=some (.own a)∧fs.length≤1000∧dx≠a∧h.get? a=some (PySem.W.instObj C dx) ∧
   ∃mA,h.Ns1 dx mA∧(∀f,RelO (fs.lookup f) (mA f))∧PySem.Within mA (fs.map (·.1))
 | .own _=>∃o,h.get? a=some o
 | .xd fs=>∃mA,h.Ns1 a mA∧∀f,RelO (fs.lookup f) (mA f)
 | .rng lo hi=>∃t u v,h.get? a=some { cls:=.type "range",data:=.fields #[.int lo t,.int hi u,.int 1 v] }
 | .frz o u=>h.get? a=some o∧ObjOk H h a u
 | .tbl ps=>h.get? a=some { cls:=.none,data:=.fields ps }
 | .met f x=>h.get? a=some (PySem.W.methodObj (.ref f) (.ref x))
 | .ext φ=>φ h∧(∃o,h.get? a=some o)∧∀h1 h2:Heap,φ h1→(∀o,h1.get? a=some o→h2.get? a=some o)→φ h2
def HOk(H:Hp)(h:Heap):Prop:=∀a o,H a=some o→ObjOk P w H h a o
end
section
variable{P:Program}{w:World}{H H':Hp}{h h':Heap}{a:Addr}{o:HO}
theorem ObjOk.lt(x:ObjOk P w H h a o):a < h.objs.size:=by
 cases o with
 | lst xs=>obtain ⟨_,_,_,_,e⟩:=x;exact Heap.lt_size e
 | tup xs=>obtain ⟨_,_,_,p⟩:=x;exact p.lt
 | dK kvs=>obtain ⟨_,_,_,_,o,_,_,e,_⟩:=x;exact Heap.lt_size e
 | dT kvs=>obtain ⟨_,_,_,_,o,_,_,e,_⟩:=x;exact Heap.lt_size e
 | set S n=>obtain ⟨o,_,_,_,e,_⟩:=x;exact Heap.lt_size e
 | ins C dx fs=>obtain ⟨_,_,_,e,_⟩:=x;exact Heap.lt_size e
 | own y=>obtain ⟨_,e⟩:=x;exact Heap.lt_size e
 | xd fs=>obtain ⟨_,⟨_,_,_,e,_⟩,_⟩:=x;exact Heap.lt_size e
 | rng lo hi=>obtain ⟨_,_,_,e⟩:=x;exact Heap.lt_size e
 | frz ob u=>obtain ⟨e,_⟩:=x;exact Heap.lt_size e
 | tbl ps=>exact Heap.lt_size (show h.get? a=some _ from x)
 | met f y=>exact Heap.lt_size (show h.get? a=some _ from x)
 | ext φ=>obtain ⟨_,⟨_,e⟩,_⟩:=x;exact Heap.lt_size e
theorem Paired.mapP{α β : Type}{F G : α→β→Prop}:∀{l₁ : List α} {l₂ : List β},Paired F l₁ l₂→(∀a b,F a b→G a b)→Paired G l₁ l₂
 | _,_,.nil,_=>.nil
 | _,_,.cons r t,f=>.cons (f _ _ r) (Paired.mapP t f)
theorem ObjOk.stay(x:ObjOk P w H h a o)(k:∀b u,(b=a∨H b=some (.own a))→h.get? b=some u→h'.get? b=some u)
  (ho:∀b,H b=some (.own a)→H' b=some (.own a)) (ht:∀b xs,H b=some (.tup xs)→H' b=some (.tup xs)):ObjOk P w H' h' a o:=by
 induction o with
 | lst xs=>obtain ⟨z,its,n,r,e⟩:=x;exact ⟨z,its,n,r,k _ _ (.inl rfl) e⟩
 | tup xs=>obtain ⟨z,its,r,ob,e,c⟩:=x;exact ⟨z,its,r,ob,k _ _ (.inl rfl) e,c⟩
 | dK kvs=>obtain ⟨z,y,vs,r,ob,es,ep,e,c⟩:=x;exact ⟨z,y,vs,r,ob,es,ep,k _ _ (.inl rfl) e,c⟩
 | dT kvs =>
  obtain ⟨z,y,xs,r,ob,es,ep,e,c⟩:=x;exact ⟨z,y,xs,Paired.mapP r fun p q z=>⟨z.1,ht _ _ z.2.1,z.2.2⟩,ob,es,ep,k _ _ (.inl rfl) e,c⟩
 | set S n=>obtain ⟨ob,es,ep,t,e,c⟩:=x;exact ⟨ob,es,ep,t,k _ _ (.inl rfl) e,c⟩
 | ins C dx fs =>
  obtain ⟨d,z,ne,e,mA,⟨od,es,ep,e2,c⟩,r⟩:=x;exact ⟨ho _ d,z,ne,k _ _ (.inl rfl) e,mA,⟨od,es,ep,k _ _ (.inr d) e2,c⟩,r⟩
 | own y=>obtain ⟨ob,e⟩:=x;exact ⟨ob,k _ _ (.inl rfl) e⟩
 | xd fs=>obtain ⟨mA,⟨od,es,ep,e,c⟩,r⟩:=x;exact ⟨mA,⟨od,es,ep,k _ _ (.inl rfl) e,c⟩,r⟩
 | rng lo hi=>obtain ⟨t,u,v,e⟩:=x;exact ⟨t,u,v,k _ _ (.inl rfl) e⟩
 | frz ob u ih=>obtain ⟨e,q⟩:=x;exact ⟨k _ _ (.inl rfl) e,ih q⟩
 | tbl ps =>
  have e:h.get? a=some { cls:=.none,data:=.fields ps }:=x;show h'.get? a=some { cls:=.none,data:=.fields ps };exact k a _ (.inl rfl) e
 | met f y =>
  have e:h.get? a=some (PySem.W.methodObj (.ref f) (.ref y)):=x;show h'.get? a=some (PySem.W.methodObj (.ref f) (.ref y));exact k a _ (.inl rfl) e
 | ext φ=>obtain ⟨p,⟨o,e⟩,st⟩:=x;exact ⟨st _ _ p fun o q=>k _ _ (.inl rfl) q,⟨o,k _ _ (.inl rfl) e⟩,st⟩
theorem HOk.lt(x:HOk P w H h)(e:H a=some o):a < h.objs.size:=(x a o e).lt
theorem HOk.fresh(x:HOk P w H h)(e:h.objs.size≤a):H a=none:=by
 cases q:H a with
 | none=>rfl
 | some u=>exact absurd (Nat.lt_of_lt_of_le (x.lt q) e) (Nat.lt_irrefl _)
theorem HOk.kept(x:HOk P w H h)(k:∀b u,h.get? b=some u→h'.get? b=some u):HOk P w H h':=fun a o e =>
 (x a o e).stay (fun b u _ q=>k b u q) (fun _ q=>q) fun _ _ q=>q
theorem HOk.laid(x:HOk P w H h)(k:∀b u,h.get? b=some u→h'.get? b=some u)(hp:h.objs.size≤a)(new:ObjOk P w (upd H a o) h' a o):HOk P w (upd H a o) h':=fun b u e=>by
 have hn:=x.fresh hp;by_cases hb:b=a
 ·subst hb;rw [upd_same] at e;cases e;exact new
 ·rw [upd_ne hb] at e;exact (x b u e).stay (fun c v _ q=>k c v q) (fun c q=>by rw [upd_ne (ne_of_none q hn)];exact q) fun c xs q=>by rw [upd_ne (ne_of_none q hn)];exact q
end
def Rd(H:Hp)(a:Addr)(u:HO):Prop:=H a=some u∨∃o,H a=some (.frz o u)
theorem Rd.ok{P:Program}{w:World}{H:Hp}{h:Heap}{a:Addr}{u:HO}(r:Rd H a u)(x:HOk P w H h):ObjOk P w H h a u:=by
 rcases r with r | ⟨o,r⟩
 ·exact x a u r
 ·obtain ⟨_,q⟩:=x a _ r;exact q
def Mut:Option HO→Prop
 | some (.lst _)=>True
 | some (.dK _)=>True
 | some (.dT _)=>True
 | some (.set _ _)=>True
 | some (.ins _ _ _)=>True
 | some (.ext _)=>True
 | _=>False
section
variable{P:Program}{w:World}{H:Hp}{h h':Heap}{x e:Addr}{o':HO}
theorem HOk.write(ok:HOk P w H h)(mu:Mut (H x))(he:e=x∨H e=some (.own x))(k:∀b u,b≠e→h.get? b=some u→h'.get? b=some u)(heo:∃u,h'.get? e=some u)
  (new:ObjOk P w (upd H x o') h' x o'):HOk P w (upd H x o') h':=fun b u q=>by
 have nown:∀c y,H c=some (.own y)→c≠x:=fun c y r z=>by subst z;rw [r] at mu;exact mu
 have ntup:∀c xs,H c=some (.tup xs)→c≠x:=fun c xs r z=>by subst z;rw [r] at mu;exact mu
 by_cases hb:b=x
 ·subst hb;rw [upd_same] at q;cases q;exact new
 ·rw [upd_ne hb] at q;by_cases hbe:b=e
  ·have q':H b=some (.own x):=by
    rcases he with z | z
    ·exact absurd (hbe.trans z) hb
    ·rw [hbe];exact z
   rw [q] at q';cases q';obtain ⟨v,hv⟩:=heo;exact ⟨v,by rw [hbe];exact hv⟩
  ·refine (ok b u q).stay (fun c v hc r=>k c v ?_ r) (fun c r=>by rw [upd_ne (nown c b r)];exact r) fun c xs r=>by rw [upd_ne (ntup c xs r)];exact r
   rcases hc with rfl | hc
   ·exact hbe
   ·rintro rfl;rcases he with z | z
    ·exact nown c b hc z
    ·rw [hc] at z;cases z;exact hb rfl
end
structure Un (fs ex:List Addr) (H H':Hp) (h h':Heap):Prop where
 keep:∀b o,h.get? b=some o→H b=none→b∉fs→b∉ex→h'.get? b=some o
 slot:∀b o,h.get? b=some o→H b=none→b∈fs→b∉ex→∃sl,h'.get? b=some { o with slots:=sl }
 free:∀b o,h.get? b=some o→H b=none→b∉ex→H' b=none
 there:∀b o,h.get? b=some o→b∉ex→∃o',h'.get? b=some o'
 tups:∀b xs,H b=some (.tup xs)→H' b=some (.tup xs)
 frzs:∀b o u,H b=some (.frz o u)→H' b=some (.frz o u)
 tbls:∀b ps,H b=some (.tbl ps)→∃more,H' b=some (.tbl (ps++more))
section
variable{fs fs' ex ex':List Addr}{H H1 H2:Hp}{h h1 h2 h':Heap}{a x e:Addr}{o:HO}
theorem Un.any(u:Un fs ex H H1 h h1){b:Addr}{ob:Obj}(q:h.get? b=some ob)(n:H b=none)(hx:b∉ex):∃sl,h1.get? b=some { ob with slots:=sl }:=by
 by_cases hb:b∈fs
 ·exact u.slot b ob q n hb hx
 ·exact ⟨ob.slots,u.keep b ob q n hb hx⟩
theorem Un.kept(k:∀b u,h.get? b=some u→h'.get? b=some u):Un fs ex H H h h' :=
 ⟨fun b ob q _ _ _=>k b ob q,fun b ob q _ _ _=>⟨ob.slots,k b ob q⟩,fun _ _ _ n _=>n,fun b ob q _=>⟨ob,k b ob q⟩,fun _ _ q=>q,fun _ _ _ q=>q,fun _ ps q=>⟨#[],by rw [q];simp⟩⟩
theorem Un.refl:Un fs ex H H h h:=Un.kept fun _ _ q=>q
theorem Un.laid(k:∀b u,h.get? b=some u→h'.get? b=some u)(hp:h.objs.size≤a)(hn:H a=none):Un fs ex H (upd H a o) h h' where
 keep:=fun b u q _ _ _=>k b u q
 slot:=fun b u q _ _ _=>⟨u.slots,k b u q⟩
 free:=fun b u q n _=>by rw [upd_ne (Nat.ne_of_lt (Nat.lt_of_lt_of_le (Heap.lt_size q) hp))];exact n
 there:=fun b u q _=>⟨u,k b u q⟩
 tups:=fun b xs q=>by rw [upd_ne (ne_of_none q hn)];exact q
 frzs:=fun b u xs q=>by rw [upd_ne (ne_of_none q hn)];exact q
 tbls:=fun b ps q=>⟨#[],by rw [upd_ne (ne_of_none q hn),q];simp⟩
theorem Un.write(mu:Mut (H x))(he:e=x∨H e=some (.own x))(k:∀b u,b≠e→h.get? b=some u→h'.get? b=some u)(heo:∃u,h'.get? e=some u):Un fs ex H (upd H x o) h h':=by
 have hx:∀b,H b=none→b≠x:=fun b n z=>by subst z;rw [n] at mu;exact mu
 have hb:∀b,H b=none→b≠e:=fun b n z=>by
  subst z;rcases he with r | r
  ·exact hx b n r
  ·rw [n] at r;cases r
 have hm:∀b u,H b=some u→¬ Mut (some u)→b≠x:=fun b u q nm z=>by subst z;rw [q] at mu;exact nm mu
 refine ⟨fun b u q n _ _=>k b u (hb b n) q,fun b u q n _ _=>⟨u.slots,k b u (hb b n) q⟩,fun b u q n _=>by rw [upd_ne (hx b n)];exact n,fun b u q _=>?_,
  fun b xs q=>by rw [upd_ne (hm b _ q fun z=>z)];exact q,fun b u xs q=>by rw [upd_ne (hm b _ q fun z=>z)];exact q,fun b ps q=>⟨#[],by rw [upd_ne (hm b _ q fun z=>z),q];simp⟩⟩
 by_cases hbe:b=e
 ·subst hbe;exact heo
 ·exact ⟨u,k b u hbe q⟩
end
def trk(h:Heap)(H:Hp):List Addr:=(List.range h.objs.size).filter fun a=>(H a).isSome
def hidT(h:Heap)(H:Hp):Heap:=PySem.W.hideAll h (trk h H)
theorem hidT_size(h:Heap)(H:Hp):(hidT h H).objs.size=h.objs.size:=PySem.W.hideAll_size _ _
theorem hidT_get{h:Heap}{H:Hp}{b:Addr}{o:Obj}(e:h.get? b=some o)(n:H b=none):(hidT h H).get? b=some o :=
 PySem.W.hideAll_get _ e fun hm=>by
  have q:(H b).isSome=true:=(List.mem_filter.mp hm).2;rw [n] at q;simp at q
theorem of_hidT{h:Heap}{H:Hp}{b:Addr}{o:Obj}(e:(hidT h H).get? b=some o):h.get? b=some o∧H b=none:=by
 have e':h.get? b=some o:=PySem.W.of_hideAll (trk h H) e;refine ⟨e',?_⟩;cases q:H b with
 | none=>rfl
 | some x =>
  have hm:b∈trk h H:=List.mem_filter.mpr ⟨List.mem_range.mpr (Heap.lt_size e'),by simp [q]⟩;have z:(hidT h H).get? b=none:=PySem.W.hideAll_none (trk h H) hm;rw [z] at e;cases e
structure Mod (K:Fg) (mg:Str→Option Value) (base:Heap):Prop where
 kin:K.In base
 glob:base.Ns mainGlobals mg
 blt:∃mb,base.Ns builtinsNs mb∧∀x:Str,x≠"__name__"→mb x=bootBuiltins x
 nolimit:base.NoLimit
structure Cx where
 prog:Program
 w:World
 K:Fg
 mg:Str→Option Value
 base:Heap
 A:Around
 N:List Str
 s₀ : Shared
 H₀ : Hp
 env:Env
 outer:List Env
 stack:List Env
 ex:List Addr
 fn:Str→Bool
 calm:Bool
 pn:List (Addr×Obj)
 xe:Value→Shared→Prop
def frs(l:List Env):List Addr:=l.filterMap (·.frame)
abbrev Cx.fs(X:Cx):List Addr:=frs X.outer
def Vis(sc:Scope)(x:Str):Prop:=sc.names.lookup x=some .local∨sc.names.lookup x=some .cell∨sc.names.lookup x=some .free
def Loc(sc:Scope)(x:Str):Prop:=sc.names.lookup x=some .local∨sc.names.lookup x=some .cell
def Look(env:Env)(h:Heap)(m:Str→Option Value)(x:Str)(u:Value):Prop :=
 (env.kindOf x=some .local∧m x=some u)∨((env.kindOf x=some .cell∨env.kindOf x=some .free)∧∃c,env.cells.lookup x=some c∧h.IsCell c (some u))
structure Cx.Ok (X:Cx):Prop where
 mod:Mod X.K X.mg X.base
 kind:X.env.scope.kind = .function
 glob:X.env.globals=mainGlobals
 blt:X.env.builtins=builtinsNs
 above:X.s₀.heap.objs.size≤X.env.locals
 inj:∀x y c,X.env.cells.lookup x=some c→X.env.cells.lookup y=some c→x=y
 has:∀x,(X.env.kindOf x=some .cell∨X.env.kindOf x=some .free)→∃c,X.env.cells.lookup x=some c
 cab:∀x c,X.fn x=true→X.env.cells.lookup x=some c→X.s₀.heap.objs.size≤c
 hd:X.calm=true→X.A.handled=none
 frames:X.A.frames=some X.stack
 stk:X.stack=X.outer∨(X.stack=X.env :: X.outer∧X.env.frame=some X.env.locals)
 exf:∀b∈X.ex,b≠X.env.locals∧∀x c,X.env.cells.lookup x=some c→c≠b
 bs:∀b o,X.base.get? b=some o→X.s₀.heap.get? b=some o∧X.H₀ b=none
 bsz:X.base.objs.size≤X.s₀.heap.objs.size
 noex:∀b o,X.base.get? b=some o→b∉X.ex
 exfs:∀b∈X.ex,b∉X.fs
 funs:X.s₀.heap.FunFrames X.base X.outer
 frf:∀b∈X.fs,X.H₀ b=none
structure Inv (X:Cx) (pins:List (Addr×Obj)) (σ : List (Option V)) (H:Hp) (s:Shared):Prop where
 ok:X.Ok
 os:s.os=X.s₀.os
 bare:AllBare s.gens
 base:Un X.fs X.ex X.H₀ H X.s₀.heap s.heap
 loc:∃m,s.heap.Ns X.env.locals m∧∀(i:Nat) (x:Str) (v:V),X.N[i]? = some x→σ[i]? = some (some v)→Vis X.env.scope x→∃u,RelV v u∧Look X.env s.heap m x u
 cell:∀x c,X.env.cells.lookup x=some c→∃v,s.heap.IsCell c v
 free:H X.env.locals=none
 freeC:∀x c,X.env.cells.lookup x=some c→H c=none
 pin:∀p∈X.pn++pins,s.heap.get? p.1=some p.2∧H p.1=none∧p.1≠X.env.locals∧p.1∉X.fs∧∀v,p.2.data≠.cell v
 hok:HOk X.prog X.w H s.heap
 len : σ.length=X.N.length
section
variable{X:Cx}{pins:List (Addr×Obj)}{σ : List (Option V)}{H H':Hp}{s:Shared}{h':Heap}
theorem Cx.Ok.nofr(ok:X.Ok){b:Addr}{o:Obj}(e:X.base.get? b=some o):b∉X.fs:=fun hb=>by
 have:=(ok.funs.mem hb).1
 rw [e] at this;cases this
theorem Inv.bs(I:Inv X pins σ H s):∀b o,X.base.get? b=some o→s.heap.get? b=some o∧H b=none:=fun b o e =>
 ⟨I.base.keep b o (I.ok.bs b o e).1 (I.ok.bs b o e).2 (I.ok.nofr e) (I.ok.noex b o e),I.base.free b o (I.ok.bs b o e).1 (I.ok.bs b o e).2 (I.ok.noex b o e)⟩
theorem Inv.bk(I:Inv X pins σ H s):∀b o,X.base.get? b=some o→s.heap.get? b=some o:=fun b o e=>(I.bs b o e).1
theorem Inv.mod(I:Inv X pins σ H s):Mod X.K X.mg X.base:=I.ok.mod
theorem Inv.kIn(I:Inv X pins σ H s):X.K.In s.heap:=I.ok.mod.kin.keeps I.bk
theorem Inv.lt(I:Inv X pins σ H s):X.env.locals < s.heap.objs.size:=let ⟨_,hn,_⟩:=I.loc;hn.lt
theorem Inv.sz(I:Inv X pins σ H s):X.s₀.heap.objs.size≤s.heap.objs.size:=Nat.le_trans I.ok.above (Nat.le_of_lt I.lt)
theorem Inv.nofs(I:Inv X pins σ H s){a:Addr}(h:s.heap.objs.size≤a):a∉X.fs:=fun hb=>by
 obtain ⟨_,o,ho,_⟩:=I.ok.funs.mem hb;exact absurd (Nat.lt_of_lt_of_le (Heap.lt_size ho) (Nat.le_trans I.sz h)) (Nat.lt_irrefl _)
theorem Inv.cne(I:Inv X pins σ H s):∀x c,X.env.cells.lookup x=some c→c≠X.env.locals:=fun x c e z=>by
 obtain ⟨v,o,ho,hd⟩:=I.cell x c e;obtain ⟨m,⟨o',es,ep,ho',hd',_⟩,_⟩:=I.loc;rw [z,ho'] at ho;cases ho;rw [hd'] at hd;cases hd
theorem Inv.funs(I:Inv X pins σ H s):s.heap.FunFrames X.base X.outer:=by
 have all:∀(l:List Env),(∀b∈frs l,b∈X.fs)→X.s₀.heap.FunFrames X.base l→s.heap.FunFrames X.base l:=by
  intro l
  induction l with
  | nil=>intro _ _;trivial
  | cons env r ih =>
   intro hs hl;obtain ⟨hk,⟨L,o,hf,hn,ho,hd⟩,hr⟩:=hl;have hL:L∈X.fs:=hs L (by unfold frs;rw [List.filterMap_cons,hf];exact List.mem_cons_self);obtain ⟨sl,e⟩:=I.base.slot L o ho (I.ok.frf L hL) hL fun z=>I.ok.exfs L z hL
   exact ⟨hk,⟨L,_,hf,hn,e,hd⟩,ih (fun b hb=>hs b (by unfold frs;rw [List.filterMap_cons,hf];exact List.mem_cons_of_mem _ hb)) hr⟩
 exact all X.outer (fun _ hb=>hb) I.ok.funs
theorem Inv.stack(I:Inv X pins σ H s):s.heap.FunFrames X.base X.stack:=by
 rcases I.ok.stk with e | ⟨e,hf⟩
 ·rw [e];exact I.funs
 ·rw [e];obtain ⟨m,hn,_⟩:=I.loc;refine .cons (by rw [I.ok.kind];decide) hf hn ?_ I.funs;exact Heap.get?_none_of_le (Nat.le_trans I.ok.bsz I.ok.above)
theorem Inv.stkSub(I:Inv X pins σ H s):∀b∈frs X.stack,b∈X.env.locals :: X.fs:=fun b hb=>by
 rcases I.ok.stk with e | ⟨e,hf⟩
 ·rw [e] at hb;exact List.mem_cons_of_mem _ hb
 ·rw [e] at hb;unfold frs at hb;rw [List.filterMap_cons,hf] at hb;exact hb
theorem Inv.stkFree(I:Inv X pins σ H s):∀b∈frs X.stack,H b=none:=fun b hb=>by
 rcases List.mem_cons.mp (I.stkSub b hb) with e | hb
 ·rw [e];exact I.free
 ·obtain ⟨_,o,ho,_⟩:=I.ok.funs.mem hb;exact I.base.free b o ho (I.ok.frf b hb) fun z=>I.ok.exfs b z hb
theorem Inv.step{g':Array GenState}{t':Nat}{d':Drawn}{ch:List Addr}(I:Inv X pins σ H s)
  (hch:∀b∈ch,(b∈X.ex∨X.s₀.heap.objs.size≤b)∧b≠X.env.locals∧(∀x c,X.env.cells.lookup x=some c→c≠b)∧∀p∈X.pn++pins,p.1≠b)
  (keep:∀b o,b≠X.env.locals→b∉X.fs→b∉ch→s.heap.get? b=some o→H b=none→h'.get? b=some o)
  (slot:∀b o,b≠X.env.locals→b∈X.fs→b∉ch→s.heap.get? b=some o→H b=none→∃sl,h'.get? b=some { o with slots:=sl }) (free:∀b o,b∉ch→s.heap.get? b=some o→H b=none→H' b=none)
  (there:∀b o,b∉ch→s.heap.get? b=some o→∃o',h'.get? b=some o')
  (tups:∀b xs,H b=some (.tup xs)→H' b=some (.tup xs)) (frzs:∀b o u,H b=some (.frz o u)→H' b=some (.frz o u)) (tbls:∀b ps,H b=some (.tbl ps)→∃more,H' b=some (.tbl (ps++more)))
  (ns:∀m,s.heap.Ns X.env.locals m→h'.Ns X.env.locals m) (hok:HOk X.prog X.w H' h') (hg:AllBare g') :
  Inv X pins σ H' { s with heap:=h',gens:=g',drawn:=d',toks:=t' }:=by
 have neL:∀b o,X.s₀.heap.get? b=some o→b≠X.env.locals:=fun b o e=>Nat.ne_of_lt (Nat.lt_of_lt_of_le (Heap.lt_size e) I.ok.above)
 have neC:∀b o,X.s₀.heap.get? b=some o→b∉X.ex→b∉ch:=fun b o e hx hb=>by
  rcases (hch b hb).1 with z | z
  ·exact hx z
  ·exact absurd (Nat.lt_of_lt_of_le (Heap.lt_size e) z) (Nat.lt_irrefl _)
 have cellK:∀x c,X.env.cells.lookup x=some c→∀v,s.heap.IsCell c v→h'.IsCell c v:=fun x c e v ⟨o,ho,hd⟩=>by
  have nch:c∉ch:=fun z=>(hch c z).2.2.1 x c e rfl
  by_cases hc:c∈X.fs
  ·obtain ⟨sl,q⟩:=slot c o (I.cne x c e) hc nch ho (I.freeC x c e);exact ⟨_,q,hd⟩
  ·exact ⟨o,keep c o (I.cne x c e) hc nch ho (I.freeC x c e),hd⟩
 refine ⟨I.ok,I.os,hg,⟨fun b o e n hb hx=>?_,fun b o e n hb hx=>?_,fun b o e n hx=>?_,fun b o e hx=>?_,fun b xs e=>tups b xs (I.base.tups b xs e),fun b o xs e=>frzs b o xs (I.base.frzs b o xs e),fun b ps e=>?_⟩,?_,fun x c e=>?_,?_,fun x c e=>?_,fun p hp=>?_,hok,I.len⟩
 ·exact keep b o (neL b o e) hb (neC b o e hx) (I.base.keep b o e n hb hx) (I.base.free b o e n hx)
 ·obtain ⟨sl,e1⟩:=I.base.slot b o e n hb hx;obtain ⟨sl',e2⟩:=slot b _ (neL b o e) hb (neC b o e hx) e1 (I.base.free b o e n hx);exact ⟨sl',e2⟩
 ·obtain ⟨o',e1⟩:=I.base.there b o e hx;exact free b o' (neC b o e hx) e1 (I.base.free b o e n hx)
 ·obtain ⟨o',e1⟩:=I.base.there b o e hx;exact there b o' (neC b o e hx) e1
 ·obtain ⟨m1,e1⟩:=I.base.tbls b ps e;obtain ⟨m2,e2⟩:=tbls b _ e1;exact ⟨m1++m2,by rw [e2,Array.append_assoc]⟩
 ·obtain ⟨m,hn,hl⟩:=I.loc;refine ⟨m,ns m hn,fun i x v e1 e2 e3=>?_⟩;obtain ⟨u,r,l⟩:=hl i x v e1 e2 e3;refine ⟨u,r,?_⟩;rcases l with l | ⟨k,c,e,z⟩
  ·exact .inl l
  ·exact .inr ⟨k,c,e,cellK x c e _ z⟩
 ·obtain ⟨v,z⟩:=I.cell x c e;exact ⟨v,cellK x c e v z⟩
 ·obtain ⟨m,⟨o,_,_,ho,_⟩,_⟩:=I.loc;exact free _ o (fun z=>(hch _ z).2.1 rfl) ho I.free
 ·obtain ⟨v,o,ho,hd⟩:=I.cell x c e;exact free c o (fun z=>(hch c z).2.2.1 x c e rfl) ho (I.freeC x c e)
 ·obtain ⟨e,n,ne,nf,d⟩:=I.pin p hp;have nch:p.1∉ch:=fun z=>(hch p.1 z).2.2.2 p hp rfl
  exact ⟨keep p.1 p.2 ne nf nch e n,free p.1 p.2 nch e n,ne,nf,d⟩
theorem Inv.un{t':Nat}(I:Inv X pins σ H s)(u:Un X.fs [] H H' s.heap h')(hok:HOk X.prog X.w H' h'):Inv X pins σ H' { s with heap:=h',toks:=t' }:=by
 obtain ⟨m,⟨o,es,ep,ho,r⟩,_⟩:=id I.loc;obtain ⟨sl,hL⟩:=u.any ho I.free (by simp)
 exact I.step (g':=s.gens) (d':=s.drawn) (ch:=[]) (fun _ z=>nomatch z) (fun b o _ hb _ e n=>u.keep b o e n hb (by simp)) (fun b o _ hb _ e n=>u.slot b o e n hb (by simp)) (fun b o _ e n=>u.free b o e n (by simp)) (fun b o _ e=>u.there b o e (by simp)) u.tups u.frzs u.tbls (fun m' hm=>by
  obtain ⟨o',es',ep',ho',r'⟩:=hm
  rw [ho] at ho';cases ho'
  exact ⟨_,es',ep',hL,r'⟩) hok I.bare
theorem Inv.call{g':Array GenState}{t':Nat}{d':Drawn}{ch:List Addr}(I:Inv X pins σ H s)(u:Un (frs X.stack) ch H H' s.heap h')(hok:HOk X.prog X.w H' h')(hg:AllBare g')
  (hch:∀b∈ch,(b∈X.ex∨X.s₀.heap.objs.size≤b)∧b≠X.env.locals∧(∀x c,X.env.cells.lookup x=some c→c≠b)∧∀p∈X.pn++pins,p.1≠b) :
  Inv X pins σ H' { s with heap:=h',gens:=g',drawn:=d',toks:=t' }:=by
 obtain ⟨m,⟨o,es,ep,ho,r⟩,_⟩:=id I.loc;obtain ⟨sl,hL⟩:=u.any ho I.free fun z=>(hch _ z).2.1 rfl
 exact I.step (ch:=ch) hch (fun b o hL hb hc e n=>u.keep b o e n (fun z=>(List.mem_cons.mp (I.stkSub b z)).elim hL hb) hc) (fun b o _ _ hc e n=>u.any e n hc) (fun b o hc e n=>u.free b o e n hc) (fun b o hc e=>u.there b o e hc) u.tups u.frzs u.tbls (fun m' hm=>by
  obtain ⟨o',es',ep',ho',r'⟩:=hm
  rw [ho] at ho';cases ho'
  exact ⟨_,es',ep',hL,r'⟩) hok hg
theorem Inv.turned{t':Nat}{it:Addr}(I:Inv X pins σ H s)(k:∀b o,b≠it→s.heap.get? b=some o→h'.get? b=some o)(hn:H it=none)(hL:it≠X.env.locals)
  (h1:it∈X.ex∨X.s₀.heap.objs.size≤it) (h2:∀x c,X.env.cells.lookup x=some c→c≠it) (h3:∀p∈X.pn++pins,p.1≠it):Inv X pins σ H { s with heap:=h',toks:=t' }:=by
 have nit:∀b u,H b=some u→b≠it:=fun b u e z=>by rw [z,hn] at e;cases e
 refine I.step (g':=s.gens) (d':=s.drawn) (ch:=[it]) (fun b hb=>?_) (fun b o _ _ hc e _=>k b o (fun z=>hc (by simp [z])) e) (fun b o _ _ hc e _=>⟨o.slots,k b o (fun z=>hc (by simp [z])) e⟩) (fun _ _ _ _ n=>n)
  (fun b o hc e=>⟨o,k b o (fun z=>hc (by simp [z])) e⟩) (fun _ _ e=>e) (fun _ _ _ e=>e) (fun b ps e=>⟨#[],by rw [e];simp⟩) (fun m hm=>?_) (fun b u e=>?_) I.bare
 ·have e:b=it:=by simpa using hb
  subst e;exact ⟨h1,hL,h2,h3⟩
 ·obtain ⟨o,es,ep,ho,r⟩:=hm;exact ⟨o,es,ep,k _ o (Ne.symm hL) ho,r⟩
 ·refine (I.hok b u e).stay (fun c v hc q=>k c v ?_ q) (fun _ q=>q) fun _ _ q=>q
  rcases hc with z | z
  ·rw [z];exact nit b u e
  ·exact nit c _ z
theorem Inv.tok(I:Inv X pins σ H s)(t:Nat):Inv X pins σ H { s with toks:=t }:=I.un (h':=s.heap) (t':=t) Un.refl I.hok
theorem Inv.kept{t':Nat}(I:Inv X pins σ H s)(k:∀b u,s.heap.get? b=some u→h'.get? b=some u):Inv X pins σ H { s with heap:=h',toks:=t' }:=I.un (Un.kept k) (I.hok.kept k)
theorem Inv.laid{a:Addr}{o:HO}{t':Nat}(I:Inv X pins σ H s)(k:∀b u,s.heap.get? b=some u→h'.get? b=some u)(hp:s.heap.objs.size≤a)(new:ObjOk X.prog X.w (upd H a o) h' a o) :
  Inv X pins σ (upd H a o) { s with heap:=h',toks:=t' }:=I.un (Un.laid k hp (I.hok.fresh hp)) (I.hok.laid k hp new)
theorem Inv.write{x e:Addr}{o:HO}{t':Nat}(I:Inv X pins σ H s)(mu:Mut (H x))(he:e=x∨H e=some (.own x))(k:∀b u,b≠e→s.heap.get? b=some u→h'.get? b=some u)(heo:∃u,h'.get? e=some u)
  (new:ObjOk X.prog X.w (upd H x o) h' x o):Inv X pins σ (upd H x o) { s with heap:=h',toks:=t' }:=I.un (Un.write mu he k heo) (I.hok.write mu he k heo new)
theorem Inv.pins_of{pins':List (Addr×Obj)}(I:Inv X pins σ H s)(h:∀p∈pins',s.heap.get? p.1=some p.2∧H p.1=none∧p.1≠X.env.locals∧p.1∉X.fs∧∀v,p.2.data≠.cell v):Inv X pins' σ H s :=
 ⟨I.ok,I.os,I.bare,I.base,I.loc,I.cell,I.free,I.freeC,fun p hp=>(List.mem_append.mp hp).elim (fun z=>I.pin p (List.mem_append_left _ z)) (h p),I.hok,I.len⟩
theorem nodup_ix{N:List Str}(hN:N.Nodup){i j:Nat}{x:Str}(a:N[i]? = some x)(b:N[j]? = some x):i=j:=by
 obtain ⟨h1,e1⟩:=List.getElem?_eq_some_iff.mp a;obtain ⟨h2,e2⟩:=List.getElem?_eq_some_iff.mp b;exact (List.getElem_inj hN).mp (e1.trans e2.symm)
theorem store_ok2{M:Model}{A:Around}{E:Value→Shared→Prop}{i:Nat}{x:Str}{v:V}{u:Value}{Q:Unit→Shared→Prop}(I:Inv X pins σ H s)(hN:X.N.Nodup)(hi:X.N[i]? = some x)(hx:Loc X.env.scope x)(r:RelV v u)
  (h:∀s',Inv X pins (σ.set i (some v)) H s'→(∃a,Heap.SameBut a s.heap s'.heap∧(a=X.env.locals∨X.env.cells.lookup x=some a))→Q () s') (hf:X.fn x=true∨X.env.scope.names.lookup x=some .local:=by first | exact .inl rfl | exact .inr rfl | assumption):wpAny M A (storeName X.env x u) Q E s:=by
 obtain ⟨m,hn,hl⟩:=id I.loc;have hcls:(X.env.scope.kind == .class || (X.env.scope.kind == .module && X.env.locals != X.env.globals))=false:=by rw [I.ok.kind];rfl
 have hiσ : i < σ.length:=by rw [I.len];exact (List.getElem?_eq_some_iff.mp hi).1
 have cne:=I.cne
 have tracked:∀{a:Addr} {h':Heap},(∃o,s.heap.get? a=some o∧H a=none)→Heap.SameBut a s.heap h'→HOk X.prog X.w H h':=fun {a h'} ha hs b ob e=>by
  obtain ⟨_,_,hfree⟩:=ha;refine (I.hok b ob e).stay (fun c w' hc q=>(hs.2 c ?_).trans q) (fun _ q=>q) fun _ _ q=>q
  rintro rfl;rcases hc with rfl | hc
  ·rw [hfree] at e;cases e
  ·rw [hfree] at hc;cases hc
 rcases hx with hk | hk
 ·refine wpAny_storeName_local hk hn (fun h' hn' hs=>?_) hcls;obtain ⟨oL,_,_,hoL,_⟩:=id hn;refine h _ ⟨I.ok,I.os,I.bare,⟨fun b o e n hb hx=>?_,fun b o e n hb hx=>?_,I.base.free,fun b o e hx=>?_,I.base.tups,I.base.frzs,I.base.tbls⟩,⟨_,hn',fun j y v' e1 e2 e3=>?_⟩,fun y c e=>?_,I.free,I.freeC,fun p hp=>?_,tracked ⟨oL,hoL,I.free⟩ hs,by simpa using I.len⟩ ⟨_,hs,.inl rfl⟩
  ·exact (hs.2 b (Nat.ne_of_lt (Nat.lt_of_lt_of_le (Heap.lt_size e) I.ok.above))).trans (I.base.keep b o e n hb hx)
  ·obtain ⟨sl,e1⟩:=I.base.slot b o e n hb hx;exact ⟨sl,(hs.2 b (Nat.ne_of_lt (Nat.lt_of_lt_of_le (Heap.lt_size e) I.ok.above))).trans e1⟩
  ·obtain ⟨o',e1⟩:=I.base.there b o e hx;exact ⟨o',(hs.2 b (Nat.ne_of_lt (Nat.lt_of_lt_of_le (Heap.lt_size e) I.ok.above))).trans e1⟩
  ·by_cases hj:j=i
   ·subst hj;rw [hi] at e1;cases e1;rw [List.getElem?_set_self hiσ] at e2;cases e2;exact ⟨u,r,.inl ⟨hk,by simp⟩⟩
   ·rw [List.getElem?_set_ne (Ne.symm hj)] at e2;obtain ⟨u',r',q⟩:=hl j y v' e1 e2 e3;refine ⟨u',r',?_⟩;rcases q with ⟨k,e⟩ | ⟨k,c,e,z⟩
    ·refine .inl ⟨k,?_⟩
     have:y≠x:=fun e=>hj (nodup_ix hN e1 (e ▸ hi))
     simp [this,e]
    ·exact .inr ⟨k,c,e,z.sameBut hs (cne y c e)⟩
  ·obtain ⟨w',z⟩:=I.cell y c e;exact ⟨w',z.sameBut hs (cne y c e)⟩
  ·obtain ⟨e,n,ne,nf,d⟩:=I.pin p hp;exact ⟨(hs.2 p.1 ne).trans e,n,ne,nf,d⟩
 ·have hfn:X.fn x=true:=by
   rcases hf with z | z
   ·exact z
   ·rw [z] at hk;cases hk
  obtain ⟨c,hc⟩:=I.ok.has x (.inl hk);obtain ⟨w',z⟩:=I.cell x c hc;refine wpAny_storeName_cell I.ok.kind hk hc z (fun h' hc' hs=>?_);obtain ⟨oc,hoc,hocd⟩:=id z;refine h { s with heap:=h' } ⟨I.ok,I.os,I.bare,⟨fun b o e n hb hx=>?_,fun b o e n hb hx=>?_,I.base.free,fun b o e hx=>?_,I.base.tups,I.base.frzs,I.base.tbls⟩,⟨m,hn.sameBut hs (Ne.symm (cne x c hc)),fun j y v' e1 e2 e3=>?_⟩,fun y c' e=>?_,I.free,I.freeC,fun p hp=>?_,tracked ⟨oc,hoc,I.freeC x c hc⟩ hs,by simpa using I.len⟩ ⟨c,hs,.inr hc⟩
  ·exact (hs.2 b (Nat.ne_of_lt (Nat.lt_of_lt_of_le (Heap.lt_size e) (I.ok.cab x c hfn hc)))).trans (I.base.keep b o e n hb hx)
  ·obtain ⟨sl,e1⟩:=I.base.slot b o e n hb hx;exact ⟨sl,(hs.2 b (Nat.ne_of_lt (Nat.lt_of_lt_of_le (Heap.lt_size e) (I.ok.cab x c hfn hc)))).trans e1⟩
  ·obtain ⟨o',e1⟩:=I.base.there b o e hx;exact ⟨o',(hs.2 b (Nat.ne_of_lt (Nat.lt_of_lt_of_le (Heap.lt_size e) (I.ok.cab x c hfn hc)))).trans e1⟩
  ·by_cases hj:j=i
   ·subst hj;rw [hi] at e1;cases e1;rw [List.getElem?_set_self hiσ] at e2;cases e2;exact ⟨u,r,.inr ⟨.inl hk,c,hc,hc'⟩⟩
   ·rw [List.getElem?_set_ne (Ne.symm hj)] at e2;obtain ⟨u',r',q⟩:=hl j y v' e1 e2 e3;refine ⟨u',r',?_⟩;rcases q with q | ⟨k,c',e,z'⟩
    ·exact .inl q
    ·refine .inr ⟨k,c',e,z'.sameBut hs ?_⟩;rintro rfl;exact hj (nodup_ix hN e1 (I.ok.inj _ _ _ e hc ▸ hi))
  ·by_cases hcc:c'=c
   ·subst hcc;exact ⟨_,hc'⟩
   ·obtain ⟨w2,z2⟩:=I.cell y c' e;exact ⟨w2,z2.sameBut hs hcc⟩
  ·obtain ⟨e,n,ne,nf,d⟩:=I.pin p hp;refine ⟨(hs.2 p.1 ?_).trans e,n,ne,nf,d⟩;intro q;rw [q,hoc] at e;have q':oc=p.2:=Option.some.inj e;exact d w' (by rw [← q'];exact hocd)
theorem store_ok{M:Model}{A:Around}{E:Value→Shared→Prop}{i:Nat}{x:Str}{v:V}{u:Value}{Q:Unit→Shared→Prop}(I:Inv X pins σ H s)(hN:X.N.Nodup)(hi:X.N[i]? = some x)(hx:Loc X.env.scope x)(r:RelV v u)
  (h:∀s',Inv X pins (σ.set i (some v)) H s'→Q () s') (hf:X.fn x=true∨X.env.scope.names.lookup x=some .local:=by first | exact .inl rfl | exact .inr rfl | assumption):wpAny M A (storeName X.env x u) Q E s :=
 store_ok2 I hN hi hx r (fun s' I' _=>h s' I') hf
theorem Inv.call'{s':Shared}{ch:List Addr}(I:Inv X pins σ H s)(ho:s'.os=s.os)(u:Un (frs X.stack) ch H H' s.heap s'.heap)(hok:HOk X.prog X.w H' s'.heap)(hg:AllBare s'.gens)
  (hch:∀b∈ch,(b∈X.ex∨X.s₀.heap.objs.size≤b)∧b≠X.env.locals∧(∀x c,X.env.cells.lookup x=some c→c≠b)∧∀p∈X.pn++pins,p.1≠b):Inv X pins σ H' s':=by
 obtain ⟨h',g',d',t',o'⟩:=s';have e:o'=s.os:=ho;subst e;exact I.call (g':=g') (t':=t') (d':=d') u hok hg hch
end
abbrev XK:=Value→Option Addr→Hp→Prop
abbrev St:=List (Option V)
abbrev VK:=V→Hp→Prop
abbrev TE:=St→Hp→VK→Prop
abbrev TT:=St→Hp→(Bool→Hp→Prop)→Prop
abbrev TA:=St→Hp→(List V→Hp→Prop)→Prop
structure Ends where
 nx:St→Hp→Prop
 rt:VK
 bk:St→Hp→Prop:=fun _ _=>False
 ct:St→Hp→Prop:=fun _ _=>False
abbrev TS:=Ends→St→Hp→Prop
def EP(X:Cx)(pins:List (Addr×Obj))(σ : St)(Q:VK)(u:Value)(s':Shared):Prop:=∃v H',Inv X pins σ H' s'∧RelV v u∧Q v H'
def TP(X:Cx)(pins:List (Addr×Obj))(σ : St)(Q:Bool→Hp→Prop)(b:Bool)(s':Shared):Prop:=∃H',Inv X pins σ H' s'∧Q b H'
def AP(X:Cx)(pins:List (Addr×Obj))(σ : St)(Q:List V→Hp→Prop)(us:List Value)(s':Shared):Prop:=∃vs H',Inv X pins σ H' s'∧Vals vs us∧Q vs H'
def SP(X:Cx)(pins:List (Addr×Obj))(D:Ends)(f:Flow)(s':Shared):Prop :=
 match f with
 | .next=>∃σ' H',Inv X pins σ' H' s'∧D.nx σ' H'
 | .brk=>∃σ' H',Inv X pins σ' H' s'∧D.bk σ' H'
 | .cont=>∃σ' H',Inv X pins σ' H' s'∧D.ct σ' H'
 | .ret u=>∃v σ' H',Inv X pins σ' H' s'∧RelV v u∧D.rt v H'
def PE(X:Cx)(e:Expr)(t:TE):Prop :=
 ∀(pins:List (Addr×Obj)) (s:Shared) (σ : St) (H:Hp) (Q:VK),Inv X pins σ H s→t σ H Q→wpAny (model X.prog X.w) X.A (eval e X.env) (EP X pins σ Q) X.xe s
def PT(X:Cx)(e:Expr)(t:TT):Prop :=
 ∀(pins:List (Addr×Obj)) (s:Shared) (σ : St) (H:Hp) (Q:Bool→Hp→Prop),Inv X pins σ H s→t σ H Q→wpAny (model X.prog X.w) X.A (isTrue e X.env (eval e X.env)) (TP X pins σ Q) X.xe s
def PW(X:Cx)(e:Expr)(t:TT):Prop :=
 ∀(whole:Sem Value) (pins:List (Addr×Obj)) (s:Shared) (σ : St) (H:Hp) (Q:Bool→Hp→Prop),Inv X pins σ H s→t σ H Q→wpAny (model X.prog X.w) X.A (isTrue e X.env whole) (TP X pins σ Q) X.xe s
theorem PW.pt{X:Cx}{e:Expr}{t:TT}(h:PW X e t):PT X e t:=h _
def PA(X:Cx)(es:List Expr)(t:TA):Prop :=
 ∀(pos:Pos) (pins:List (Addr×Obj)) (s:Shared) (σ : St) (H:Hp) (Q:List V→Hp→Prop),Inv X pins σ H s→t σ H Q→wpAny (model X.prog X.w) X.A (spliced (backTo pos (starEach es X.env))) (AP X pins σ Q) X.xe s
def PS(X:Cx)(st:Stmt)(t:TS):Prop :=
 ∀(pins:List (Addr×Obj)) (s:Shared) (σ : St) (H:Hp) (D:Ends),Inv X pins σ H s→t D σ H→wpAny (model X.prog X.w) X.A (exec st X.env) (SP X pins D) X.xe s
def PSs(X:Cx)(st:List Stmt)(t:TS):Prop :=
 ∀(pins:List (Addr×Obj)) (s:Shared) (σ : St) (H:Hp) (D:Ends),Inv X pins σ H s→t D σ H→wpAny (model X.prog X.w) X.A (execs st X.env) (SP X pins D) X.xe s
theorem thn{α : Type}{t:Sem α}{Q Q' : α→Shared→Prop}{M:Model}{A:Around}{E:Value→Shared→Prop}{s:Shared}(h:wpAny M A t Q E s)(hQ:∀a s,Q a s→Q' a s):wpAny M A t Q' E s:=wpAny_mono h hQ fun _ _ x=>x
section
variable{X:Cx}
def tVar(i:Nat):TE:=fun σ H Q=>∃v,σ[i]? = some (some v)∧Q v H
def tC(v:V):TE:=fun _ H Q=>Q v H
theorem pe_var {i:Nat} {x:Str} {pos:Pos} (hN:X.N[i]? = some x) (hv:Vis X.env.scope x) (hd:(x == ("__debug__" : Str))=false:=by decide) (hcd:(x == ("__classdict__" : Str))=false:=by decide):PE X (.Name x pos) (tVar i):=by
 intro pins s σ H Q I h;obtain ⟨v,e,h⟩:=h;obtain ⟨m,hn,hl⟩:=I.loc;obtain ⟨u,r,l⟩:=hl i x v hN e hv;have fin:EP X pins σ Q u s:=⟨v,H,I,r,h⟩
 rcases l with ⟨hk,hm⟩ | ⟨hk,c,hc,hcell⟩
 ·exact wpAny_Name (wpAny_loadName_local I.ok.kind hk hn hm fin) hd
 ·rcases hk with hk | hk
  ·exact wpAny_Name (wpAny_loadName_cell I.ok.kind hk hc hcell fin) hd
  ·exact wpAny_Name (wpAny_loadName_free I.ok.kind hk hc hcell fin hcd) hd
theorem pe_int{i j pos}:PE X (.Constant (.int i) j pos) (tC (.int i)):=fun _ _ _ H _ I h=>wpAny_Constant_int ⟨.int i,H,I.tok _,⟨_,rfl⟩,h⟩
theorem pe_bl{b j pos}:PE X (.Constant (.bool b) j pos) (tC (.bl b)):=fun _ _ _ H _ I h=>Constant_bool ⟨.bl b,H,I,rfl,h⟩
theorem pe_non{j pos}:PE X (.Constant .none j pos) (tC .non):=fun _ _ _ H _ I h=>Constant_none ⟨.non,H,I,rfl,h⟩
theorem pe_str{x j pos}:PE X (.Constant (.str x) j pos) (tC (.str x)):=fun _ _ _ H _ I h=>Calls.Constant_str ⟨.str x,H,I.tok _,⟨_,rfl⟩,h⟩
def Gl(X:Cx)(x:Str):Prop:=X.env.kindOf x=some .globalImplicit
theorem ld_glob{E:Value→Shared→Prop}{pins:List (Addr×Obj)}{s:Shared}{σ : St}{H:Hp}{x:Str}{u:Value}{pos:Pos}{Q:Value→Shared→Prop}(I:Inv X pins σ H s)(hg:Gl X x)(hm:X.mg x=some u)(h:Q u s)
  (hd:(x == ("__debug__" : Str))=false:=by decide):wpAny (model X.prog X.w) X.A (eval (.Name x pos) X.env) Q E s :=
 Calls.Name_function_global I.ok.kind hg (Calls.loadGlobal_global (by rw [I.ok.glob];exact I.mod.glob.keeps I.bk) hm h) hd
theorem ld_blt{E:Value→Shared→Prop}{pins:List (Addr×Obj)}{s:Shared}{σ : St}{H:Hp}{x:Str}{u:Value}{pos:Pos}{Q:Value→Shared→Prop}(I:Inv X pins σ H s)(hg:Gl X x)(hm:X.mg x=none)(hv:bootBuiltins x=some u)(h:Q u s)
  (hn:x≠"__name__":=by decide) (hd:(x == ("__debug__" : Str))=false:=by decide):wpAny (model X.prog X.w) X.A (eval (.Name x pos) X.env) Q E s:=by
 obtain ⟨mb,h1,h2⟩:=I.mod.blt;exact Calls.Name_function_global I.ok.kind hg (Calls.loadGlobal_builtin (by rw [I.ok.glob];exact I.mod.glob.keeps I.bk) hm (by rw [I.ok.blt];exact h1.keeps I.bk) ((h2 x hn).trans hv) h) hd
theorem pe_bltn {x:Str} {v:V} {u:Value} {pos:Pos} (hg:Gl X x) (hm:X.mg x=none) (hv:bootBuiltins x=some u) (r:RelV v u) (hn:x≠"__name__":=by decide) (hd:(x == ("__debug__" : Str))=false:=by decide):PE X (.Name x pos) (tC v) :=
 fun _ _ _ H _ I h=>ld_blt I hg hm hv ⟨v,H,I,r,h⟩ hn hd
variable{a b:Expr}{ta tb:TE}{pos:Pos}
def tB(t:TE):TT:=fun σ H Q=>t σ H fun x H1=>∃c,x = .bl c∧Q c H1
theorem pt_val{e:Expr}{t:TE}(h:PE X e t)(he:∀whole,isTrue e X.env whole=(do let v ← whole;standAt e.pos;holding [v] (truthy v)):=by intro _;rfl):PT X e (tB t):=by
 intro pins s σ H Q I hw;refine isTrue_plain (thn (h pins s σ H _ I hw) fun v s1 ⟨x,H1,I1,r1,q1⟩=>?_) (he _);obtain ⟨d,rfl,q⟩:=q1;cases r1;exact wpAny_truthy_bool ⟨H1,I1,q⟩
variable{tA tB':TT}{rest:List Expr}
def tAnd(t u:TT):TT:=fun σ H Q=>t σ H fun c H1=>if c=true then u σ H1 Q else Q false H1
def tOr(t u:TT):TT:=fun σ H Q=>t σ H fun c H1=>if c=true then Q true H1 else u σ H1 Q
def tNot(t:TT):TT:=fun σ H Q=>t σ H fun c H1=>Q (!c) H1
theorem pw_and1(ha:PT X a tA):PW X (.BoolOp .And [a] pos) tA:=by
 intro wh pins s σ H Q I h;refine isTrue_and (thn (ha pins s σ H Q I h) fun c s1 e=>?_);cases c with
 | true=>exact isTrue_and_nil e
 | false=>exact e
theorem pw_or1(ha:PT X a tA):PW X (.BoolOp .Or [a] pos) tA:=by
 intro wh pins s σ H Q I h;refine isTrue_or (thn (ha pins s σ H Q I h) fun c s1 e=>?_);cases c with
 | false=>exact isTrue_or_nil e
 | true=>exact e
theorem pw_and(ha:PT X a tA)(hb:PW X (.BoolOp .And (b :: rest) pos) tB'):PW X (.BoolOp .And (a :: b :: rest) pos) (tAnd tA tB'):=by
 intro wh pins s σ H Q I h;refine isTrue_and (thn (ha pins s σ H _ I h) fun c s1 ⟨H1,I1,q1⟩=>?_);cases c with
 | true=>exact hb wh pins s1 σ H1 Q I1 q1
 | false=>exact ⟨H1,I1,q1⟩
theorem pw_or(ha:PT X a tA)(hb:PW X (.BoolOp .Or (b :: rest) pos) tB'):PW X (.BoolOp .Or (a :: b :: rest) pos) (tOr tA tB'):=by
 intro wh pins s σ H Q I h;refine isTrue_or (thn (ha pins s σ H _ I h) fun c s1 ⟨H1,I1,q1⟩=>?_);cases c with
 | true=>exact ⟨H1,I1,q1⟩
 | false=>exact hb wh pins s1 σ H1 Q I1 q1
theorem pt_not(ha:PT X a tA):PT X (.UnaryOp .Not a pos) (tNot tA):=by
 intro pins s σ H Q I h;exact isTrue_not (ha pins s σ H (fun c H1=>Q (!c) H1) I h)
def tAndV(ta tb:TE):TE:=fun σ H Q=>ta σ H fun x H1=>∃c,x = .bl c∧if c=true then tb σ H1 Q else Q (.bl false) H1
def tNotV(ta:TE):TE:=fun σ H Q=>ta σ H fun x H1=>∃c,x = .bl c∧Q (.bl (!c)) H1
theorem pe_one{op}{t:TE}(h:PE X a t):PE X (.BoolOp op [a] pos) t:=fun pins s σ H Q I hw=>BoolOp_one (h pins s σ H Q I hw)
theorem pe_and(ha:PE X a ta)(hb:PE X (.BoolOp .And (b :: rest) pos) tb):PE X (.BoolOp .And (a :: b :: rest) pos) (tAndV ta tb):=by
 intro pins s σ H Q I h;refine BoolOp_and (thn (ha pins s σ H _ I h) fun v s1 ⟨x,H1,I1,r1,q1⟩=>?_);obtain ⟨c,rfl,q1⟩:=q1;cases r1;refine wpAny_truthy_bool ?_;cases c with
 | true=>exact hb pins s1 σ H1 Q I1 q1
 | false=>exact ⟨.bl false,H1,I1,rfl,q1⟩
theorem pe_not(ha:PE X a ta):PE X (.UnaryOp .Not a pos) (tNotV ta):=by
 intro pins s σ H Q I h;refine UnaryOp_ (thn (ha pins s σ H _ I h) fun v s1 ⟨x,H1,I1,r1,q1⟩=>?_);obtain ⟨c,rfl,q1⟩:=q1;cases r1;exact not_of (wpAny_truthy_bool ⟨.bl (!c),H1,I1,rfl,q1⟩)
def tIf(t:TT)(ta tb:TE):TE:=fun σ H Q=>t σ H fun c H1=>if c=true then ta σ H1 Q else tb σ H1 Q
theorem pe_ifExp{c:Expr}(hc:PT X c tA)(ha:PE X a ta)(hb:PE X b tb):PE X (.IfExp c a b pos) (tIf tA ta tb):=by
 intro pins s σ H Q I h;refine wpAny_IfExp (thn (hc pins s σ H _ I h) fun d s1 ⟨H1,I1,q1⟩=>?_);cases d with
 | true=>exact ha pins s1 σ H1 Q I1 q1
 | false=>exact hb pins s1 σ H1 Q I1 q1
end
def SqL(K:Fg)(H:Hp)(a:Addr)(xs:List V):Prop :=
 Rd H a (.lst xs) ∨
  ∃(o:Obj) (its:Array Value) (n:Nat),K.lookup a=some o∧o.cls = .type "list"∧o.dict=none∧o.data = .seq its n∧its.size≤sizeLine∧Vals xs its.toList
def SqT(K:Fg)(H:Hp)(a:Addr)(xs:List V):Prop :=
 Rd H a (.tup xs) ∨
  ∃(o:Obj) (its:Array Value) (n:Nat),K.lookup a=some o∧o.cls = .type "tuple"∧o.data = .seq its n∧its.size≤sizeLine∧Vals xs its.toList
def absV:Value→Option V
 | .none=>some .non
 | .bool b=>some (.bl b)
 | .int i _=>some (.int i)
 | .str x _=>some (.str x)
 | .bytes b _=>some (.byt b)
 | .float b _=>some (.flt b)
 | .ref a=>some (.ref a)
 | .type n=>some (.ty n)
 | _=>none
theorem RelV.abs{x:V}{u:Value}(r:RelV x u):absV u=some x:=by
 cases x with
 | non=>cases r;rfl
 | bl _=>cases r;rfl
 | int _=>obtain ⟨t,rfl⟩:=r;rfl
 | str _=>obtain ⟨t,rfl⟩:=r;rfl
 | byt _=>obtain ⟨t,rfl⟩:=r;rfl
 | flt _=>obtain ⟨t,rfl⟩:=r;rfl
 | ref _=>cases r;rfl
 | ty _=>cases r;rfl
theorem RelV.inj{x y:V}{u:Value}(r:RelV x u)(q:RelV y u):x=y:=Option.some.inj (r.abs.symm.trans q.abs)
theorem Vals.inj:∀{xs ys:List V} {us:List Value},Vals xs us→Vals ys us→xs=ys
 | _,_,_,.nil,.nil=>rfl
 | _,_,_,.cons r t,.cons r' t'=>by rw [r.inj r',Vals.inj t t']
section
variable{X:Cx}{pins:List (Addr×Obj)}{σ : St}{H:Hp}{s:Shared}{a:Addr}{xs ys:List V}
theorem SqL.of{K:Fg}(h:H a=some (.lst xs)):SqL K H a xs:=.inl (.inl h)
theorem SqT.of{K:Fg}(h:H a=some (.tup xs)):SqT K H a xs:=.inl (.inl h)
theorem Inv.list(I:Inv X pins σ H s)(h:SqL X.K H a xs):∃its:List Value,Vals xs its∧PlainL s.heap a its.toArray∧xs.length≤sizeLine:=by
 rcases h with h | ⟨o,its,n,hk,hc,hd,hs,hz,r⟩
 ·obtain ⟨z,its,n,r,e⟩:=h.ok I.hok;exact ⟨its,r,⟨_,n,e,rfl,rfl,rfl⟩,z⟩
 ·refine ⟨its.toList,r,⟨o,n,I.kIn a o hk,hc,hd,by simpa using hs⟩,?_⟩;have e:=r.length;simp only [Array.length_toList] at e;omega
theorem Inv.tuple(I:Inv X pins σ H s)(h:SqT X.K H a xs):∃its:List Value,Vals xs its∧IsTup s.heap a its.toArray∧xs.length≤sizeLine:=by
 rcases h with h | ⟨o,its,n,hk,hc,hs,hz,r⟩
 ·obtain ⟨z,its,r,p⟩:=h.ok I.hok;exact ⟨its,r,p,z⟩
 ·refine ⟨its.toList,r,⟨o,I.kIn a o hk,hc,n,by simpa using hs⟩,?_⟩;have e:=r.length;simp only [Array.length_toList] at e;omega
theorem Inv.list_inj(I:Inv X pins σ H s)(h:SqL X.K H a xs)(h':SqL X.K H a ys):xs=ys:=by
 obtain ⟨its,r,⟨o,n,e,_,_,d⟩,_⟩:=I.list h;obtain ⟨its',r',⟨o',n',e',_,_,d'⟩,_⟩:=I.list h';rw [e] at e';cases e';rw [d] at d';injection d' with d1 _
 have:its=its':=by simpa using congrArg Array.toList d1
 subst this;exact r.inj r'
theorem Inv.tuple_inj(I:Inv X pins σ H s)(h:SqT X.K H a xs)(h':SqT X.K H a ys):xs=ys:=by
 obtain ⟨its,r,⟨o,e,_,n,d⟩,_⟩:=I.tuple h;obtain ⟨its',r',⟨o',e',_,n',d'⟩,_⟩:=I.tuple h';rw [e] at e';cases e';rw [d] at d';injection d' with d1 _
 have:its=its':=by simpa using congrArg Array.toList d1
 subst this;exact r.inj r'
end
abbrev Cx.wish(X:Cx)(E:Value→Shared→Prop):Cx:={ X with xe:=E }
abbrev Cx.nox(X:Cx):Cx:=X.wish fun _ _=>False
theorem Cx.Ok.wish{X:Cx}(ok:X.Ok)(E:Value→Shared→Prop):(X.wish E).Ok :=
 ⟨ok.mod,ok.kind,ok.glob,ok.blt,ok.above,ok.inj,ok.has,ok.cab,ok.hd,ok.frames,ok.stk,ok.exf,ok.bs,ok.bsz,ok.noex,ok.exfs,ok.funs,ok.frf⟩
theorem Cx.Ok.unwish{X:Cx}{E:Value→Shared→Prop}(ok:(X.wish E).Ok):X.Ok :=
 ⟨ok.mod,ok.kind,ok.glob,ok.blt,ok.above,ok.inj,ok.has,ok.cab,ok.hd,ok.frames,ok.stk,ok.exf,ok.bs,ok.bsz,ok.noex,ok.exfs,ok.funs,ok.frf⟩
section
variable{X:Cx}{pins:List (Addr×Obj)}{σ : St}{H:Hp}{s:Shared}{E:Value→Shared→Prop}
theorem Inv.wish(I:Inv X pins σ H s)(E:Value→Shared→Prop):Inv (X.wish E) pins σ H s:=⟨I.ok.wish E,I.os,I.bare,I.base,I.loc,I.cell,I.free,I.freeC,I.pin,I.hok,I.len⟩
theorem Inv.unwish(I:Inv (X.wish E) pins σ H s):Inv X pins σ H s:=⟨I.ok.unwish,I.os,I.bare,I.base,I.loc,I.cell,I.free,I.freeC,I.pin,I.hok,I.len⟩
theorem SP.unwish{D:Ends}{f:Flow}{s':Shared}(h:SP (X.wish E) pins D f s'):SP X pins D f s':=by
 cases f with
 | next=>obtain ⟨σ',H',I,q⟩:=h;exact ⟨σ',H',I.unwish,q⟩
 | brk=>obtain ⟨σ',H',I,q⟩:=h;exact ⟨σ',H',I.unwish,q⟩
 | cont=>obtain ⟨σ',H',I,q⟩:=h;exact ⟨σ',H',I.unwish,q⟩
 | ret u=>obtain ⟨v,σ',H',I,r,q⟩:=h;exact ⟨v,σ',H',I.unwish,r,q⟩
theorem PSs.nox{st:List Stmt}{t:TS}(h:PSs X.nox st t):PSs X st t:=fun pins s σ H D I hw =>
 wpAny_mono (h pins s σ H D (I.wish _) hw) (fun _ _ q=>q.unwish) fun _ _ z=>False.elim z
end
section
variable{X:Cx}{st:Stmt}{rest:List Stmt}{t u:TS}{e:Expr}{te:TE}{pos:Pos}
def tNext:TS:=fun D σ H=>D.nx σ H
def tSeq(t u:TS):TS:=fun D σ H=>t { D with nx:=u D } σ H
theorem pss_nil:PSs X [] tNext:=fun _ _ σ H _ I h=>wpAny_execs_nil ⟨σ,H,I,h⟩
theorem pss_cons(h1:PS X st t)(h2:PSs X rest u):PSs X (st :: rest) (tSeq t u):=by
 intro pins s σ H D I h;refine wpAny_execs_cons (thn (h1 pins s σ H { D with nx:=u D } I h) fun f s1 q=>?_);cases f with
 | next =>
  obtain ⟨σ',H',I',q⟩:=q;exact h2 pins s1 σ' H' D I' q
 | ret v=>exact q
 | brk=>exact q
 | cont=>exact q
theorem pss_one(h1:PS X st t):PSs X [st] t:=by
 intro pins s σ H D I h;refine wpAny_execs_cons (thn (h1 pins s σ H D I h) fun f s1 q=>?_);cases f with
 | next=>exact wpAny_execs_nil q
 | ret v=>exact q
 | brk=>exact q
 | cont=>exact q
theorem Inv.quiet{pins:List (Addr×Obj)}{σ : St}{H:Hp}{s:Shared}(I:Inv X pins σ H s):interactive X.env=false:=by simp [interactive,I.ok.kind]
def tDrop(te:TE):TS:=fun D σ H=>te σ H fun _ H1=>D.nx σ H1
theorem ps_expr(he:PE X e te)(hs:swapsWith e none pos.line X.env=pure false:=by rfl):PS X (.Expr e pos) (tDrop te):=by
 intro pins s σ H D I h;exact wpAny_Expr_any (thn (he pins s σ H _ I h) fun v s1 ⟨x,H1,I1,r1,q1⟩=>⟨σ,H1,I1,q1⟩) I.quiet hs
def tRet(te:TE):TS:=fun D σ H=>te σ H D.rt
theorem ps_ret(he:PE X e te):PS X (.Return (some e) pos) (tRet te):=by
 intro pins s σ H D I h;exact wpAny_Return_some (thn (he pins s σ H _ I h) fun v s1 ⟨x,H1,I1,r1,q1⟩=>⟨x,σ,H1,I1,r1,q1⟩)
def tIfS(c:TT)(t u:TS):TS:=fun D σ H=>c σ H fun b H1=>if b=true then t D σ H1 else u D σ H1
theorem ps_if{c:Expr}{a b:List Stmt}{tc:TT}(hc:PT X c tc)(ha:PSs X a t)(hb:PSs X b u):PS X (.If c a b pos) (tIfS tc t u):=by
 intro pins s σ H D I h;refine wpAny_If (thn (hc pins s σ H _ I h) fun d s1 ⟨H1,I1,q1⟩=>?_);cases d with
 | true=>exact ha pins s1 σ H1 D I1 q1
 | false=>exact hb pins s1 σ H1 D I1 q1
def tNever:TS:=fun _ _ _=>False
theorem pss_never{sts:List Stmt}:PSs X sts tNever:=fun _ _ _ _ _ _ h=>h.elim
end
abbrev TG:=V→St→Hp→(St→Hp→Prop)→Prop
abbrev TGs:=List V→St→Hp→(St→Hp→Prop)→Prop
def PG(X:Cx)(target:Expr)(t:TG):Prop :=
 ∀(pins:List (Addr×Obj)) (s:Shared) (σ : St) (H:Hp) (v:V) (u:Value) (Q:St→Hp→Prop),Inv X pins σ H s→RelV v u→t v σ H Q →
  wpAny (model X.prog X.w) X.A (assign target X.env u) (fun _ s'=>∃σ' H',Inv X pins σ' H' s'∧Q σ' H') X.xe s
def PGs(X:Cx)(ts:List Expr)(t:TGs):Prop :=
 ∀(pins:List (Addr×Obj)) (s:Shared) (σ : St) (H:Hp) (vs:List V) (us:List Value) (Q:St→Hp→Prop),Inv X pins σ H s→Vals vs us→t vs σ H Q →
  wpAny (model X.prog X.w) X.A (assignInOrder ((assignEach ts X.env).map (·.2)) us) (fun _ s'=>∃σ' H',Inv X pins σ' H' s'∧Q σ' H') X.xe s
section
variable{X:Cx}{pos:Pos}
def gName(i:Nat):TG:=fun v σ H Q=>Q (σ.set i (some v)) H
theorem pg_name{i:Nat}{x:Str}(hN:X.N.Nodup)(hi:X.N[i]? = some x)(hx:Loc X.env.scope x)(hf:X.fn x=true∨X.env.scope.names.lookup x=some .local:=by first | exact .inl rfl | exact .inr rfl | assumption):PG X (.Name x pos) (gName i):=by
 intro pins s σ H v u Q I r h;exact wpAny_assign_Name (store_ok I hN hi hx r (fun s' I'=>⟨_,H,I',h⟩) hf)
def gNil:TGs:=fun vs σ H Q=>vs=[]∧Q σ H
def gCons(t:TG)(u:TGs):TGs:=fun vs σ H Q=>∃v r,vs=v :: r∧t v σ H fun σ' H'=>u r σ' H' Q
theorem pgs_nil:PGs X [] gNil:=by
 intro pins s σ H vs us Q I r h;obtain ⟨e,h⟩:=h;subst e;cases r;exact assignInOrder_nil ⟨σ,H,I,h⟩
theorem pgs_cons{e:Expr}{es:List Expr}{t:TG}{u:TGs}(h1:PG X e t)(h2:PGs X es u)
  (hs:(assignEach (e :: es) X.env).map (·.2)=assign e X.env :: (assignEach es X.env).map (·.2):=by rfl):PGs X (e :: es) (gCons t u):=by
 intro pins s σ H vs us Q I r h;obtain ⟨v,vr,e1,h⟩:=h;subst e1;cases r with
 | cons r rr =>
  rw [hs];refine assignInOrder_cons (thn (h1 pins s σ H _ _ _ I r h) fun _ s1 ⟨σ1,H1,I1,q1⟩=>?_);exact h2 pins s1 σ1 H1 _ _ Q I1 rr q1
def gTup(K:Fg)(n:Nat)(t:TGs):TG:=fun v σ H Q=>∃a xs,v = .ref a∧SqT K H a xs∧xs.length=n∧t xs σ H Q
theorem pg_tup{es:List Expr}{k:Nat}{t:TGs}{n:Nat}(hc:X.calm=true)(h:PGs X es t)
  (hn:(assignEach es X.env).length=n:=by rfl) (hst:(assignEach es X.env).findIdx? (·.1)=none:=by rfl):PG X (.Tuple es k pos) (gTup X.K n t):=by
 intro pins s σ H v u Q I r hw;obtain ⟨a,xs,e1,hq,hl,hw⟩:=hw;subst e1;cases r;obtain ⟨its,rv,ht,hz⟩:=I.tuple hq;refine assign_Tuple_tuple (I.ok.hd hc) ht (by simp [hn,← hl,rv.length]) hst fun h' hx=>?_
 have I1:Inv X pins σ H { s with heap:=h' }:=I.kept (t':=s.toks) fun b o e=>hx b o (Nat.ne_of_lt (Heap.lt_size e)) e
 exact h pins _ σ H xs _ Q I1 (by simpa using rv) hw
def tAsg(te:TE)(g:TG):TS:=fun D σ H=>te σ H fun x H1=>g x σ H1 D.nx
theorem ps_asg{tg e:Expr}{te:TE}{g:TG}(he:PE X e te)(hg:PG X tg g)(hs:swapsWithSole [tg] e pos.line X.env=pure false:=by rfl)(hw:swappedStores [tg] e X.env=pure none:=by rfl)
  (h1:(assignEach [tg] X.env).map (·.2)=[assign tg X.env]:=by rfl):PS X (.Assign [tg] e pos) (tAsg te g):=by
 intro pins s σ H D I h;refine wpAny_Assign_stores (thn (he pins s σ H _ I h) fun v s1 ⟨x,H1,I1,r1,q1⟩=>?_) hs hw;rw [h1];exact thn (hg pins s1 σ H1 x v _ I1 r1 q1) fun _ s2 q=>q
theorem ps_set{i:Nat}{x:Str}{e:Expr}{te:TE}{pos':Pos}(hN:X.N.Nodup)(hi:X.N[i]? = some x)(hx:Loc X.env.scope x)(he:PE X e te)(hs:swapsWith e (some (.Name x pos')) pos.line X.env=pure false:=by rfl)(hf:X.fn x=true∨X.env.scope.names.lookup x=some .local:=by first | exact .inl rfl | exact .inr rfl | assumption) :
  PS X (.Assign [.Name x pos'] e pos) (tAsg te (gName i)):=by
 intro pins s σ H D I h;refine wpAny_Assign_Name (thn (he pins s σ H _ I h) fun v s1 ⟨y,H1,I1,r1,q1⟩=>?_) hs;exact store_ok I1 hN hi hx r1 (fun s2 I2=>⟨_,H1,I2,q1⟩) hf
def tPar(i j:Nat)(ta:TA):TS:=fun D σ H=>ta σ H fun vs H1=>∃v w,vs=[v,w]∧D.nx ((σ.set i (some v)).set j (some w)) H1
theorem ps_par{i j:Nat}{x y:Str}{a b:Expr}{ta:TA}{px py pt:Pos}{kt k2 pt2}(hc:X.calm=true)(hN:X.N.Nodup)(hi:X.N[i]? = some x)(hj:X.N[j]? = some y)(hij:i≠j)
  (hx:X.env.scope.names.lookup x=some .local) (hy:X.env.scope.names.lookup y=some .local) (ha:PA X [a,b] ta)
  (hw:swappedStores [.Tuple [.Name x px,.Name y py] kt pt] (.Tuple [a,b] k2 pt2) X.env=pure (some [x,y]))
  (hs:swapsWithSole [.Tuple [.Name x px,.Name y py] kt pt] (.Tuple [a,b] k2 pt2) pos.line X.env=pure false:=by rfl) :
  PS X (.Assign [.Tuple [.Name x px,.Name y py] kt pt] (.Tuple [a,b] k2 pt2) pos) (tPar i j ta):=by
 intro pins s σ H D I h;rw [exec_Assign_arm];refine wpAny_bind (wpAny_standAt ?_);rw [hs];refine wpAny_bind (wpAny_pure ?_);rw [if_neg (by decide)];refine wpAny_bind (Tuple_ (thn (ha _ pins s σ H _ I h) fun us s1 ⟨vs,H1,I1,r1,q1⟩=>?_));obtain ⟨v,w,e1,q1⟩:=q1;subst e1
 obtain ⟨u1,u2,rfl,rv,rw'⟩:∃u1 u2,us=[u1,u2]∧RelV v u1∧RelV w u2:=by
  cases r1 with
  | cons p q =>
   cases q with
   | cons p' q' =>
    cases q';exact ⟨_,_,rfl,p,p'⟩
 refine wpAny_newObj_type ?_ (by show 2≤sizeLine;decide);have I2:Inv X pins σ H1 { s1 with heap:=s1.heap.push { cls:=.type "tuple",data:=.seq [u1,u2].toArray } }:=I1.kept (t':=s1.toks) fun b o e=>Heap.get?_push_of_some _ e
 rw [hw];refine wpAny_bind (wpAny_pure ?_);show wpAny (model X.prog X.w) X.A (do rule "assign.swapped-stores";let items ← unpackItems (.ref s1.heap.objs.size) 2 none;assignInOrder [fun v=>bindName X.env y v,fun v=>bindName X.env x v] items.reverse;pure Flow.next) _ _ _;refine wpAny_bind (wpAny_rule (wpAny_bind (unpackItems_tuple (items:=#[u1,u2]) (I.ok.hd hc) (IsTup.new s1.heap _) fun h' hx'=>?_)));have I3:=I2.kept (h':=h') (t':=s1.toks) fun b o e=>hx' b o (Nat.ne_of_lt (Heap.lt_size e)) e
 show wpAny _ _ (assignInOrder [fun v=>bindName X.env y v,fun v=>bindName X.env x v] [u2,u1] >>= fun _=>pure Flow.next) _ _ _;refine wpAny_bind (assignInOrder_cons (wpAny_bindName (store_ok I3 hN hj (.inl hy) rw' (fun s2 I4=>?_) (.inr hy))));refine assignInOrder_cons (wpAny_bindName (store_ok I4 hN hi (.inl hx) rv (fun s3 I5=>assignInOrder_nil (wpAny_pure ?_)) (.inr hx)));rw [List.set_comm _ _ (Ne.symm hij)] at I5;exact ⟨_,H1,I5,q1⟩
end
section
variable{X:Cx}{pos:Pos}
def tWhile(c:TT)(tb:TS):TS:=fun D σ H=>∃W:Nat→St→Hp→Prop,(∃m,W m σ H)∧∀m σ H,W m σ H →
 c σ H fun b H1=>if b=true then ∃N:St→Hp→Prop,(∀σ' H',N σ' H'→∃m',m' < m∧W m' σ' H')∧tb { D with nx:=N,ct:=N,bk:=D.nx } σ H1 else D.nx σ H1
theorem ps_while{c:Expr}{body:List Stmt}{tc:TT}{tb:TS}(hp:PassesOwn (model X.prog X.w) X.A X.env X.xe)(hc:PT X c tc)(hb:PSs X body tb):PS X (.While c body [] pos) (tWhile tc tb):=by
 intro pins s σ H D I h;obtain ⟨W,⟨m0,w0⟩,turn⟩:=h;refine wpAny_While (codeAny_whileLoop (fun n s'=>∃σ' H',Inv X pins σ' H' s'∧W n σ' H') ?_ m0 ⟨σ,H,I,w0⟩);rintro n s1 ⟨σ1,H1,I1,w1⟩;refine wpAny_passesOwn hp (thn (hc pins s1 σ1 H1 _ I1 (turn n σ1 H1 w1)) fun b s2 ⟨H2,I2,q2⟩=>?_);cases b with
 | true =>
  obtain ⟨N,hN,q2⟩:=q2;rw [if_pos rfl];refine wpAny_passesOwn hp (thn (hb pins s2 σ1 H2 _ I2 q2) fun f s3 q3=>?_);cases f with
  | next =>
   obtain ⟨σ3,H3,I3,n3⟩:=q3;obtain ⟨m',hm,w3⟩:=hN σ3 H3 n3;exact ⟨m',hm,σ3,H3,I3,w3⟩
  | cont =>
   obtain ⟨σ3,H3,I3,n3⟩:=q3;obtain ⟨m',hm,w3⟩:=hN σ3 H3 n3;exact ⟨m',hm,σ3,H3,I3,w3⟩
  | brk=>exact q3
  | ret v=>exact q3
 | false =>
  rw [if_neg Bool.false_ne_true];exact wpAny_execs_nil ⟨σ1,H2,I2,q2⟩
end
structure It where
 go:Nat→Hp→Prop
 yld:Nat→Hp→V→Hp→Prop
 stop:Nat→Hp→Prop
def FpOk(X:Cx)(pins:List (Addr×Obj))(H:Hp)(b:Addr):Prop :=
 H b=none∧b≠X.env.locals∧b∉X.fs∧(b∈X.ex∨X.s₀.heap.objs.size≤b)∧(∀x c,X.env.cells.lookup x=some c→c≠b)∧∀p∈X.pn++pins,p.1≠b
theorem Inv.fpOk{X:Cx}{pins:List (Addr×Obj)}{σ : St}{H H':Hp}{s:Shared}{b:Addr}(I:Inv X pins σ H s)(hb:s.heap.objs.size≤b)(hn:H' b=none):FpOk X pins H' b:=by
 refine ⟨hn,Nat.ne_of_gt (Nat.lt_of_lt_of_le I.lt hb),I.nofs hb,.inr (Nat.le_trans I.sz hb),fun x c e z=>?_,fun p hp z=>?_⟩
 ·obtain ⟨v,q⟩:=I.cell x c e;exact absurd (Nat.lt_of_lt_of_le q.lt (by rw [z];exact hb)) (Nat.lt_irrefl _)
 ·exact absurd (Nat.lt_of_lt_of_le (Heap.lt_size (I.pin p hp).1) (by rw [z];exact hb)) (Nat.lt_irrefl _)
structure Turn (P:Program) (w:World) (K:Fg) (tg:Expr) (J:It) (fp:List Addr) (it:Addr) (tn:Nat→Heap→Prop):Prop where
 mem:it∈fp
 obj:∀i h,tn i h→∀b∈fp,∃o,h.get? b=some o∧∀v,o.data≠.cell v
 keep:∀i h h',tn i h→(∀b∈fp,∀o,h.get? b=some o→h'.get? b=some o)→tn i h'
 item:∀(X:Cx),X.prog=P→X.w=w→X.K=K→X.calm=true→∀(i:Nat) (pins:List (Addr×Obj)) (s:Shared) (σ : St) (H:Hp) (E:Value→Shared→Prop),Inv X pins σ H s→(∀b∈fp,FpOk X pins H b)→tn i s.heap→J.go i H →
  wpAny (model P w) X.A (pyNext (.ref it)) (fun r s1=>∃u,r=some u ∧
   wpAny (model P w) X.A (letOwnedTupleGo tg (.ref it) u) (fun _ s2=>∃x H',Inv X pins σ H' s2∧RelV x u∧J.yld i H x H'∧tn (i+1) s2.heap∧∀b∈fp,H' b=none) E s1) E s
 done:∀(X:Cx),X.prog=P→X.w=w→X.K=K→X.calm=true→∀(i:Nat) (pins:List (Addr×Obj)) (s:Shared) (σ : St) (H:Hp) (E:Value→Shared→Prop),Inv X pins σ H s→(∀b∈fp,FpOk X pins H b)→tn i s.heap→J.stop i H →
  wpAny (model P w) X.A (pyNext (.ref it)) (fun r s1=>r=none∧Inv X pins σ H s1) E s
 self:∀(A:Around) (i:Nat) (s:Shared) (Q:Value→Shared→Prop) (E:Value→Shared→Prop),tn i s.heap→Q (.ref it) s→wpAny (model P w) A (pyIter (.ref it)) Q E s
abbrev TI:=St→Hp→(It→Hp→Prop)→Prop
def PIE(X:Cx)(pins:List (Addr×Obj))(σ : St)(tg:Expr)(R:It→Hp→Prop)(itv:Value)(s2:Shared):Prop :=
 ∃(it:Addr) (fp:List Addr) (tn:Nat→Heap→Prop) (J:It) (H':Hp),itv = .ref it∧Inv X pins σ H' s2∧Turn X.prog X.w X.K tg J fp it tn∧tn 0 s2.heap∧(∀b∈fp,FpOk X pins H' b)∧R J H'
def PI(X:Cx)(tg iter:Expr)(wi:TI):Prop :=
 ∀(pins:List (Addr×Obj)) (s:Shared) (σ : St) (H:Hp) (R:It→Hp→Prop),Inv X pins σ H s→wi σ H R →
  wpAny (model X.prog X.w) X.A (eval iter X.env) (fun v s1=>wpAny (model X.prog X.w) X.A (pyIter v) (PIE X pins σ tg R) X.xe s1) X.xe s
theorem go_of {M : Model} {A : Around} {E : Value → Shared → Prop} {s : Shared} {tg : Expr} {it : Addr} {u : Value} {o : Obj} {n : String} {vs : Array Value} {Q : Unit → Shared → Prop} (ho : s.heap.get? it = some o) (hc : o.cls = .type n) (hd : o.data = .fields vs)
    (hn : ["enumerate", "zip", "dict_itemiterator", "dict_reverseitemiterator", "odict_iterator", "itertools.zip_longest", "itertools.pairwise"].contains n = false) (hQ : Q () s) : wpAny M A (letOwnedTupleGo tg (.ref it) u) Q E s := by
  unfold letOwnedTupleGo
  cases tg <;> first
    | exact wpAny_pure hQ
    | (cases u <;> first
        | exact wpAny_pure hQ
        | (refine wpAny_bind (wpAny_load ho ?_)
           rw [hc, hd]
           show wpAny M A (if (["enumerate", "zip", "dict_itemiterator", "dict_reverseitemiterator", "odict_iterator", "itertools.zip_longest", "itertools.pairwise"].contains n && vs[0]? == some (rawInt _)) = true then _ else _) Q E s
           rw [if_neg (by intro h; rw [hn, Bool.false_and] at h; cases h)]
           exact wpAny_pure hQ))
def Itl(K:Fg)(a:Addr):It :=
 ⟨fun i H=>∃xs x,SqL K H a xs∧xs[i]? = some x,fun i H x H'=>H'=H∧∀xs,SqL K H a xs→xs[i]? = some x,fun i H=>∃xs,SqL K H a xs∧xs.length≤i⟩
def Itt(K:Fg)(a:Addr):It :=
 ⟨fun i H=>∃xs x,SqT K H a xs∧xs[i]? = some x,fun i H x H'=>H'=H∧∀xs,SqT K H a xs→xs[i]? = some x,fun i H=>∃xs,SqT K H a xs∧xs.length≤i⟩
def Itr(lo:Int)(n:Nat):It:=⟨fun i _=>i < n,fun i H x H'=>H'=H∧x = .int (lo+i),fun i _=>n≤i⟩
theorem turn_list{P:Program}{w:World}{K:Fg}{tg:Expr}(a it:Addr):Turn P w K tg (Itl K a) [it] it (fun i h=>h.IsListIter it a i) where
 mem:=by simp
 obj:=fun i h st b hb=>by
  have e:b=it:=by simpa using hb
  subst e;obtain ⟨o,e,c,d⟩:=st;exact ⟨o,e,fun v z=>by rw [d] at z;cases z⟩
 keep:=fun i h h' st k=>st.at fun o e=>k it (by simp) o e
 item:=by
  intro X hP hw hK hc i pins s σ H E I hf st hg;subst hP hw hK;obtain ⟨xs,x,hq,hx⟩:=hg;obtain ⟨its,rv,p,hz⟩:=I.list hq;obtain ⟨u,hu,ru⟩:=rv.get hx;obtain ⟨f0,f1,f2,f3,f4,f5⟩:=hf it (by simp);refine wpAny_pyNext_list_item st p.isList (x:=u) (by simpa using hu) fun h' st' sb=>?_
  have I1:Inv X pins σ H { s with heap:=h' }:=I.turned (t':=s.toks) (fun b o hb e=>(sb.2 b hb).trans e) f0 f1 f3 f4 f5;obtain ⟨o,e,c,d⟩:=id st';exact ⟨u,rfl,go_of (s:={ s with heap:=h' }) e c d (by decide) ⟨x,H,I1,ru,⟨rfl,fun ys hy=>by rw [I.list_inj hy hq];exact hx⟩,st',fun b hb=>(hf b hb).1⟩⟩
 done:=by
  intro X hP hw hK hc i pins s σ H E I hf st hg;subst hP hw hK;obtain ⟨xs,hq,hx⟩:=hg;obtain ⟨its,rv,p,hz⟩:=I.list hq;obtain ⟨f0,f1,f2,f3,f4,f5⟩:=hf it (by simp);have hl:=rv.length;exact wpAny_pyNext_list_end (I.ok.hd hc) st p.isList (by simp;omega) fun h' eb=>⟨rfl,I.turned (t':=s.toks) (fun b o hb e=>eb b o hb e) f0 f1 f3 f4 f5⟩
 self:=fun _ _ _ _ _ st h=>wpAny_pyIter_listiter st h
theorem turn_tuple{P:Program}{w:World}{K:Fg}{tg:Expr}(a it:Addr):Turn P w K tg (Itt K a) [it] it (fun i h=>h.IsTupleIter it a i) where
 mem:=by simp
 obj:=fun i h st b hb=>by
  have e:b=it:=by simpa using hb
  subst e;obtain ⟨o,e,c,d⟩:=st;exact ⟨o,e,fun v z=>by rw [d] at z;cases z⟩
 keep:=fun i h h' st k=>st.at fun o e=>k it (by simp) o e
 item:=by
  intro X hP hw hK hc i pins s σ H E I hf st hg;subst hP hw hK;obtain ⟨xs,x,hq,hx⟩:=hg;obtain ⟨its,rv,p,hz⟩:=I.tuple hq;obtain ⟨u,hu,ru⟩:=rv.get hx;obtain ⟨f0,f1,f2,f3,f4,f5⟩:=hf it (by simp);refine wpAny_pyNext_tuple_item st (show s.heap.IsTuple a its.toArray from p) (x:=u) (by simpa using hu) fun h' st' sb=>?_
  have I1:Inv X pins σ H { s with heap:=h' }:=I.turned (t':=s.toks) (fun b o hb e=>(sb.2 b hb).trans e) f0 f1 f3 f4 f5;obtain ⟨o,e,c,d⟩:=id st';exact ⟨u,rfl,go_of (s:={ s with heap:=h' }) e c d (by decide) ⟨x,H,I1,ru,⟨rfl,fun ys hy=>by rw [I.tuple_inj hy hq];exact hx⟩,st',fun b hb=>(hf b hb).1⟩⟩
 done:=by
  intro X hP hw hK hc i pins s σ H E I hf st hg;subst hP hw hK;obtain ⟨xs,hq,hx⟩:=hg;obtain ⟨its,rv,p,hz⟩:=I.tuple hq;obtain ⟨f0,f1,f2,f3,f4,f5⟩:=hf it (by simp);have hl:=rv.length;exact wpAny_pyNext_tuple_end (I.ok.hd hc) st (show s.heap.IsTuple a its.toArray from p) (by simp;omega) fun h' eb=>⟨rfl,I.turned (t':=s.toks) (fun b o hb e=>eb b o hb e) f0 f1 f3 f4 f5⟩
 self:=fun _ _ _ _ _ st h=>wpAny_pyIter_tupleiter st h
theorem turn_range{P:Program}{w:World}{K:Fg}{tg:Expr}(it:Addr)(lo:Int)(n:Nat):Turn P w K tg (Itr lo n) [it] it (fun i h=>IsRangeIter h it (lo+(i:Nat)*1) ((n:Int) - (i:Nat)) 1) where
 mem:=by simp
 obj:=fun i h st b hb=>by
  have e:b=it:=by simpa using hb
  subst e
  exact ⟨_,st,fun v z=>by
   have z':Data.fields _=Data.cell v:=z
   cases z'⟩
 keep:=fun i h h' st k=>k it (by simp) _ st
 item:=by
  intro X hP hw hK hc i pins s σ H E I hf st hg;subst hP hw hK;obtain ⟨f0,f1,f2,f3,f4,f5⟩:=hf it (by simp);have W:=Walks.range (prog:=X.prog) (w:=X.w) (I.ok.hd hc) it lo 1 n;refine W.item i s _ _ hg st fun v h' tk hv st' kk=>?_
  obtain ⟨t,rfl⟩:=hv;have I1:Inv X pins σ H { s with heap:=h',toks:=tk }:=I.turned (fun b o hb e=>kk b o (by simpa using hb) e) f0 f1 f3 f4 f5;refine ⟨_,rfl,go_of (s:={ s with heap:=h',toks:=tk }) (n:="range_iterator") st' rfl rfl (by decide) ⟨.int (lo+i),H,I1,⟨t,?_⟩,⟨rfl,rfl⟩,st',fun b hb=>(hf b hb).1⟩⟩;rw [Int.mul_one]
 done:=by
  intro X hP hw hK hc i pins s σ H E I hf st hg;subst hP hw hK;obtain ⟨f0,f1,f2,f3,f4,f5⟩:=hf it (by simp);exact wpAny_pyNext_range_end (I.ok.hd hc) st (by have:n≤i:=hg;omega) fun h' eb=>⟨rfl,I.turned (t':=s.toks) (fun b o hb e=>eb b o hb e) f0 f1 f3 f4 f5⟩
 self:=fun _ _ _ _ _ st h=>wpAny_pyIter_rangeiter st h
section
variable{X:Cx}{tg:Expr}
def iList(K:Fg)(tl:TE):TI:=fun σ H R=>tl σ H fun x H1=>∃a,x = .ref a∧(∃xs,SqL K H1 a xs)∧R (Itl K a) H1
def iTup(K:Fg)(tl:TE):TI:=fun σ H R=>tl σ H fun x H1=>∃a,x = .ref a∧(∃xs,SqT K H1 a xs)∧R (Itt K a) H1
theorem pi_list{l:Expr}{tl:TE}(hl:PE X l tl):PI X tg l (iList X.K tl):=by
 intro pins s σ H R I h;refine thn (hl pins s σ H _ I h) fun v s1 ⟨x,H1,I1,r1,q1⟩=>?_
 obtain ⟨a,e,⟨xs,hq⟩,q⟩:=q1;subst e;cases r1;obtain ⟨its,rv,p,hz⟩:=I1.list hq;refine wpAny_pyIter_list p.isList ?_;refine ⟨s1.heap.objs.size,[s1.heap.objs.size],_,_,H1,rfl,I1.kept (t':=s1.toks) fun b o e=>Heap.get?_push_of_some _ e,turn_list a _,⟨_,Heap.get?_push_size _ rfl,rfl,rfl⟩,fun b hb=>?_,q⟩;have e:b=s1.heap.objs.size:=by simpa using hb
 subst e;exact I1.fpOk (Nat.le_refl _) (I1.hok.fresh (Nat.le_refl _))
theorem pi_tup{l:Expr}{tl:TE}(hl:PE X l tl):PI X tg l (iTup X.K tl):=by
 intro pins s σ H R I h;refine thn (hl pins s σ H _ I h) fun v s1 ⟨x,H1,I1,r1,q1⟩=>?_
 obtain ⟨a,e,⟨xs,hq⟩,q⟩:=q1;subst e;cases r1;obtain ⟨its,rv,p,hz⟩:=I1.tuple hq;refine wpAny_pyIter_tuple (show s1.heap.IsTuple a its.toArray from p) ?_;refine ⟨s1.heap.objs.size,[s1.heap.objs.size],_,_,H1,rfl,I1.kept (t':=s1.toks) fun b o e=>Heap.get?_push_of_some _ e,turn_tuple a _,⟨_,Heap.get?_push_size _ rfl,rfl,rfl⟩,fun b hb=>?_,q⟩;have e:b=s1.heap.objs.size:=by simpa using hb
 subst e;exact I1.fpOk (Nat.le_refl _) (I1.hok.fresh (Nat.le_refl _))
theorem range_it{pins:List (Addr×Obj)}{σ : St}{H:Hp}{s:Shared}{R:It→Hp→Prop}{E:Value→Shared→Prop}{lo hi:Int}{t u v:Tok}{tk:Nat}(I:Inv X pins σ H s)(h1 : -(2 ^ 62)≤lo)(h2:lo < 2 ^ 62)(h3 : -(2 ^ 62)≤hi)(h4:hi < 2 ^ 62)
  (q:R (Itr lo (hi - lo).toNat) H):wpAny (model X.prog X.w) X.A (pyIter (.ref s.heap.objs.size)) (PIE X pins σ tg R) E { s with heap:=s.heap.push { cls:=.type "range",data:=.fields #[.int lo t,.int hi u,.int 1 v] },toks:=tk }:=by
 refine wpAny_pyIter_range (IsRange.new ..) (small_one h1 h2 h3 h4) ?_;have I1:Inv X pins σ H { s with heap:=s.heap.push { cls:=.type "range",data:=.fields #[.int lo t,.int hi u,.int 1 v] },toks:=tk }:=I.kept fun b o e=>Heap.get?_push_of_some _ e
 refine ⟨(s.heap.push { cls:=.type "range",data:=.fields #[.int lo t,.int hi u,.int 1 v] }).objs.size,[(s.heap.push { cls:=.type "range",data:=.fields #[.int lo t,.int hi u,.int 1 v] }).objs.size],_,_,H,rfl,
  I1.kept (t':=tk) fun b o e=>Heap.get?_push_of_some _ e,turn_range _ lo (hi - lo).toNat,?_,fun b hb=>?_,q⟩
 ·have e1:lo+((0:Nat):Int)*1=lo:=by simp
  have e2:(((hi - lo).toNat:Nat):Int) - ((0:Nat):Int)=Builtin.Range.rangeSize lo hi 1:=by rw [rangeSize_one];split <;> omega
  show IsRangeIter _ _ (lo+((0:Nat):Int)*1) ((((hi - lo).toNat:Nat):Int) - ((0:Nat):Int)) 1;rw [e1,e2];exact Heap.get?_push_size _ rfl
 ·have e:b=(s.heap.push { cls:=.type "range",data:=.fields #[.int lo t,.int hi u,.int 1 v] }).objs.size:=by simpa using hb
  subst e;exact I1.fpOk (Nat.le_refl _) (I1.hok.fresh (Nat.le_refl _))
def iRng1(ta:TA):TI:=fun σ H R=>ta σ H fun vs H1=>∃j:Int,vs=[.int j]∧-(2 ^ 62)≤j∧j < 2 ^ 62∧R (Itr 0 j.toNat) H1
theorem pi_range1 {a:Expr} {ta:TA} {p pos:Pos} (hg:Gl X "range") (hm:X.mg "range" = none) (ha:PA X [a] ta) (hs:starEach [a] X.env=[(false,eval a X.env)]:=by rfl):PI X tg (.Call (.Name "range" p) [a] [] pos) (iRng1 ta):=by
 intro pins s σ H R I h;refine Call_ (ld_blt I hg hm boot_range (PyProof.Rows.callWith_type1 (thn (ha pos pins s σ H _ I h) fun us s1 ⟨vs,H1,I1,r1,q1⟩=>?_) hs rfl));obtain ⟨j,e,q1,q2,q⟩:=q1;subst e;cases r1 with
 | cons r rr =>
  cases rr;obtain ⟨t,rfl⟩:=r;exact call_range_1 (range_it I1 (by omega) (by omega) q1 q2 (by simpa using q))
def tFor(wi:TI)(g:TG)(tb:TS):TS:=fun D σ H=>wi σ H fun J H1=>∃W:Nat→Nat→St→Hp→Prop,(∃m,W 0 m σ H1)∧∀i m σ H,W i m σ H →
 (J.stop i H∧D.nx σ H)∨(J.go i H∧∃N:St→Hp→Prop,(∀σ' H',N σ' H'→∃m',m' < m∧W (i+1) m' σ' H')∧∀x H',J.yld i H x H'→g x σ H' fun σ2 H2=>tb { D with nx:=N,ct:=N,bk:=D.nx } σ2 H2)
def pinsAt(fp:List Addr)(h:Heap):List (Addr×Obj):=fp.filterMap fun b=>(h.get? b).map fun o=>(b,o)
theorem mem_pinsAt{fp:List Addr}{h:Heap}{b:Addr}{o:Obj}(hb:b∈fp)(e:h.get? b=some o):(b,o)∈pinsAt fp h:=List.mem_filterMap.mpr ⟨b,hb,by rw [e];rfl⟩
theorem of_pinsAt{fp:List Addr}{h:Heap}{p:Addr×Obj}(hp:p∈pinsAt fp h):p.1∈fp∧h.get? p.1=some p.2:=by
 obtain ⟨b,hb,e⟩:=List.mem_filterMap.mp hp;cases q:h.get? b with
 | none=>rw [q] at e;cases e
 | some o =>
  rw [q] at e;have e':(b,o)=p:=Option.some.inj e;subst e';exact ⟨hb,q⟩
theorem Inv.pinned{pins:List (Addr×Obj)}{σ : St}{H:Hp}{s:Shared}{fp:List Addr}(I:Inv X pins σ H s)(hf:∀b∈fp,FpOk X pins H b)(ho:∀b∈fp,∃o,s.heap.get? b=some o∧∀v,o.data≠.cell v):Inv X (pins++pinsAt fp s.heap) σ H s :=
 I.pins_of fun p hp=>(List.mem_append.mp hp).elim (fun z=>I.pin p (List.mem_append_right _ z)) fun z=>by
  obtain ⟨hb,e⟩:=of_pinsAt z;obtain ⟨f0,f1,f2,_⟩:=hf p.1 hb;obtain ⟨o,e',d⟩:=ho p.1 hb;rw [e] at e';cases e';exact ⟨e,f0,f1,f2,d⟩
theorem Inv.unpinned{pins pl:List (Addr×Obj)}{σ : St}{H:Hp}{s:Shared}(I:Inv X (pins++pl) σ H s):Inv X pins σ H s:=I.pins_of fun p hp=>I.pin p (List.mem_append_right _ (List.mem_append_left _ hp))
theorem ps_for{iter:Expr}{body:List Stmt}{wi:TI}{g:TG}{tb:TS}{pos:Pos}(hp:PassesOwn (model X.prog X.w) X.A X.env X.xe)(hc:X.calm=true)(hi:PI X tg iter wi)(hg:PG X tg g)(hb:PSs X body tb)
  (hs:∀x,foldedSetIterable iter X.env x=pure x:=by intro _;rfl):PS X (.For tg iter body [] pos) (tFor wi g tb):=by
 intro pins s σ H D I h;refine wpAny_For (thn (hi pins s σ H _ I h) fun v s1 h1=>thn h1 fun itv s2 h2=>?_) hs;obtain ⟨it,fp,tn,J,H2,e,I2,T,st2,f2,W,⟨m0,w0⟩,turn⟩:=h2;subst e;have stat:∀{H':Hp},(∀b∈fp,H' b=none)→∀b∈fp,FpOk X pins H' b:=fun hn b hb=>⟨hn b hb,(f2 b hb).2⟩
 refine codeAny_forLoop_any (fun n s'=>∃i σ' H',Inv X pins σ' H' s'∧tn i s'.heap∧(∀b∈fp,H' b=none)∧W i n σ' H') ?_ m0 ⟨0,σ,H2,I2,st2,fun b hb=>(f2 b hb).1,w0⟩;rintro n s3 ⟨i,σ3,H3,I3,st3,fr3,w3⟩;rcases turn i n σ3 H3 w3 with ⟨stop,qn⟩ | ⟨go,N,hN,step⟩
 ·refine wpAny_passesOwn hp (thn (T.done X rfl rfl rfl hc i pins s3 σ3 H3 X.xe I3 (stat fr3) st3 stop) fun r s4 ⟨hr,I4⟩=>?_);subst hr;exact wpAny_execs_nil ⟨σ3,H3,I4,qn⟩
 ·refine wpAny_passesOwn hp (thn (T.item X rfl rfl rfl hc i pins s3 σ3 H3 X.xe I3 (stat fr3) st3 go) fun r s4 ⟨u,hr,h4⟩=>?_);subst hr;refine wpAny_passesOwn hp (thn h4 fun _ s5 ⟨x,H5,I5,r5,y5,st5,fr5⟩=>?_);have I5':=I5.pinned (stat fr5) (T.obj _ _ st5);refine wpAny_passesOwn hp (thn (hg _ s5 σ3 H5 x u _ I5' r5 (step x H5 y5)) fun _ s6 ⟨σ6,H6,I6,q6⟩=>?_);refine wpAny_passesOwn hp (thn (hb _ s6 σ6 H6 _ I6 q6) fun f s7 q7=>?_)
  have again:∀{σ7:St} {H7:Hp},Inv X (pins++pinsAt fp s5.heap) σ7 H7 s7→N σ7 H7→∃m,m < n∧∃i σ' H',Inv X pins σ' H' s7∧tn i s7.heap∧(∀b∈fp,H' b=none)∧W i m σ' H':=fun {σ7 H7} I7 n7=>by
   obtain ⟨m',hm,w7⟩:=hN σ7 H7 n7;refine ⟨m',hm,i+1,σ7,H7,I7.unpinned,T.keep _ _ _ st5 fun b hb o e=>(I7.pin (b,o) (List.mem_append_right _ (List.mem_append_right _ (mem_pinsAt hb e)))).1,fun b hb=>?_,w7⟩;obtain ⟨o,e,d⟩:=T.obj _ _ st5 b hb;exact (I7.pin (b,o) (List.mem_append_right _ (List.mem_append_right _ (mem_pinsAt hb e)))).2.1
  cases f with
  | next=>obtain ⟨σ7,H7,I7,n7⟩:=q7;exact again I7 n7
  | cont=>obtain ⟨σ7,H7,I7,n7⟩:=q7;exact again I7 n7
  | brk=>obtain ⟨σ7,H7,I7,q7⟩:=q7;exact ⟨σ7,H7,I7.unpinned,q7⟩
  | ret v=>obtain ⟨x7,σ7,H7,I7,r7,q7⟩:=q7;exact ⟨x7,σ7,H7,I7.unpinned,r7,q7⟩
end
theorem for_list{K:Fg}{a:Addr}{xs:List V}{g:TG}{tb:TS}{D:Ends}{σ : St}{H:Hp}(Pv:Nat→St→Hp→Prop)(h0:Pv 0 σ H)(hl:∀i σ H,i≤xs.length→Pv i σ H→SqL K H a xs)
  (hs:∀i x σ H,xs[i]? = some x→Pv i σ H→g x σ H fun σ2 H2=>tb { D with nx:=Pv (i+1),ct:=Pv (i+1),bk:=D.nx } σ2 H2) (hd:∀σ H,Pv xs.length σ H→D.nx σ H) :
  ∃W:Nat→Nat→St→Hp→Prop,(∃m,W 0 m σ H)∧∀i m σ H,W i m σ H →
   ((Itl K a).stop i H∧D.nx σ H)∨((Itl K a).go i H∧∃N:St→Hp→Prop,(∀σ' H',N σ' H'→∃m',m' < m∧W (i+1) m' σ' H')∧∀x H',(Itl K a).yld i H x H'→g x σ H' fun σ2 H2=>tb { D with nx:=N,ct:=N,bk:=D.nx } σ2 H2):=by
 refine ⟨fun i m σ H=>m=xs.length - i∧i≤xs.length∧Pv i σ H,⟨xs.length,by simp,Nat.zero_le _,h0⟩,?_⟩;rintro i m σ H ⟨rfl,hi,p⟩;have q:=hl i σ H hi p;by_cases hlt:i < xs.length
 ·refine .inr ⟨⟨xs,xs[i],q,by simp [hlt]⟩,Pv (i+1),fun σ' H' p'=>⟨xs.length - (i+1),by omega,rfl,hlt,p'⟩,fun x H' y=>?_⟩;obtain ⟨e,y⟩:=y;subst e;exact hs i x σ _ (y xs q) p
 ·have e:i=xs.length:=by omega
  subst e;exact .inl ⟨⟨xs,q,Nat.le_refl _⟩,hd σ H p⟩
theorem for_tup{K:Fg}{a:Addr}{xs:List V}{g:TG}{tb:TS}{D:Ends}{σ : St}{H:Hp}(Pv:Nat→St→Hp→Prop)(h0:Pv 0 σ H)(hl:∀i σ H,i≤xs.length→Pv i σ H→SqT K H a xs)
  (hs:∀i x σ H,xs[i]? = some x→Pv i σ H→g x σ H fun σ2 H2=>tb { D with nx:=Pv (i+1),ct:=Pv (i+1),bk:=D.nx } σ2 H2) (hd:∀σ H,Pv xs.length σ H→D.nx σ H) :
  ∃W:Nat→Nat→St→Hp→Prop,(∃m,W 0 m σ H)∧∀i m σ H,W i m σ H →
   ((Itt K a).stop i H∧D.nx σ H)∨((Itt K a).go i H∧∃N:St→Hp→Prop,(∀σ' H',N σ' H'→∃m',m' < m∧W (i+1) m' σ' H')∧∀x H',(Itt K a).yld i H x H'→g x σ H' fun σ2 H2=>tb { D with nx:=N,ct:=N,bk:=D.nx } σ2 H2):=by
 refine ⟨fun i m σ H=>m=xs.length - i∧i≤xs.length∧Pv i σ H,⟨xs.length,by simp,Nat.zero_le _,h0⟩,?_⟩;rintro i m σ H ⟨rfl,hi,p⟩;have q:=hl i σ H hi p;by_cases hlt:i < xs.length
 ·refine .inr ⟨⟨xs,xs[i],q,by simp [hlt]⟩,Pv (i+1),fun σ' H' p'=>⟨xs.length - (i+1),by omega,rfl,hlt,p'⟩,fun x H' y=>?_⟩;obtain ⟨e,y⟩:=y;subst e;exact hs i x σ _ (y xs q) p
 ·have e:i=xs.length:=by omega
  subst e;exact .inl ⟨⟨xs,q,Nat.le_refl _⟩,hd σ H p⟩
theorem for_range{lo:Int}{n:Nat}{g:TG}{tb:TS}{D:Ends}{σ : St}{H:Hp}(Pv:Nat→St→Hp→Prop)(h0:Pv 0 σ H)
  (hs:∀i σ H,i < n→Pv i σ H→g (.int (lo+i)) σ H fun σ2 H2=>tb { D with nx:=Pv (i+1),ct:=Pv (i+1),bk:=D.nx } σ2 H2) (hd:∀σ H,Pv n σ H→D.nx σ H) :
  ∃W:Nat→Nat→St→Hp→Prop,(∃m,W 0 m σ H)∧∀i m σ H,W i m σ H →
   ((Itr lo n).stop i H∧D.nx σ H)∨((Itr lo n).go i H∧∃N:St→Hp→Prop,(∀σ' H',N σ' H'→∃m',m' < m∧W (i+1) m' σ' H')∧∀x H',(Itr lo n).yld i H x H'→g x σ H' fun σ2 H2=>tb { D with nx:=N,ct:=N,bk:=D.nx } σ2 H2):=by
 refine ⟨fun i m σ H=>m=n - i∧i≤n∧Pv i σ H,⟨n,by simp,Nat.zero_le _,h0⟩,?_⟩;rintro i m σ H ⟨rfl,hi,p⟩;by_cases hlt:i < n
 ·refine .inr ⟨hlt,Pv (i+1),fun σ' H' p'=>⟨n - (i+1),by omega,rfl,hlt,p'⟩,fun x H' y=>?_⟩;obtain ⟨e,y⟩:=y;subst e y;exact hs i σ _ hlt p
 ·have e:i=n:=by omega
  subst e;exact .inl ⟨Nat.le_refl _,hd σ H p⟩
theorem while_by{c:TT}{tb:TS}{D:Ends}{σ : St}{H:Hp}(Pv:St→Hp→Prop)(μ : St→Hp→Nat)(h0:Pv σ H)
  (hs:∀σ H,Pv σ H→c σ H fun b H1=>if b=true then tb { D with nx:=fun σ' H'=>Pv σ' H'∧μ σ' H' < μ σ H,ct:=fun σ' H'=>Pv σ' H'∧μ σ' H' < μ σ H,bk:=D.nx } σ H1 else D.nx σ H1)
  (mono:∀σ H Q Q',(∀b H1,Q b H1→Q' b H1)→c σ H Q→c σ H Q'):tWhile c tb D σ H:=by
 refine ⟨fun m σ H=>m = μ σ H∧Pv σ H,⟨_,rfl,h0⟩,?_⟩;rintro m σ H ⟨rfl,p⟩;refine mono σ H _ _ (fun b H1 q=>?_) (hs σ H p);cases b with
 | true=>exact ⟨_,fun σ' H' ⟨p',l⟩=>⟨_,l,rfl,p'⟩,q⟩
 | false=>exact q
abbrev R2:=V→V→Hp→VK→Prop
def OpR(X:Cx)(f:Value→Value→Sem Value)(r:R2):Prop :=
 ∀(pins:List (Addr×Obj)) (s:Shared) (σ : St) (H:Hp) (x y:V) (v u:Value) (Q:VK),Inv X pins σ H s→RelV x v→RelV y u→r x y H Q →
  wpAny (model X.prog X.w) X.A (f v u) (EP X pins σ Q) X.xe s
def UnR(X:Cx)(f:Value→Sem Value)(r:V→Hp→VK→Prop):Prop :=
 ∀(pins:List (Addr×Obj)) (s:Shared) (σ : St) (H:Hp) (x:V) (v:Value) (Q:VK),Inv X pins σ H s→RelV x v→r x H Q →
  wpAny (model X.prog X.w) X.A (f v) (EP X pins σ Q) X.xe s
def CallR(X:Cx)(f:Value)(r:List V→Hp→VK→Prop):Prop :=
 ∀(pins:List (Addr×Obj)) (s:Shared) (σ : St) (H:Hp) (xs:List V) (us:List Value) (Q:VK),Inv X pins σ H s→Vals xs us→r xs H Q →
  wpAny (model X.prog X.w) X.A (call f us) (EP X pins σ Q) X.xe s
def tOp(r:R2)(ta tb:TE):TE:=fun σ H Q=>ta σ H fun x H1=>tb σ H1 fun y H2=>r x y H2 Q
def tUn(r:V→Hp→VK→Prop)(ta:TE):TE:=fun σ H Q=>ta σ H fun x H1=>r x H1 Q
def rI(C:Int→Int→Prop)(g:Int→Int→V):R2:=fun x y H Q=>∃i j,x = .int i∧y = .int j∧C i j∧Q (g i j) H
def rI0(g:Int→Int→V):R2:=fun x y H Q=>∃i j,x = .int i∧y = .int j∧Q (g i j) H
def rU(g:Int→V):V→Hp→VK→Prop:=fun x H Q=>∃i,x = .int i∧Q (g i) H
section
variable{X:Cx}{a b c:Expr}{ta tb tc:TE}{pos:Pos}
theorem binT(ha:PE X a ta)(hb:PE X b tb){pins:List (Addr×Obj)}{s:Shared}{σ : St}{H:Hp}{R:V→V→Hp→Prop}(I:Inv X pins σ H s)
  (h:ta σ H fun x H1=>tb σ H1 fun y H2=>R x y H2) {Q:Value→Shared→Prop} {f:Value→Value→Sem Value}
  (hf:∀v u s2 x y H2,Inv X pins σ H2 s2→RelV x v→RelV y u→R x y H2→wpAny (model X.prog X.w) X.A (f v u) Q X.xe s2) :
  wpAny (model X.prog X.w) X.A (eval a X.env) (fun v s₁=>wpAny (model X.prog X.w) X.A (eval b X.env) (fun u s₂=>wpAny (model X.prog X.w) X.A (f v u) Q X.xe s₂) X.xe s₁) X.xe s:=by
 refine thn (ha pins s σ H _ I h) fun v s1 ⟨x,H1,I1,r1,q1⟩=>?_
 refine thn (hb pins s1 σ H1 _ I1 q1) fun u s2 ⟨y,H2,I2,r2,q2⟩=>?_
 exact hf v u s2 x y H2 I2 r1 r2 q2
theorem pe_op{op:Operator}{r:R2}(ho:OpR X (binaryOp op) r)(ha:PE X a ta)(hb:PE X b tb):PE X (.BinOp a op b pos) (tOp r ta tb):=by
 intro pins s σ H Q I h;exact wpAny_BinOp (binT ha hb I h fun v u s2 x y H2 I2 rx ry q=>ho pins s2 σ H2 x y v u Q I2 rx ry q)
theorem pe_un{op:UnaryOp}{r:V→Hp→VK→Prop}(ho:UnR X (unaryOp op) r)(ha:PE X a ta):PE X (.UnaryOp op a pos) (tUn r ta):=by
 intro pins s σ H Q I h;exact UnaryOp_ (thn (ha pins s σ H _ I h) fun v s1 ⟨x,H1,I1,r1,q1⟩=>ho pins s1 σ H1 x v Q I1 r1 q1)
theorem opI{f:Value→Value→Sem Value}{C:Int→Int→Prop}{g:Int→Int→Int}
  (rule:∀(i j:Int) (t u:Tok) (s:Shared) (Q:Value→Shared→Prop) (E:Value→Shared→Prop),C i j→Q (.int (g i j) s.toks) { s with toks:=s.toks+1 }→wpAny (model X.prog X.w) X.A (f (.int i t) (.int j u)) Q E s) :
  OpR X f (rI C fun i j=>.int (g i j)):=by
 intro pins s σ H x y v u Q I rx ry h;obtain ⟨i,j,rfl,rfl,hc,q⟩:=h;obtain ⟨t,rfl⟩:=rx;obtain ⟨t',rfl⟩:=ry;exact rule i j t t' s _ _ hc ⟨.int (g i j),H,I.tok _,⟨_,rfl⟩,q⟩
theorem opI0{f:Value→Value→Sem Value}{g:Int→Int→Int}
  (rule:∀(i j:Int) (t u:Tok) (s:Shared) (Q:Value→Shared→Prop) (E:Value→Shared→Prop),Q (.int (g i j) s.toks) { s with toks:=s.toks+1 }→wpAny (model X.prog X.w) X.A (f (.int i t) (.int j u)) Q E s) :
  OpR X f (rI0 fun i j=>.int (g i j)):=by
 intro pins s σ H x y v u Q I rx ry h;obtain ⟨i,j,rfl,rfl,q⟩:=h;obtain ⟨t,rfl⟩:=rx;obtain ⟨t',rfl⟩:=ry;exact rule i j t t' s _ _ ⟨.int (g i j),H,I.tok _,⟨_,rfl⟩,q⟩
theorem opB0{f:Value→Value→Sem Value}{g:Int→Int→Bool}
  (rule:∀(i j:Int) (t u:Tok) (s:Shared) (Q:Value→Shared→Prop) (E:Value→Shared→Prop),Q (.bool (g i j)) s→wpAny (model X.prog X.w) X.A (f (.int i t) (.int j u)) Q E s) :
  OpR X f (rI0 fun i j=>.bl (g i j)):=by
 intro pins s σ H x y v u Q I rx ry h;obtain ⟨i,j,rfl,rfl,q⟩:=h;obtain ⟨t,rfl⟩:=rx;obtain ⟨t',rfl⟩:=ry;exact rule i j t t' s _ _ ⟨.bl (g i j),H,I,rfl,q⟩
def CDiv(i j:Int):Prop:=0 < j∧j < 1073741824
def CPow(i j:Int):Prop:=0≤j∧j≤1000000∧i.natAbs < 2 ^ 64
def CMul(i j:Int):Prop:=(-(2 ^ 64) < i∧i < 2 ^ 64)∨(-(2 ^ 64) < j∧j < 2 ^ 64)
theorem CMul.ok{i j:Int}(h:CMul i j):IntMulOk i j:=by
 rcases h with ⟨h1,h2⟩ | ⟨h1,h2⟩
 ·exact .of_left (intBits_le_64 h1 h2)
 ·exact .of_right (intBits_le_64 h1 h2)
theorem op_add:OpR X (binaryOp .Add) (rI0 fun i j=>.int (i+j)):=opI0 fun _ _ _ _ _ _ _ q=>add_int q
theorem op_sub:OpR X (binaryOp .Sub) (rI0 fun i j=>.int (i - j)):=opI0 fun _ _ _ _ _ _ _ q=>sub_int q
theorem op_mul:OpR X (binaryOp .Mult) (rI CMul fun i j=>.int (i*j)):=opI fun _ _ _ _ _ _ _ hc q=>mul_int q hc.ok
theorem op_fdiv:OpR X (binaryOp .FloorDiv) (rI CDiv fun i j=>.int (i / j)):=opI fun i j _ _ _ _ _ hc q=>by
 have h1:(0:Int) < j:=hc.1;have h2:j < 1073741824:=hc.2;exact floordiv_int (by omega) (by rw [Int.fdiv_eq_ediv_of_nonneg i (by omega)];exact q) (.inl (PyProof.noPylong_small (by omega)))
theorem op_mod:OpR X (binaryOp .Mod) (rI (fun _ j=>0 < j) fun i j=>.int (i % j)):=opI fun i j _ _ _ _ _ hc q=>by
 have h1:(0:Int) < j:=hc;exact mod_int' (by omega) (by rw [Int.fmod_eq_emod_of_nonneg i (by omega)];exact q)
theorem op_modN:OpR X (binaryOp .Mod) (rI (fun _ j=>j≠0) fun i j=>.int (i.fmod j)):=opI fun _ _ _ _ _ _ _ hc q=>mod_int' hc q
theorem op_pow:OpR X (binaryOp .Pow) (rI CPow fun i j=>.int (i ^ j.toNat)):=opI fun _ _ _ _ _ _ _ hc q=>pow_int_small hc.1 hc.2.1 hc.2.2 q
theorem unI{f:Value→Sem Value}{g:Int→Int}
  (rule:∀(i:Int) (t:Tok) (s:Shared) (Q:Value→Shared→Prop) (E:Value→Shared→Prop),Q (.int (g i) s.toks) { s with toks:=s.toks+1 }→wpAny (model X.prog X.w) X.A (f (.int i t)) Q E s) :
  UnR X f (rU fun i=>.int (g i)):=by
 intro pins s σ H x v Q I rx h;obtain ⟨i,rfl,q⟩:=h;obtain ⟨t,rfl⟩:=rx;exact rule i t s _ _ ⟨.int (g i),H,I.tok _,⟨_,rfl⟩,q⟩
theorem un_neg:UnR X (unaryOp .USub) (rU fun i=>.int (-i)):=unI fun _ _ _ _ _ q=>neg_int q
end
def scal:V→V→Bool
 | .non,.non=>true | .non,.int _=>true | .int _,.non=>true | .non,.bl _=>true | .bl _,.non=>true | .non,.str _=>true | .str _,.non=>true
 | .int _,.int _=>true | .bl _,.bl _=>true | .str _,.str _=>true | .byt _,.byt _=>true
 | .int _,.str _=>true | .str _,.int _=>true | .bl _,.str _=>true | .str _,.bl _=>true
 | _,_=>false
def rEq:R2:=fun x y H Q=>scal x y=true∧Q (.bl (decide (x=y))) H
def rNe:R2:=fun x y H Q=>scal x y=true∧Q (.bl (!decide (x=y))) H
theorem dec_int{i j:Int}:decide (V.int i=V.int j)=(i == j):=by
 rw [Bool.eq_iff_iff];simp
theorem dec_bl{i j:Bool}:decide (V.bl i=V.bl j)=(i == j):=by
 rw [Bool.eq_iff_iff];simp
theorem dec_str{i j:Str}:decide (V.str i=V.str j)=(i == j):=by
 rw [Bool.eq_iff_iff];simp
theorem dec_byt{i j:Array UInt8}:decide (V.byt i=V.byt j)=(i.toList == j.toList):=by
 rw [Bool.eq_iff_iff];cases i;cases j;simp
section
variable{X:Cx}{a b c:Expr}{ta tb tc:TE}{pos:Pos}
theorem fin_bl{pins:List (Addr×Obj)}{σ : St}{H:Hp}{s:Shared}{Q:VK}{k k':Bool}(I:Inv X pins σ H s)(q:Q (.bl k) H)(e:k=k'):EP X pins σ Q (.bool k') s:=by
 subst e;exact ⟨.bl k,H,I,rfl,q⟩
theorem op_eq:OpR X (compareOp .Eq) rEq:=by
 intro pins s σ H x y v u Q I rx ry h;obtain ⟨hs,q⟩:=h;cases x with
 | non =>
  cases rx;cases y with
  | non=>cases ry;exact PySem.EqNone.eq_none_none (fin_bl I q (by simp))
  | bl j=>cases ry;exact PySem.EqNone.eq_none_bool (fin_bl I q (by simp))
  | int j=>obtain ⟨t',rfl⟩:=ry;exact PySem.EqNone.eq_none_int (fin_bl I q (by simp))
  | str j=>obtain ⟨t',rfl⟩:=ry;exact PySem.EqNone.eq_none_str (fin_bl I q (by simp))
  | _=>exact absurd (show false=true from hs) Bool.false_ne_true
 | bl i =>
  cases rx;cases y with
  | non=>cases ry;exact PySem.EqNone.eq_bool_none (fin_bl I q (by simp))
  | bl j=>cases ry;exact eq_bool (fin_bl I q dec_bl)
  | str j=>obtain ⟨t',rfl⟩:=ry;exact PySem.EqMixed.eq_bool_str (fin_bl I q (by simp))
  | _=>exact absurd (show false=true from hs) Bool.false_ne_true
 | int i =>
  obtain ⟨t,rfl⟩:=rx;cases y with
  | non=>cases ry;exact PySem.EqNone.eq_int_none (fin_bl I q (by simp))
  | int j=>obtain ⟨t',rfl⟩:=ry;exact eq_int (fin_bl I q dec_int)
  | str j=>obtain ⟨t',rfl⟩:=ry;exact PySem.EqMixed.eq_int_str (fin_bl I q (by simp))
  | _=>exact absurd (show false=true from hs) Bool.false_ne_true
 | str i =>
  obtain ⟨t,rfl⟩:=rx;cases y with
  | non=>cases ry;exact PySem.EqNone.eq_str_none (fin_bl I q (by simp))
  | bl j=>cases ry;exact PySem.EqMixed.eq_str_bool (fin_bl I q (by simp))
  | int j=>obtain ⟨t',rfl⟩:=ry;exact PySem.EqMixed.eq_str_int (fin_bl I q (by simp))
  | str j=>obtain ⟨t',rfl⟩:=ry;exact eq_str (fin_bl I q dec_str)
  | _=>exact absurd (show false=true from hs) Bool.false_ne_true
 | byt i =>
  obtain ⟨t,rfl⟩:=rx;cases y with
  | byt j=>obtain ⟨t',rfl⟩:=ry;exact PySem.W.eq_bytes (fin_bl I q dec_byt)
  | _=>exact absurd (show false=true from hs) Bool.false_ne_true
 | _=>cases y <;> exact absurd (show false=true from hs) Bool.false_ne_true
theorem op_ne:OpR X (compareOp .NotEq) rNe:=by
 intro pins s σ H x y v u Q I rx ry h;obtain ⟨hs,q⟩:=h;cases x with
 | non =>
  cases rx;cases y with
  | non=>cases ry;exact PySem.EqNone.ne_none_none (fin_bl I q (by simp))
  | bl j=>cases ry;exact PySem.EqNone.ne_none_bool (fin_bl I q (by simp))
  | int j=>obtain ⟨t',rfl⟩:=ry;exact PySem.EqNone.ne_none_int (fin_bl I q (by simp))
  | str j=>obtain ⟨t',rfl⟩:=ry;exact PySem.EqNone.ne_none_str (fin_bl I q (by simp))
  | _=>exact absurd (show false=true from hs) Bool.false_ne_true
 | bl i =>
  cases rx;cases y with
  | non=>cases ry;exact PySem.EqNone.ne_bool_none (fin_bl I q (by simp))
  | bl j=>cases ry;exact ne_bool (fin_bl I q (congrArg not dec_bl))
  | str j=>obtain ⟨t',rfl⟩:=ry;exact PySem.EqMixed.ne_bool_str (fin_bl I q (by simp))
  | _=>exact absurd (show false=true from hs) Bool.false_ne_true
 | int i =>
  obtain ⟨t,rfl⟩:=rx;cases y with
  | non=>cases ry;exact PySem.EqNone.ne_int_none (fin_bl I q (by simp))
  | int j=>obtain ⟨t',rfl⟩:=ry;exact ne_int (fin_bl I q (congrArg not dec_int))
  | str j=>obtain ⟨t',rfl⟩:=ry;exact PySem.EqMixed.ne_int_str (fin_bl I q (by simp))
  | _=>exact absurd (show false=true from hs) Bool.false_ne_true
 | str i =>
  obtain ⟨t,rfl⟩:=rx;cases y with
  | non=>cases ry;exact PySem.EqNone.ne_str_none (fin_bl I q (by simp))
  | bl j=>cases ry;exact PySem.EqMixed.ne_str_bool (fin_bl I q (by simp))
  | int j=>obtain ⟨t',rfl⟩:=ry;exact PySem.EqMixed.ne_str_int (fin_bl I q (by simp))
  | str j=>obtain ⟨t',rfl⟩:=ry;exact ne_str (fin_bl I q (congrArg not dec_str))
  | _=>exact absurd (show false=true from hs) Bool.false_ne_true
 | byt i =>
  obtain ⟨t,rfl⟩:=rx;cases y with
  | byt j=>obtain ⟨t',rfl⟩:=ry;exact PySem.W.ne_bytes (fin_bl I q (congrArg not dec_byt))
  | _=>exact absurd (show false=true from hs) Bool.false_ne_true
 | _=>cases y <;> exact absurd (show false=true from hs) Bool.false_ne_true
theorem op_lt:OpR X (compareOp .Lt) (rI0 fun i j=>.bl (decide (i < j))):=opB0 fun _ _ _ _ _ _ _ q=>lt_int q
theorem op_le:OpR X (compareOp .LtE) (rI0 fun i j=>.bl (decide (i≤j))):=opB0 fun _ _ _ _ _ _ _ q=>le_int q
theorem op_gt:OpR X (compareOp .Gt) (rI0 fun i j=>.bl (decide (j < i))):=opB0 fun _ _ _ _ _ _ _ q=>gt_int q
theorem op_isN:OpR X (compareOp .Is) (fun x y H Q=>y = .non∧Q (.bl (decide (x = .non))) H):=by
 intro pins s σ H x y v u Q I rx ry h;obtain ⟨rfl,q⟩:=h;cases ry;refine is_none_gen (fin_bl I q ?_)
 cases x <;> first
  | (cases rx;rfl)
  | (obtain ⟨t,rfl⟩:=rx;rfl)
theorem nomark(b:Expr){op:CmpOp}(h:op≠.In:=by decide)(h2:op≠.NotIn:=by decide):behindInMarks op b=false:=by
 have e1:(op == CmpOp.In)=false:=by cases op <;> first | rfl | exact absurd rfl h
 have e2:(op == CmpOp.NotIn)=false:=by cases op <;> first | rfl | exact absurd rfl h2
 cases b <;> simp [behindInMarks,e1,e2]
theorem pe_cmpR{op:CmpOp}{r:R2}(ho:OpR X (compareOp op) r)(ha:PE X a ta)(hb:PE X b tb)(hm:behindInMarks op b=false):PE X (.Compare a [op] [b] pos) (tOp r ta tb):=by
 intro pins s σ H Q I h;exact wpAny_Compare1 (binT ha hb I h fun v u s2 x y H2 I2 rx ry q=>ho pins s2 σ H2 x y v u Q I2 rx ry q) hm
def tTest(t:TE):TT:=fun σ H Q=>t σ H fun x H'=>∃k,x = .bl k∧Q k H'
theorem pt_cmpR{op:CmpOp}{r:R2}(ho:OpR X (compareOp op) r)(ha:PE X a ta)(hb:PE X b tb)(hm:behindInMarks op b=false):PT X (.Compare a [op] [b] pos) (tTest (tOp r ta tb)):=by
 intro pins s σ H Q I h
 refine wpAny_isTrue_Compare1 (thn (ha pins s σ H _ I h) fun v s1 ⟨x,H1,I1,r1,q1⟩=>thn (hb pins s1 σ H1 _ I1 q1) fun u s2 ⟨y,H2,I2,r2,q2⟩ =>
  thn (ho pins s2 σ H2 x y v u _ I2 r1 r2 q2) fun c s3 ⟨z,H3,I3,r3,k,e,q3⟩=>?_) hm
 subst e;cases r3;exact wpAny_truthy_bool ⟨H3,I3,q3⟩
def tChain(r r':R2)(ta tb tc:TE):TE:=fun σ H Q=>ta σ H fun x H1=>tb σ H1 fun y H2=>r x y H2 fun z H3=>∃k,z = .bl k ∧
 (if k=true then tc σ H3 fun w' H4=>r' y w' H4 Q else Q (.bl false) H3)
theorem pt_chain{op op':CmpOp}{r r':R2}(ho:OpR X (compareOp op) r)(ho':OpR X (compareOp op') r')(ha:PE X a ta)(hb:PE X b tb)(hc:PE X c tc)
  (hm:lastMarks [op,op'] [b,c]=false:=by with_unfolding_all rfl):PT X (.Compare a [op,op'] [b,c] pos) (tTest (tChain r r' ta tb tc)):=by
 intro pins s σ H Q I h
 refine isTrue_chain (thn (ha pins s σ H _ I h) fun v s1 ⟨x,H1,I1,r1,q1⟩=>test_link (thn (hb pins s1 σ H1 _ I1 q1) fun u s2 ⟨y,H2,I2,r2,q2⟩ =>
  thn (ho pins s2 σ H2 x y v u _ I2 r1 r2 q2) fun d s3 ⟨z,H3,I3,r3,k,e,q3⟩=>?_)) hm
 subst e;cases r3;refine wpAny_truthy_bool ?_;cases k with
 | false =>
  obtain ⟨k',e',q'⟩:=q3;cases e';exact ite_ff ⟨H3,I3,q'⟩
 | true =>
  refine ite_tt (test_last (thn (hc pins s3 σ H3 _ I3 q3) fun w' s4 ⟨z',H4,I4,r4,q4⟩=>thn (ho' pins s4 σ H4 y z' u w' _ I4 r2 r4 q4) fun d' s5 ⟨z2,H5,I5,r5,k2,e2,q5⟩=>?_));subst e2;cases r5;exact wpAny_truthy_bool ⟨H5,I5,q5⟩
theorem line63:(sizeLine:Nat) < 2 ^ 63:=by rw [sizeLine_eq];decide
theorem op_add_str:OpR X (binaryOp .Add) (fun x y H Q=>∃i j,x = .str i∧y = .str j∧i.length+j.length≤sizeLine∧Q (.str (i++j)) H):=by
 intro pins s σ H x y v u Q I rx ry h;obtain ⟨i,j,rfl,rfl,hz,q⟩:=h;obtain ⟨t,rfl⟩:=rx;obtain ⟨t',rfl⟩:=ry;exact add_str (fun t' tk=>⟨.str (i++j),H,I.tok _,⟨_,rfl⟩,q⟩) hz
theorem vals1{x:V}{us:List Value}(r:Vals [x] us):∃u,us=[u]∧RelV x u:=by
 cases r with
 | cons r1 r2=>cases r2;exact ⟨_,rfl,r1⟩
theorem vals2{x y:V}{us:List Value}(r:Vals [x,y] us):∃u w',us=[u,w']∧RelV x u∧RelV y w':=by
 cases r with
 | cons r1 r2 =>
  cases r2 with
  | cons r3 r4=>cases r4;exact ⟨_,_,rfl,r1,r3⟩
theorem call_abs:CallR X (.builtin "abs") (fun xs H Q=>∃i,xs=[.int i]∧Q (.int (if i < 0 then -i else i)) H):=by
 intro pins s σ H xs us Q I r h;obtain ⟨i,rfl,q⟩:=h;obtain ⟨u,rfl,t,rfl⟩:=vals1 r;exact call_abs_int fun u tk=>⟨.int (if i < 0 then -i else i),H,I.tok _,⟨_,rfl⟩,q⟩
theorem call_max2 (hc:X.calm=true):CallR X (.builtin "max") (fun xs H Q=>∃i j,xs=[.int i,.int j]∧Q (.int (if j > i then j else i)) H):=by
 intro pins s σ H xs us Q I r h;obtain ⟨i,j,rfl,q⟩:=h;obtain ⟨u,w',rfl,⟨t,rfl⟩,⟨t',rfl⟩⟩:=vals2 r;refine max_two_ints (I.ok.hd hc) fun h' tk k=>⟨_,H,I.kept k,?_,q⟩
 by_cases hj:j > i
 ·rw [if_pos hj,if_pos hj];exact ⟨_,rfl⟩
 ·rw [if_neg hj,if_neg hj];exact ⟨_,rfl⟩
theorem call_min2 (hc:X.calm=true):CallR X (.builtin "min") (fun xs H Q=>∃i j,xs=[.int i,.int j]∧Q (.int (if j < i then j else i)) H):=by
 intro pins s σ H xs us Q I r h;obtain ⟨i,j,rfl,q⟩:=h;obtain ⟨u,w',rfl,⟨t,rfl⟩,⟨t',rfl⟩⟩:=vals2 r;refine min_two_ints (I.ok.hd hc) fun h' tk k=>⟨_,H,I.kept k,?_,q⟩
 by_cases hj:j < i
 ·rw [if_pos hj,if_pos hj];exact ⟨_,rfl⟩
 ·rw [if_neg hj,if_neg hj];exact ⟨_,rfl⟩
theorem call_int1:CallR X (.type "int") (fun xs H Q=>(∃i,xs=[.int i]∧Q (.int i) H)∨∃k,xs=[.bl k]∧Q (.int (if k then 1 else 0)) H):=by
 intro pins s σ H xs us Q I r h;rcases h with ⟨i,rfl,q⟩ | ⟨k,rfl,q⟩
 ·obtain ⟨u,rfl,t,rfl⟩:=vals1 r;exact call_int_int ⟨.int i,H,I,⟨_,rfl⟩,q⟩
 ·obtain ⟨u,rfl,r1⟩:=vals1 r;cases r1;exact call_int_bool ⟨.int (if k then 1 else 0),H,I.tok _,⟨_,rfl⟩,q⟩
end
structure ObjM (h:Heap) (x dx C:Addr) (mA:Str→Option Value):Prop where
 obj:h.get? x=some (PySem.W.instObj C dx)
 ns:h.Ns1 dx mA
 ne:dx≠x
theorem lookIn_ns{h:Heap}{dx:Addr}{mA:Str→Option Value}(n:h.Ns1 dx mA):∃od,h.get? dx=some od∧∀name,PySem.W.lookIn name od=some (mA name):=by
 obtain ⟨o,es,ep,ho,hd,hk,_,hm⟩:=n;refine ⟨o,ho,fun name=>?_⟩;have e:=hm name;unfold nsFind findBy at e;rw [← Array.find?_toList] at e;unfold PySem.W.lookIn;rw [hd];dsimp only;split
 ·rename_i y q;rw [q] at e;exact congrArg some e
 ·rename_i q;rw [q] at e
  have a:es.toList.any (·.refKey)=false:=by
   rw [List.any_eq_false];intro y hy;obtain ⟨z,t,hkey⟩:=hk y (Array.mem_toList_iff.mp hy);simp [DictEntry.refKey,hkey]
  have a' : ¬ es.toList.any (·.refKey)=true:=by rw [a];exact Bool.false_ne_true
  rw [if_neg a'];exact congrArg some e
theorem ObjM.look{h:Heap}{x dx C:Addr}{mA:Str→Option Value}(I:ObjM h x dx C mA):∃od,PySem.W.InstAt h x (PySem.W.instObj C dx) C (some od)∧∀name,PySem.W.lookIn name od=some (mA name) :=
 let ⟨od,ho,hl⟩:=lookIn_ns I.ns
 ⟨od,⟨I.obj,rfl,rfl,ho⟩,hl⟩
section
variable{prog:Program}{w:World}{A:Around}{E:Value→Shared→Prop}{s:Shared}{K:Fg}{x dx C f:Addr}{mA:Str→Option Value}{name:Str}{v:Value}
end
theorem RelO.some_of{v:V}{o:Option Value}(r:RelO (some v) o):∃u,o=some u∧RelV v u:=by
 cases o with
 | none=>exact (show False from r).elim
 | some u=>exact ⟨u,rfl,r⟩
section
variable{P:Program}{w:World}{H H':Hp}{h h':Heap}{a C dx:Addr}{fs fs':List (Str×V)}
theorem ins_get(hok:HOk P w H h)(e:H a=some (.ins C dx fs)):∃mA,ObjM h a dx C mA∧(∀f,RelO (fs.lookup f) (mA f))∧PySem.Within mA (fs.map (·.1))∧fs.length≤1000∧H dx=some (.own a):=by
 obtain ⟨d,z,ne,ob,mA,n,r,q⟩:=(show ObjOk P w H h a (.ins C dx fs) from hok a _ e)
 exact ⟨mA,⟨ob,n,ne⟩,r,q,z,d⟩
end
structure Cls (K:Fg) (C:Addr):Prop where
 pg:PySem.W.plainGet K C Str.empty=true
 hd:PySem.W.hasDictIn K C=true
 po:PySem.W.plainOver K C=true
 sa:PySem.W.findIn K (.ref C) "__setattr__" = some (some (.builtin "object.__setattr__"))
theorem Cls.get{K:Fg}{C:Addr}(c:Cls K C)(f:Str):PySem.W.plainGet K C f=true:=c.pg
section
variable{X:Cx}{pins:List (Addr×Obj)}{σ : St}{H:Hp}{s:Shared}{a C dx:Addr}{fs:List (Str×V)}{f:Str}{v:V}{A:Around}{E:Value→Shared→Prop}
end
section
variable{X:Cx}{o e value:Expr}{f:Str}{pos pos' tpos:Pos}{ta tv:TE}
end
section
variable{X:Cx}{pins:List (Addr×Obj)}{σ : St}{H:Hp}{s:Shared}{A:Around}{E:Value→Shared→Prop}{Q:Value→Shared→Prop}{c:Value}{b:Bool}
inductive TyOf (K:Fg) (H:Hp):V→Value→Prop where
 | non:TyOf K H .non (.type "NoneType")
 | bl (x:Bool):TyOf K H (.bl x) (.type "bool")
 | int (i:Int):TyOf K H (.int i) (.type "int")
 | str (x:Str):TyOf K H (.str x) (.type "str")
 | flt (x:UInt64):TyOf K H (.flt x) (.type "float")
 | lst {a:Addr} {xs:List V} (e:H a=some (.lst xs)):TyOf K H (.ref a) (.type "list")
 | frz {a:Addr} {o:Obj} {xs:List V} (e:H a=some (.frz o (.lst xs))):TyOf K H (.ref a) (.type "list")
 | tup {a:Addr} {xs:List V} (e:H a=some (.tup xs)):TyOf K H (.ref a) (.type "tuple")
 | dK {a:Addr} {kvs:List (Key×V)} (e:H a=some (.dK kvs)):TyOf K H (.ref a) (.type "dict")
 | dT {a:Addr} {kvs:List (List Key×V)} (e:H a=some (.dT kvs)):TyOf K H (.ref a) (.type "dict")
 | ins {a C dx:Addr} {fs:List (Str×V)} (e:H a=some (.ins C dx fs)) (cl:Cls K C) (ha:PySem.W.findIn K (.ref C) "__class__" = some (some (.builtin "object.__class__")))
   (hn:PySem.W.specialIn K (.builtin "object.__class__") "__get__" = some (some (.builtin "getset_descriptor.__get__"))) (htk:PySem.W.takesIn K (.builtin "object.__class__")=some true)
   (hm:PySem.W.mroIn K C (.type "object")=some true):TyOf K H (.ref a) (.ref C)
theorem isinst_ok{x:V}{u t:Value}(I:Inv X pins σ H s)(rx:RelV x u)(ty:TyOf X.K H x t)(e:PySem.W.kitOne X.K t c=some b)(h:∀tk,Q (.bool b) { s with toks:=tk }) :
  wpAny (model X.prog X.w) A (call (.builtin "isinstance") [u,c]) Q E s:=by
 cases ty with
 | non=>cases (show u=Value.none from rx);exact PySem.W.kia_one PySem.W.kitx_none I.kIn True.intro e (fun z=>nomatch z) h
 | bl y=>cases (show u=Value.bool y from rx);exact PySem.W.kia_one PySem.W.kitx_bool I.kIn True.intro e (fun z=>nomatch z) h
 | int i=>obtain ⟨t,q⟩:=(show ∃t,u=Value.int i t from rx);cases q;exact PySem.W.kia_one PySem.W.kitx_int I.kIn True.intro e (fun z=>nomatch z) h
 | str y=>obtain ⟨t,q⟩:=(show ∃t,u=Value.str y t from rx);cases q;exact PySem.W.kia_one PySem.W.kitx_str I.kIn True.intro e (fun z=>nomatch z) h
 | flt y=>obtain ⟨t,q⟩:=(show ∃t,u=Value.float y t from rx);cases q;exact PySem.W.kia_one PySem.W.kitx_float I.kIn True.intro e (fun z=>nomatch z) h
 | @lst a xs ea =>
  cases (show u=Value.ref a from rx);obtain ⟨_,_,n,_,h1⟩:=(show ObjOk X.prog X.w H s.heap a (.lst xs) from I.hok a _ ea)
  exact PySem.W.kia_one PySem.W.kitx_list I.kIn ⟨_,h1,rfl⟩ e (fun z=>nomatch z) h
 | @frz a ob xs ea =>
  cases (show u=Value.ref a from rx);obtain ⟨_,_,_,n,_,h1⟩:=(show ObjOk X.prog X.w H s.heap a (.frz ob (.lst xs)) from I.hok a _ ea)
  exact PySem.W.kia_one PySem.W.kitx_list I.kIn ⟨_,h1,rfl⟩ e (fun z=>nomatch z) h
 | @tup a xs ea =>
  cases (show u=Value.ref a from rx);obtain ⟨_,_,_,p⟩:=(show ObjOk X.prog X.w H s.heap a (.tup xs) from I.hok a _ ea)
  obtain ⟨o,h1,h2,_⟩:=p;exact PySem.W.kia_one PySem.W.kitx_tuple I.kIn ⟨o,h1,h2⟩ e (fun z=>nomatch z) h
 | @dK a kvs ea =>
  cases (show u=Value.ref a from rx);obtain ⟨_,_,vs,_,p⟩:=(show ObjOk X.prog X.w H s.heap a (.dK kvs) from I.hok a _ ea)
  obtain ⟨o,es,ep,h1,h2,_⟩:=p;exact PySem.W.kia_one PySem.W.kitx_dict I.kIn ⟨o,h1,h2.1⟩ e (fun z=>nomatch z) h
 | @dT a kvs ea =>
  cases (show u=Value.ref a from rx);obtain ⟨_,_,xs,_,o,es,ep,h1,h2,_⟩:=(show ObjOk X.prog X.w H s.heap a (.dT kvs) from I.hok a _ ea)
  exact PySem.W.kia_one PySem.W.kitx_dict I.kIn ⟨o,h1,h2.1⟩ e (fun z=>nomatch z) h
 | @ins a C dx fs ea cl ha hn htk hm =>
  cases (show u=Value.ref a from rx);obtain ⟨mA,O,_⟩:=ins_get I.hok ea;obtain ⟨od,J,_⟩:=O.look;exact PySem.W.kia_one (PySem.W.kitx_own (cl.get _) cl.hd ha hn htk hm) I.kIn J e (fun z=>nomatch z) h
end
structure Room (k:Nat) (A:Around):Prop where
 hd:A.handled=none
 dp:A.depth+3*k+5 < recursionLimit
 un:A.units+16*k+200 < cLine
theorem Room.mono{j k:Nat}{A:Around}(r:Room k A)(h:j≤k):Room j A:=⟨r.hd,by have:=r.dp;omega,by have:=r.un;omega⟩
theorem Room.deeper{k:Nat}{A:Around}(r:Room (k+1) A)(env:Env):Room k (A.deeper env) :=
 ⟨r.hd,by have:=r.dp;show A.depth+1+3*k+5 < _;omega,by have:=r.un;show A.units+3+16*k+200 < _;omega⟩
theorem Room.depth{k:Nat}{A:Around}(r:Room k A):A.depth < recursionLimit:=by have:=r.dp;omega
theorem Room.units{k:Nat}{A:Around}(r:Room k A):A.units+64 < cLine:=by have:=r.un;omega
def tNil:TA:=fun _ H Q=>Q [] H
def tCons(ta:TE)(tr:TA):TA:=fun σ H Q=>ta σ H fun x H1=>tr σ H1 fun xs H2=>Q (x :: xs) H2
section
variable{X:Cx}{e:Expr}{es:List Expr}{te:TE}{t:TA}{pos:Pos}
theorem pa_nil:PA X [] tNil:=fun _ _ _ _ H Q I h=>Calls.spliced_nil ⟨[],H,I,.nil,h⟩
theorem pa_cons(ha:PE X e te)(hr:PA X es t)(hs:starEach (e :: es) X.env=(false,eval e X.env) :: starEach es X.env:=by rfl):PA X (e :: es) (tCons te t):=by
 intro pos pins s σ H Q I h;rw [hs];show wpAny _ _ (spliced ((false,eval e X.env) :: backTo pos (starEach es X.env))) _ _ s;refine Calls.spliced_cons (thn (ha pins s σ H _ I h) fun u s1 ⟨x,H1,I1,r1,q1⟩=>?_);exact thn (hr pos pins s1 σ H1 _ I1 q1) fun us s2 ⟨xs,H2,I2,r2,q2⟩=>⟨x :: xs,H2,I2,.cons r1 r2,q2⟩
def tTup(t:TA):TE:=fun σ H Q=>t σ H fun xs H1=>xs.length≤sizeLine∧∀p,H1 p=none→Q (.ref p) (upd H1 p (.tup xs))
def tLst(t:TA):TE:=fun σ H Q=>t σ H fun xs H1=>xs.length≤sizeLine∧∀p,H1 p=none→Q (.ref p) (upd H1 p (.lst xs))
theorem pe_tup{x1}(h:PA X es t):PE X (.Tuple es x1 pos) (tTup t):=by
 intro pins s σ H Q I hq;refine wpAny_Tuple_spliced (thn (h pos pins s σ H _ I hq) fun us s1 ⟨xs,H1,I1,r,z,q⟩=>⟨by rw [← r.length];exact z,?_⟩);have hf:H1 s1.heap.objs.size=none:=I1.hok.fresh (Nat.le_refl _);refine ⟨.ref s1.heap.objs.size,upd H1 s1.heap.objs.size (.tup xs),I1.laid (t':=s1.toks) (fun b u e=>Heap.get?_push_of_some _ e) (Nat.le_refl _) ?_,rfl,q _ hf⟩;exact ⟨z,us,r,⟨_,Heap.get?_push_size _ rfl,rfl,_,rfl⟩⟩
theorem pe_lst(h:PA X es t):PE X (.List es pos) (tLst t):=by
 intro pins s σ H Q I hq;refine wpAny_List_spliced (thn (h pos pins s σ H _ I hq) fun us s1 ⟨xs,H1,I1,r,z,q⟩=>⟨by rw [← r.length];exact z,?_⟩);have hf:H1 s1.heap.objs.size=none:=I1.hok.fresh (Nat.le_refl _);refine ⟨.ref s1.heap.objs.size,upd H1 s1.heap.objs.size (.lst xs),I1.laid (t':=s1.toks) (fun b u e=>Heap.get?_push_of_some _ e) (Nat.le_refl _) ?_,rfl,q _ hf⟩;exact ⟨z,us,0,r,Heap.get?_push_size _ rfl⟩
end
abbrev Sp:=List V→Hp→VK→XK→Prop
abbrev CXT:=List Env→Hp→Shared→XK→Value→Shared→Prop
structure Env0 (P:Program) (w:World) (K:Fg) (mg:Str→Option Value) (base:Heap) (A:Around) (outer:List Env) (s:Shared) (H:Hp):Prop where
 frames:A.frames=some outer
 mod:Mod K mg base
 bs:∀b o,base.get? b=some o→s.heap.get? b=some o∧H b=none
 bsz:base.objs.size≤s.heap.objs.size
 funs:s.heap.FunFrames base outer
 frf:∀b∈frs outer,H b=none
 hok:HOk P w H s.heap
 bare:AllBare s.gens
def CE(outer:List Env)(P:Program)(w:World)(H:Hp)(s:Shared)(Q:VK)(u:Value)(s':Shared):Prop :=
 ∃v H',s'.os=s.os∧AllBare s'.gens∧Un (frs outer) [] H H' s.heap s'.heap∧HOk P w H' s'.heap∧RelV v u∧Q v H'
def CR(CX:CXT)(outer:List Env)(P:Program)(w:World)(H:Hp)(s:Shared)(Q:VK)(E:XK)(r:Result)(s':Shared):Prop :=
 match r with
 | .ok (.ret u)=>CE outer P w H s Q u s'
 | .ok _=>False
 | .error e=>CX outer H s E e s'
structure FnOk (P:Program) (w:World) (K:Fg) (mg:Str→Option Value) (base:Heap) (CX:CXT) (k:Nat) (f:Addr) (fd:FuncData) (ps:List Str) (sp:Sp):Prop where
 len:∀vs H Q E,sp vs H Q E→vs.length=ps.length
 run:∀(A:Around) (outer:List Env) (s:Shared) (H:Hp) (args:Args) (us:List Value) (vs:List V) (Q:VK) (E:XK),Room k A→Env0 P w K mg base A outer s H→BindsTo s fd args (ps.zip us)→Vals vs us→sp vs H Q E →
  codeAny (model P w) A (.call (.ref f) args) (CR CX outer P w H s Q E) s
theorem FnOk.mono{P:Program}{w:World}{K:Fg}{mg:Str→Option Value}{base:Heap}{CX:CXT}{j k:Nat}{f:Addr}{fd:FuncData}{ps:List Str}{sp:Sp}(F:FnOk P w K mg base CX j f fd ps sp)(h:j≤k) :
  FnOk P w K mg base CX k f fd ps sp:=⟨F.len,fun A outer s H args us vs Q E hr=>F.run A outer s H args us vs Q E (hr.mono h)⟩
section
variable{X:Cx}{pins:List (Addr×Obj)}{σ : St}{H:Hp}{s s':Shared}
theorem Inv.env0(I:Inv X pins σ H s):Env0 X.prog X.w X.K X.mg X.base X.A X.stack s H :=
 ⟨I.ok.frames,I.ok.mod,I.bs,Nat.le_trans I.ok.bsz I.sz,I.stack,I.stkFree,I.hok,I.bare⟩
theorem Inv.after{Q:VK}{u:Value}(I:Inv X pins σ H s)(h:CE X.stack X.prog X.w H s Q u s'):EP X pins σ Q u s':=by
 obtain ⟨v,H',os,bare,un,hok,r,q⟩:=h;obtain ⟨hh,g,d,t,os'⟩:=s';obtain rfl:os'=s.os:=os;exact ⟨v,H',I.call (h':=hh) (g':=g) (d':=d) (t':=t) (ch:=[]) un hok bare (fun b z=>absurd z (by simp)),r,q⟩
end
def tCall(sp:Sp)(dvs:List V)(E:XK)(t:TA):TE:=fun σ H Q=>t σ H fun vs H1=>sp (vs++dvs) H1 Q E
def Binds(K:Fg)(fd:FuncData)(ps:List Str)(ds:List Value):Prop :=
 ∀(s:Shared) (us:List Value),K.In s.heap→(us++ds).length=ps.length→BindsTo s fd ⟨us,[]⟩ (ps.zip (us++ds))
theorem Binds.all{K:Fg}{fd:FuncData}{ps:List Str}(h:∀us:List Value,us.length=ps.length→bindArgs fd ⟨us,[]⟩=pure (ps.zip us)):Binds K fd ps []:=fun s us _ hl=>by
 rw [List.append_nil] at hl ⊢;exact .of_eq (h us hl)
def Passes(CX:CXT)(X:Cx)(E:XK):Prop:=∀(pins:List (Addr×Obj)) (σ : St) (H:Hp) (s:Shared) (e:Value) (s':Shared),Inv X pins σ H s→CX X.stack H s E e s'→X.xe e s'
section
variable{X:Cx}{CX:CXT}{k:Nat}{f C:Addr}{fd:FuncData}{ps:List Str}{sp:Sp}{dvs:List V}{ds:List Value}{E:XK}{x m:Str}{p pos apos:Pos}{e o:Expr}{es:List Expr}{ta:TE}{t:TA}
theorem run_fn{pins:List (Addr×Obj)}{σ : St}{H:Hp}{s:Shared}{Q:VK}{us:List Value}{vs:List V}(F:FnOk X.prog X.w X.K X.mg X.base CX k f fd ps sp)(hr:Room k X.A)(hb:Binds X.K fd ps ds)(hd:Vals dvs ds)(hx:Passes CX X E)
  (I:Inv X pins σ H s) (r:Vals vs us) (h:sp (vs++dvs) H Q E):wpAny (model X.prog X.w) X.A (call (.ref f) us) (EP X pins σ Q) X.xe s:=by
 have r2:Vals (vs++dvs) (us++ds):=r.append hd;have hl:(us++ds).length=ps.length:=by rw [← r2.length];exact F.len _ _ _ _ h
 refine wpAny_call (codeAny_mono (F.run X.A X.stack s H ⟨us,[]⟩ (us++ds) (vs++dvs) Q E hr I.env0 (hb s us I.kIn hl) r2 h) fun r s' hq=>?_);cases r with
 | error e=>exact hx pins σ H s e s' I hq
 | ok fl =>
  cases fl with
  | ret u=>exact I.after hq
  | next=>exact False.elim hq
  | brk=>exact False.elim hq
  | cont=>exact False.elim hq
theorem pe_call(F:FnOk X.prog X.w X.K X.mg X.base CX k f fd ps sp)(hr:Room k X.A)(hg:Gl X x)(hm:X.mg x=some (.ref f))(hk:PySem.W.keepIn X.K (.ref f)=true)(hb:Binds X.K fd ps ds)(hd:Vals dvs ds)(hx:Passes CX X E)
  (ha:PA X (e :: es) t) (hdb:(x == ("__debug__" : Str))=false:=by decide) (he:starEach (e :: es) X.env=(false,eval e X.env) :: starEach es X.env:=by rfl) (hpl:(backTo pos (starEach es X.env)).any (·.1)=false:=by rfl) :
  PE X (.Call (.Name x p) (e :: es) [] pos) (tCall sp dvs E t):=by
 intro pins s σ H Q I h;refine wpAny_Call_Name_kw (ld_glob I hg hm ?_ hdb);refine PySem.W.callWith_K (h₀:=X.base) I.ok.mod.kin hk (thn (ha pos pins s σ H _ I h) fun us s1 ⟨vs,H1,I1,r,q⟩=>⟨I1.kIn,?_⟩) he hpl;exact run_fn F hr hb hd hx I1 r q
end
section
variable{X:Cx}{CX:CXT}{k:Nat}{f C:Addr}{fd:FuncData}{ps ks:List Str}{sp:Sp}{E:XK}{x m:Str}{p pos apos kpos:Pos}{e o:Expr}{es:List Expr}{kws:List Keyword}{te ta:TE}{t tk:TA}{nm:Option Str}
variable{g:List Value→List Value→List Value}{gV:List V→List V→List V}
end
structure FnScope (N P:List Str) (sc:Scope):Prop where
 kind:sc.kind = .function
 co:sc.isCoroutine=false
 gen:sc.isGenerator=false
 nd:N.Nodup
 pre:N.take P.length=P
 par:∀x∈P,sc.names.lookup x=some .local∨sc.names.lookup x=some .cell
 nofree:∀y∈sc.names,y.2≠.free
theorem bindL_out{kindOf:Str→Option NameKind}{x:Str}:∀{binds:List (Str×Value)} {m:Str→Option Value},(∀v,(x,v)∉binds)→bindL kindOf binds m x=m x
 | [],_,_=>rfl
 | (n,v) :: r,m,h=>by
  unfold bindL;rw [bindL_out fun w hw=>h w (List.mem_cons_of_mem _ hw)];split
  ·have:x≠n:=by rintro rfl;exact h v List.mem_cons_self
   simp [this]
  ·rfl
theorem bindC_out{kindOf:Str→Option NameKind}{x:Str}:∀{binds:List (Str×Value)} {m:Str→Option Value},(∀v,(x,v)∉binds)→bindC kindOf binds m x=m x
 | [],_,_=>rfl
 | (n,v) :: r,m,h=>by
  unfold bindC;rw [bindC_out fun w hw=>h w (List.mem_cons_of_mem _ hw)];split
  ·rfl
  ·have:x≠n:=by rintro rfl;exact h v List.mem_cons_self
   simp [this]
theorem bindL_get{kindOf:Str→Option NameKind}{x:Str}{v:Value}:∀{P:List Str} {vs:List Value} {i:Nat} {m:Str→Option Value},P.Nodup→P[i]? = some x→vs[i]? = some v→kindOf x=some .local →
  bindL kindOf (P.zip vs) m x=some v
 | [],_,_,_,_,h,_,_=>by simp at h
 | _ :: _,[],_,_,_,_,h,_=>by simp at h
 | p :: P,w :: vs,0,m,nd,h1,h2,hk=>by
  simp at h1 h2;subst h1;subst h2;show bindL kindOf ((p,w) :: P.zip vs) m p=_;unfold bindL;rw [bindL_out fun v hv=>(List.nodup_cons.mp nd).1 (List.of_mem_zip hv).1,if_pos hk];simp
 | p :: P,w :: vs,i+1,m,nd,h1,h2,hk=>by
  show bindL kindOf ((p,w) :: P.zip vs) m x=_;unfold bindL;exact bindL_get (i:=i) (List.nodup_cons.mp nd).2 (by simpa using h1) (by simpa using h2) hk
theorem bindC_get{kindOf:Str→Option NameKind}{x:Str}{v:Value}:∀{P:List Str} {vs:List Value} {i:Nat} {m:Str→Option Value},P.Nodup→P[i]? = some x→vs[i]? = some v→kindOf x≠some .local →
  bindC kindOf (P.zip vs) m x=some v
 | [],_,_,_,_,h,_,_=>by simp at h
 | _ :: _,[],_,_,_,_,h,_=>by simp at h
 | p :: P,w :: vs,0,m,nd,h1,h2,hk=>by
  simp at h1 h2;subst h1;subst h2;show bindC kindOf ((p,w) :: P.zip vs) m p=_;unfold bindC;rw [bindC_out fun v hv=>(List.nodup_cons.mp nd).1 (List.of_mem_zip hv).1,if_neg hk];simp
 | p :: P,w :: vs,i+1,m,nd,h1,h2,hk=>by
  show bindC kindOf ((p,w) :: P.zip vs) m x=_;unfold bindC;exact bindC_get (i:=i) (List.nodup_cons.mp nd).2 (by simpa using h1) (by simpa using h2) hk
def start(N:List Str)(vs:List V):St:=vs.map some++List.replicate (N.length - vs.length) none
def cxOf(CX:CXT)(P:Program)(w:World)(K:Fg)(mg:Str→Option Value)(base:Heap)(N:List Str)(qual:Str)(scope:Scope)(f:Addr)(cd:Value)(A:Around)(outer:List Env)(s:Shared)(H:Hp)(E:XK):Cx where
 prog:=P
 w:=w
 K:=K
 mg:=mg
 base:=base
 A:=A.deeper (envOfC qual scope s.heap.objs.size f cd)
 N:=N
 s₀:=s
 H₀:=H
 env:=envOfC qual scope s.heap.objs.size f cd
 outer:=outer
 stack:=envOfC qual scope s.heap.objs.size f cd :: outer
 ex:=[]
 calm:=true
 fn:=fun _=>true
 pn:=[]
 xe:=fun e s'=>wpAny (model P w) (A.deeper (envOfC qual scope s.heap.objs.size f cd)) (leaving (envOfC qual scope s.heap.objs.size f cd) e) (fun _ s''=>CX outer H s E e s'') (fun e' s''=>CX outer H s E e' s'') s'
theorem cell_has{sc:Scope}{n:Nat}{x:Str}(h:sc.names.lookup x=some .cell):∃c,(cellsFrom n sc.names []).lookup x=some c:=by
 have q:=PySem.W.cellsFrom_some sc.names n [] (.inl h);exact Option.isSome_iff_exists.mp q
theorem inv_start{CX:CXT}{P:Program}{w:World}{K:Fg}{mg:Str→Option Value}{base:Heap}{N ps:List Str}{qual:Str}{scope:Scope}{f:Addr}{cd:Value}{A:Around}{outer:List Env}{s s1:Shared}{H:Hp}{E:XK}{us:List Value}{vs:List V}
  (S:FnScope N ps scope) (hd:A.handled=none) (e0:Env0 P w K mg base A outer s H) (hl:vs.length=ps.length) (r:Vals vs us)
  (x:InCallC s s.heap.objs.size (bindL (envOfC qual scope s.heap.objs.size f cd).kindOf (ps.zip us) fun _=>none) (cellsFrom (s.heap.objs.size+1) scope.names []) (bindC (envOfC qual scope s.heap.objs.size f cd).kindOf (ps.zip us) fun _=>none) s1) :
  Inv (cxOf CX P w K mg base N qual scope f cd A outer s H E) [] (start N vs) H s1:=by
 have hpl:ps.length≤N.length:=by have:=congrArg List.length S.pre;rw [List.length_take] at this;omega
 obtain ⟨h1,tk,rfl,hk⟩:=x.done;have noA:∀b:Addr,b∉(cxOf CX P w K mg base N qual scope f cd A outer s H E).ex:=fun b z=>absurd (show b∈([]:List Addr) from z) (by simp)
 refine ⟨⟨e0.mod,S.kind,rfl,rfl,Nat.le_refl _,fun y z c h1 h2=>?_,fun y hy=>?_,fun y c _ h=>?_,fun _=>hd,Around.frames_deeper e0.frames,.inr ⟨rfl,rfl⟩,fun b z=>absurd z (noA b),e0.bs,e0.bsz,fun b _ _=>noA b,fun b z=>absurd z (noA b),e0.funs,e0.frf⟩,
  rfl,e0.bare,Un.kept hk,⟨_,x.toInCall.ns,fun i y v h1 h2 h3=>?_⟩,fun y c h=>⟨_,x.cell y c h⟩,e0.hok.fresh (Nat.le_refl _),fun y c h=>?_,fun p hp=>absurd (show p∈([]:List (Addr×Obj)) from hp) (by simp),e0.hok.kept hk,?_⟩
 ·exact name_of_addr x.apart (PySem.mem_of_lookup h1) (PySem.mem_of_lookup h2)
 ·have hy:scope.names.lookup y=some .cell∨scope.names.lookup y=some .free:=hy;rcases hy with hy | hy
  ·exact cell_has hy
  ·exact absurd rfl (S.nofree _ (PySem.mem_of_lookup hy))
 ·exact Nat.le_of_lt (x.above y c (PySem.mem_of_lookup h))
 ·have hi:i < vs.length:=by
   unfold start at h2;by_cases hi:i < vs.length
   ·exact hi
   ·rw [List.getElem?_append_right (by simpa using hi)] at h2;rw [List.getElem?_replicate] at h2;split at h2 <;> cases h2
  have ha:vs[i]? = some v:=by
   unfold start at h2;rw [List.getElem?_append_left (by simpa using hi),List.getElem?_map] at h2;cases e:vs[i]? with
   | none=>rw [e] at h2;cases h2
   | some a=>rw [e] at h2;cases h2;rfl
  obtain ⟨u,hu,rv⟩:=r.get ha
  have hp:ps[i]? = some y:=by
   rw [← S.pre,List.getElem?_take_of_lt (by omega)];exact h1
  have ndP:ps.Nodup:=by rw [← S.pre];exact S.nd.sublist (List.take_sublist _ _)
  refine ⟨u,rv,?_⟩;rcases S.par y (List.mem_of_getElem? hp) with k | k
  ·exact .inl ⟨k,bindL_get ndP hp hu k⟩
  ·obtain ⟨c,e⟩:=cell_has (n:=s.heap.objs.size+1) k;refine .inr ⟨.inl k,c,e,?_⟩;have q:=x.cell y c e;rw [bindC_get ndP hp hu (by show scope.names.lookup y≠_;rw [k];decide)] at q;exact q
 ·exact e0.hok.fresh (Nat.le_of_lt (x.above y c (PySem.mem_of_lookup h)))
 ·unfold start;show _=N.length;rw [List.length_append,List.length_map,List.length_replicate];omega
theorem fn_of{CX:CXT}{P:Program}{w:World}{K:Fg}{mg:Str→Option Value}{base:Heap}{k:Nat}{f:Addr}{name qual:Str}{params:Arguments}{body:List Stmt}{scope:Scope}{dV kV doc pm cdv ct oc:Value}{an od:Option Addr}
  {osl:Array (Option Value)} {N ps:List Str} {sp:Sp} (lk:K.lookup f=some ⟨oc,od,.func (PySem.W.fnOf name qual params body scope dV kV doc pm an cdv ct),osl⟩) (hcd:PySem.W.codeIn K cdv qual=true) (S:FnScope N ps scope)
  (len:∀vs H Q E,sp vs H Q E→vs.length=ps.length)
  (hbody:∀(A:Around) (outer:List Env) (s:Shared) (H:Hp) (vs:List V) (Q:VK) (E:XK),Room k (A.deeper (envOfC qual scope s.heap.objs.size f cdv))→sp vs H Q E →
   ∃t,PSs (cxOf CX P w K mg base N qual scope f cdv A outer s H E) body t∧t { nx:=fun _ H'=>Q .non H',rt:=Q } (start N vs) H) :
  FnOk P w K mg base CX (k+1) f (PySem.W.fnOf name qual params body scope dV kV doc pm an cdv ct) ps sp:=by
 refine ⟨len,fun A outer s H args us vs Q E hr e0 hb r hsp=>?_⟩;have hl:=len _ _ _ _ hsp;have KX:K.In s.heap:=e0.mod.kin.keeps fun b o e=>(e0.bs b o e).1
 have lim:s.heap.NoLimit:=e0.mod.nolimit.keeps fun b o e=>(e0.bs b o e).1
 have hkind:∀y∈ps.zip us,scope.names.lookup y.1=some .local∨(scope.names.lookup y.1=some .cell∧((cellsFrom (s.heap.objs.size+1) scope.names []).lookup y.1).isSome=true):=fun ⟨n,v⟩ hy=>by
  rcases S.par n (List.of_mem_zip hy).1 with q | q
  ·exact .inl q
  ·exact .inr ⟨q,PySem.W.cellsFrom_some _ _ _ (.inl q)⟩
 refine codeAny_call_function hr.depth (KX _ _ lk) rfl S.co S.gen rfl (PySem.W.codeRec_of KX hcd) (hb _ _ _ _ ?_);refine wpAny_newFunctionEnv_cells S.kind hkind fun env he s1 x=>?_
 subst he;refine ⟨lim.keeps x.toInCall.keep,codeAny_func ?_⟩;obtain ⟨t,ht,hq⟩:=hbody A outer s H vs Q E (hr.deeper _) hsp;have I:Inv (cxOf CX P w K mg base N qual scope f cdv A outer s H E) [] (start N vs) H s1:=inv_start S hr.hd e0 hl r x;refine wpAny_mono (ht [] s1 (start N vs) H _ I hq) (fun fl s' hs=>?_) fun e s' hs=>hs
 have fin:∀{σ':St} {H':Hp} {v:V} {u:Value},Inv (cxOf CX P w K mg base N qual scope f cdv A outer s H E) [] σ' H' s'→RelV v u→Q v H'→CE outer P w H s Q u s' :=
  fun {σ' H' v u} J rv q=>⟨v,H',J.os,J.bare,J.base,J.hok,rv,q⟩
 cases fl with
 | ret u =>
  obtain ⟨v,σ',H',J,rv,q⟩:=hs;exact fin J rv q
 | next =>
  obtain ⟨σ',H',J,q⟩:=hs;exact fin (v:=V.non) (u:=Value.none) J rfl q
 | brk =>
  obtain ⟨_,_,_,q⟩:=hs;exact False.elim q
 | cont =>
  obtain ⟨_,_,_,q⟩:=hs;exact False.elim q
section
variable{X:Cx}{x:Str}{p pos:Pos}{e:Expr}{es:List Expr}{t:TA}{id T:String}{r:List V→Hp→VK→Prop}
def tCB(r:List V→Hp→VK→Prop)(t:TA):TE:=fun σ H Q=>t σ H fun vs H1=>r vs H1 Q
theorem pe_callB (hc:CallR X (.builtin id) r) (hg:Gl X x) (hm:X.mg x=none) (hv:bootBuiltins x=some (.builtin id)) (ha:PA X (e :: es) t) (hn:x≠"__name__":=by decide) (hdb:(x == ("__debug__" : Str))=false:=by decide)
  (he:starEach (e :: es) X.env=(false,eval e X.env) :: starEach es X.env:=by rfl) (hpl:(backTo pos (starEach es X.env)).any (·.1)=false:=by rfl):PE X (.Call (.Name x p) (e :: es) [] pos) (tCB r t):=by
 intro pins s σ H Q I h;refine wpAny_Call_Name_kw (ld_blt I hg hm hv ?_ hn hdb);exact PyProof.Rows.callWith_builtin1 (thn (ha pos pins s σ H _ I h) fun us s1 ⟨vs,H1,I1,r1,q1⟩=>hc pins s1 σ H1 vs us Q I1 r1 q1) he hpl
theorem pe_callTy (hc:CallR X (.type T) r) (hg:Gl X x) (hm:X.mg x=none) (hv:bootBuiltins x=some (.type T)) (ha:PA X (e :: es) t) (hn:x≠"__name__":=by decide) (hdb:(x == ("__debug__" : Str))=false:=by decide)
  (he:starEach (e :: es) X.env=(false,eval e X.env) :: starEach es X.env:=by rfl) (hpl:(backTo pos (starEach es X.env)).any (·.1)=false:=by rfl):PE X (.Call (.Name x p) (e :: es) [] pos) (tCB r t):=by
 intro pins s σ H Q I h;refine wpAny_Call_Name_kw (ld_blt I hg hm hv ?_ hn hdb);exact PyProof.Rows.callWith_type1 (thn (ha pos pins s σ H _ I h) fun us s1 ⟨vs,H1,I1,r1,q1⟩=>hc pins s1 σ H1 vs us Q I1 r1 q1) he hpl
end
end L2
namespace HT
open PySem PyProof.Rows
section
open PySem.SeqAt
open PySem.AutoSeq1 (wpAny_loadPart')
open PySem.MeetsSeq PySem.MeetsSeq2 PySem.MeetsSeq3
end
section
variable{prog:Program}{w:World}{A:Around}{E:Value→Shared→Prop}{s:Shared}
def sIx(n d:Nat):Option Int→Nat
 | none=>d
 | some v=>if v < 0 then (v+(n:Int)).toNat else min v.toNat n
end
end HT
namespace L2
open PySem PySem.Spec PyProof.Rows
abbrev TO:=St→Hp→(Option Int→Hp→Prop)→Prop
def PO(X:Cx)(e:Option Expr)(t:TO):Prop :=
 ∀(pins:List (Addr×Obj)) (s:Shared) (σ : St) (H:Hp) (Q:Option Int→Hp→Prop),Inv X pins σ H s→t σ H Q →
  wpAny (model X.prog X.w) X.A (evalPart e X.env) (fun u s'=>∃o H',Inv X pins σ H' s'∧IsPart u o∧Q o H') X.xe s
def tNoPart:TO:=fun _ H Q=>Q none H
def tPart(t:TE):TO:=fun σ H Q=>t σ H fun x H1=>∃i,x = .int i∧Q (some i) H1
theorem intsAre_of{ns:List Int}:∀{us:List Value},Vals (ns.map V.int) us→IntsAre us ns:=by
 induction ns with
 | nil=>intro us r;rw [List.map_nil] at r;cases r;exact .nil
 | cons n ns ih =>
  intro us r;rw [List.map_cons] at r;cases r with
  | cons r1 r2 =>
   obtain ⟨t,e⟩:=r1;subst e;exact .cons n t (ih r2)
section
variable{X:Cx}{e:Expr}{te:TE}{lo hi:Option Expr}{tl th:TO}{pos p2:Pos}
theorem po_none:PO X none tNoPart:=by
 intro pins s σ H Q I h;rw [evalPart_none];exact wpAny_pure ⟨none,H,I,.none,h⟩
theorem po_some(h:PE X e te):PO X (some e) (tPart te):=by
 intro pins s σ H Q I hw;rw [evalPart_some];refine thn (h pins s σ H _ I hw) fun u s1 ⟨x,H1,I1,r1,q1⟩=>?_
 obtain ⟨i,rfl,q⟩:=q1;obtain ⟨t,rfl⟩:=r1;exact ⟨some i,H1,I1,.int i t,q⟩
def SlR(X:Cx)(r:V→Option Int→Option Int→Hp→VK→Prop):Prop :=
 ∀(pins:List (Addr×Obj)) (s:Shared) (σ : St) (H:Hp) (x:V) (v vl vu:Value) (lo hi:Option Int) (sl:Addr) (Q:VK),Inv X pins σ H s→RelV x v→s.heap.IsSliceOf sl vl vu .none→IsPart vl lo→IsPart vu hi→r x lo hi H Q →
  ∃T id,typeLookup (.type T) "__getitem__" = pure (some (.builtin id))∧s.TypeIs v T∧wpAny (model X.prog X.w) X.A (getItem v (.ref sl)) (EP X pins σ Q) X.xe s
def tSl(r:V→Option Int→Option Int→Hp→VK→Prop)(te:TE)(tl th:TO):TE:=fun σ H Q=>te σ H fun x H1=>tl σ H1 fun l H2=>th σ H2 fun u H3=>r x l u H3 Q
theorem pe_slice{r:V→Option Int→Option Int→Hp→VK→Prop}(hr:SlR X r)(he:PE X e te)(hl:PO X lo tl)(hu:PO X hi th):PE X (.Subscript e (.Slice lo hi none p2) pos) (tSl r te tl th):=by
 intro pins s σ H Q I h;refine Subscript_ (thn (he pins s σ H _ I h) fun v s1 ⟨x,H1,I1,r1,q1⟩=>?_);refine wpAny_Slice (thn (hl pins s1 σ H1 _ I1 q1) fun vl s2 ⟨l,H2,I2,pl,q2⟩=>thn (hu pins s2 σ H2 _ I2 q2) fun vu s3 ⟨u,H3,I3,pu,q3⟩=>?_);rw [evalPart_none];refine wpAny_pure ?_;have I4:Inv X pins σ H3 { s3 with heap:=s3.heap.push { cls:=.type "slice",data:=.fields #[vl,vu,.none] } }:=I3.kept (t':=s3.toks) fun b ob q=>Heap.get?_push_of_some _ q
 obtain ⟨T,id,hT,ht,hg⟩:=hr pins { s3 with heap:=s3.heap.push { cls:=.type "slice",data:=.fields #[vl,vu,.none] } } σ H3 x v vl vu l u s3.heap.objs.size Q I4 r1 (Heap.IsSliceOf.new ..) pl pu q3;show wpAny (model X.prog X.w) X.A (subscriptTail e (.Slice lo hi none p2) v (.ref s3.heap.objs.size)) (EP X pins σ Q) X.xe { s3 with heap:=s3.heap.push { cls:=.type "slice",data:=.fields #[vl,vu,.none] } };exact tail_any (ops:=[.ref s3.heap.objs.size,v]) ht hT hg (by with_unfolding_all rfl)
def cutV(xs:List V)(lo hi:Option Int):List V:=(xs.drop (HT.sIx xs.length 0 lo)).take (HT.sIx xs.length xs.length hi - HT.sIx xs.length 0 lo)
theorem cutV_length(xs:List V)(lo hi:Option Int):(cutV xs lo hi).length≤xs.length:=by
 unfold cutV;rw [List.length_take,List.length_drop];omega
end
def ixN(n:Nat)(i:Int):Option Nat:=if 0≤i then (if i < n then some i.toNat else none) else if -(n:Int)≤i then some (i+n).toNat else none
def atI{α : Type}(xs:List α)(i:Int):Option α:=(ixN xs.length i).bind fun j=>xs[j]?
theorem ixN_seq{n:Nat}{i:Int}{j:Nat}(h:ixN n i=some j):seqIndex? i n=some j∧j < n∧-(n:Int)≤i∧i < n:=by
 unfold ixN at h;by_cases h0:0≤i
 ·rw [if_pos h0] at h;by_cases h1:i < n
  ·rw [if_pos h1] at h;have e:i.toNat=j:=Option.some.inj h;exact ⟨by rw [seqIndex_of h0 h1,e],by omega,by omega,h1⟩
  ·rw [if_neg h1] at h;cases h
 ·rw [if_neg h0] at h;by_cases h1 : -(n:Int)≤i
  ·rw [if_pos h1] at h;have e:(i+n).toNat=j:=Option.some.inj h;exact ⟨by rw [seqIndex_neg (by omega) h1,e],by omega,h1,by omega⟩
  ·rw [if_neg h1] at h;cases h
theorem atI_get{α : Type}{xs:List α}{i:Int}{v : α}(h:atI xs i=some v):∃j,seqIndex? i xs.length=some j∧xs[j]? = some v∧j < xs.length∧-(xs.length:Int)≤i∧i < xs.length:=by
 unfold atI at h;cases e:ixN xs.length i with
 | none=>rw [e] at h;cases h
 | some j =>
  rw [e] at h;obtain ⟨h1,h2,h3,h4⟩:=ixN_seq e;exact ⟨j,h1,h,h2,h3,h4⟩
theorem atI_nat{α : Type}{xs:List α}{j:Nat}{v : α}(h:xs[j]? = some v):atI xs (j:Int)=some v:=by
 have hj:j < xs.length:=(List.getElem?_eq_some_iff.mp h).1
 have e:ixN xs.length (j:Int)=some j:=by
  unfold ixN;rw [if_pos (by omega),if_pos (by omega)];simp
 unfold atI;rw [e];exact h
def PlainIx(b:Expr):Prop:=∀o i,subscripted b false o i=operate [o,i] (getItem o i)
def IxR(X:Cx)(r:R2):Prop :=
 ∀(value slice:Expr) (pins:List (Addr×Obj)) (s:Shared) (σ : St) (H:Hp) (x y:V) (v u:Value) (Q:VK),Inv X pins σ H s→RelV x v→RelV y u→r x y H Q →
  subscripted slice false v u=operate [v,u] (getItem v u)→wpAny (model X.prog X.w) X.A (subscriptTail value slice v u) (EP X pins σ Q) X.xe s
def MtR(X:Cx)(id:String)(r:V→List V→Hp→VK→Prop):Prop :=
 ∀(pins:List (Addr×Obj)) (s:Shared) (σ : St) (H:Hp) (x:V) (xs:List V) (v:Value) (us:List Value) (Q:VK),Inv X pins σ H s→RelV x v→Vals xs us→r x xs H Q →
  wpAny (model X.prog X.w) X.A (call (.builtin id) (v :: us)) (EP X pins σ Q) X.xe s
section
variable{X:Cx}{a b:Expr}{ta tb:TE}{pos:Pos}
theorem pe_ix{r:R2}(hr:IxR X r)(ha:PE X a ta)(hb:PE X b tb)(hs:PlainIx b):PE X (.Subscript a b pos) (tOp r ta tb):=by
 intro pins s σ H Q I h;exact Subscript_ (binT ha hb I h fun v u s2 x y H2 I2 rx ry q=>hr a b pins s2 σ H2 x y v u Q I2 rx ry q (hs _ _))
def rIxL(K:Fg):R2:=fun x y H Q=>∃p xs i v,x = .ref p∧y = .int i∧SqL K H p xs∧atI xs i=some v∧Q v H
def rIxT(K:Fg):R2:=fun x y H Q=>∃p xs i v,x = .ref p∧y = .int i∧SqT K H p xs∧atI xs i=some v∧Q v H
def rIxS:R2:=fun x y H Q=>∃z i c,x = .str z∧y = .int i∧z.length≤sizeLine∧atI z.cps.toList i=some c∧Q (.str ⟨#[c]⟩) H
theorem ix_list:IxR X (rIxL X.K):=by
 intro value slice pins s σ H x y v u Q I rx ry h hs;obtain ⟨p,xs,i,z,rfl,rfl,hq,he,q⟩:=h;cases rx;obtain ⟨t,rfl⟩:=ry;obtain ⟨its,r,pl,hz⟩:=I.list hq;obtain ⟨j,h1,h2,h3,h4,h5⟩:=atI_get he;obtain ⟨w,ew,rw'⟩:=r.get h2;have hl:=r.length;have hn:=line63;have fin:EP X pins σ Q w s:=⟨z,H,I,rw',q⟩
 by_cases h0:0≤i
 ·have hj:i.toNat=j:=by
   rw [seqIndex_of h0 h5] at h1;exact Option.some.inj h1
  exact item_listR pl.isList h0 (by omega) (by rw [hj];simpa using ew) fin hs
 ·have hj:(i+(its.toArray.size:Int)).toNat=j:=by
   rw [seqIndex_neg (by omega) h4] at h1;rw [List.size_toArray,← hl];exact Option.some.inj h1
  exact subscriptTail_builtinR (x:=w) pl.isList.typeIs slot_list_getitem.lookup
   (wpAny_getItem_list_neg (Q:=fun r s'=>r=w∧EP X pins σ Q r s') pl.isList (by omega) (by rw [List.size_toArray] <;> omega) (by omega) (by rw [hj];simpa using ew) ⟨rfl,fin⟩) hs
theorem ix_tup:IxR X (rIxT X.K):=by
 intro value slice pins s σ H x y v u Q I rx ry h hs;obtain ⟨p,xs,i,z,rfl,rfl,hq,he,q⟩:=h;cases rx;obtain ⟨t,rfl⟩:=ry;obtain ⟨its,r,pl,hz⟩:=I.tuple hq;obtain ⟨j,h1,h2,h3,h4,h5⟩:=atI_get he;obtain ⟨w,ew,rw'⟩:=r.get h2;have hl:=r.length;have hn:=line63;have fin:EP X pins σ Q w s:=⟨z,H,I,rw',q⟩
 exact subscriptTail_builtinR (x:=w) pl.typeIs slot_tuple_getitem.lookup
  (getItem_tuple (j:=j) (Q:=fun r s'=>r=w∧EP X pins σ Q r s') pl (by omega) (by omega) (by rw [List.size_toArray,← hl];exact h1) (by simpa using ew) ⟨rfl,fin⟩) hs
theorem ix_str:IxR X rIxS:=by
 intro value slice pins s σ H x y v u Q I rx ry h hs;obtain ⟨z,i,c,rfl,rfl,hz,he,q⟩:=h;obtain ⟨t,rfl⟩:=rx;obtain ⟨t',rfl⟩:=ry;obtain ⟨j,h1,h2,h3,h4,h5⟩:=atI_get he;have hl:z.cps.toList.length=z.length:=by simp [Str.length]
 rw [hl] at h1 h4 h5;have hn:=line63
 exact tail_any (typeIs_str s z t) slot_str_getitem.lookup (getItem_str (c:=c) (by
  have e1:decide (i < -(2 ^ 63:Int))=false:=decide_eq_false (by omega)
  have e2:decide (i≥2 ^ 63)=false:=decide_eq_false (by omega)
  rw [e1,e2,Bool.or_false]) (by rw [h1];simpa using h2) ⟨.str ⟨#[c]⟩,H,I.tok _,⟨_,rfl⟩,q⟩) hs
theorem slice_bounds(lo hi:Option Int)(n:Nat):(sliceBounds lo hi none n).1=((HT.sIx n 0 lo:Nat):Int)∧(sliceBounds lo hi none n).2.1=((HT.sIx n n hi:Nat):Int)∧(sliceBounds lo hi none n).2.2=1:=by
 refine ⟨?_,?_,rfl⟩
 ·cases lo with
  | none=>simp [sliceBounds,HT.sIx]
  | some i =>
   simp only [sliceBounds,HT.sIx,Option.getD_none,show (1:Int) > 0 by decide,if_true];by_cases h:i < 0
   ·simp only [h,if_true] <;> omega
   ·simp only [h,if_false] <;> omega
 ·cases hi with
  | none=>simp [sliceBounds,HT.sIx]
  | some i =>
   simp only [sliceBounds,HT.sIx,Option.getD_none,show (1:Int) > 0 by decide,if_true];by_cases h:i < 0
   ·simp only [h,if_true] <;> omega
   ·simp only [h,if_false] <;> omega
theorem slicePick_cut(its:List Value)(lo hi:Option Int):slicePick its.toArray lo hi none=((its.drop (HT.sIx its.length 0 lo)).take (HT.sIx its.length its.length hi - HT.sIx its.length 0 lo)).toArray:=by
 obtain ⟨h1,h2,h3⟩:=slice_bounds lo hi its.toArray.size;unfold slicePick;rw [h1,h2,h3];simp only [sliceRange_one,pick_run,List.size_toArray] <;> rfl
def rSlL(K:Fg):V→Option Int→Option Int→Hp→VK→Prop:=fun x lo hi H Q=>∃a xs,x = .ref a∧SqL K H a xs∧∀p,H p=none→Q (.ref p) (upd H p (.lst (cutV xs lo hi)))
theorem sl_list:SlR X (rSlL X.K):=by
 intro pins s σ H x v vl vu lo hi sl Q I rx hs pl pu h;obtain ⟨a,xs,rfl,hx,q⟩:=h;cases rx;obtain ⟨its,r,ht,hz⟩:=I.list hx;have hlen:=r.length;refine ⟨"list",_,slot_list_getitem.lookup,ht.isList.typeIs,?_⟩;refine wpAny_getItem_list_slice ht.isList hs pl pu .none (by simp) ?_ (by rw [List.size_toArray] <;> omega);rw [slicePick_cut,← hlen];refine ⟨.ref s.heap.objs.size,_,I.laid (t':=s.toks) (o:=.lst (cutV xs lo hi)) (fun b ob q=>Heap.get?_push_of_some _ q) (Nat.le_refl _) ?_,rfl,q _ (I.hok.fresh (Nat.le_refl _))⟩;exact ⟨Nat.le_trans (cutV_length xs lo hi) hz,_,0,(r.drop (HT.sIx xs.length 0 lo)).take (HT.sIx xs.length xs.length hi - HT.sIx xs.length 0 lo),Heap.get?_push_size _ rfl⟩
theorem call_len_seq:CallR X (.builtin "len") (fun xs H Q=>∃p ys,xs=[.ref p]∧(SqL X.K H p ys∨SqT X.K H p ys)∧Q (.int ys.length) H):=by
 intro pins s σ H xs us Q I r h;obtain ⟨p,ys,rfl,hq,q⟩:=h;obtain ⟨u,rfl,rx⟩:=vals1 r;cases rx;have hn:=line63;rcases hq with hq | hq
 ·obtain ⟨its,r',pl,hz⟩:=I.list hq;have hlen:=r'.length;exact Calls.call_len_list pl.isList (by simp only [List.size_toArray] <;> omega) ⟨.int ys.length,H,I.tok _,⟨s.toks+1,by rw [List.size_toArray,hlen]⟩,q⟩
 ·obtain ⟨its,r',pl,hz⟩:=I.tuple hq;have hlen:=r'.length;exact len_tuple pl (by simp only [List.size_toArray] <;> omega) ⟨.int ys.length,H,I.tok _,⟨s.toks+1,by rw [List.size_toArray,hlen]⟩,q⟩
theorem call_list_of:CallR X (.type "list") (fun xs H Q=>∃p ys,xs=[.ref p]∧(SqL X.K H p ys∨SqT X.K H p ys)∧∀l,H l=none→Q (.ref l) (upd H l (.lst ys))):=by
 intro pins s σ H xs us Q I r h;obtain ⟨p,ys,rfl,hq,q⟩:=h;obtain ⟨u,rfl,rx⟩:=vals1 r;cases rx
 have fin:∀(its:List Value),Vals ys its→ys.length≤sizeLine→∀(h':Heap) (c':Nat),(∀b o',s.heap.get? b=some o'→h'.get? b=some o') →
   h'.get? s.heap.objs.size=some { cls:=.type "list",dict:=none,data:=.seq its.toArray c',slots:=#[] }→EP X pins σ Q (.ref s.heap.objs.size) { s with heap:=h' }:=fun its r' hz h' c' kp e =>
  ⟨.ref s.heap.objs.size,_,I.laid (t':=s.toks) kp (Nat.le_refl _) (show ObjOk X.prog X.w _ h' _ (.lst ys) from ⟨hz,its,c',r',e⟩),rfl,q _ (I.hok.fresh (Nat.le_refl _))⟩
 rcases hq with hq | hq
 ·obtain ⟨its,r',pl,hz⟩:=I.list hq;have hlen:=r'.length;obtain ⟨o,ho,hc,n,hd⟩:=pl.isList;exact call_list_seq p (.inl rfl) ho hc hd (fun h' c' kp e=>fin its r' hz h' c' kp e) (by simp only [List.size_toArray] <;> omega)
 ·obtain ⟨its,r',pl,hz⟩:=I.tuple hq;have hlen:=r'.length;obtain ⟨o,ho,hc,n,hd⟩:=pl;exact call_list_seq p (.inr rfl) ho hc hd (fun h' c' kp e=>fin its r' hz h' c' kp e) (by simp only [List.size_toArray] <;> omega)
theorem call_tuple_of:CallR X (.type "tuple") (fun xs H Q=>∃p ys,xs=[.ref p]∧((SqL X.K H p ys∧∀l,H l=none→Q (.ref l) (upd H l (.tup ys)))∨(SqT X.K H p ys∧Q (.ref p) H))):=by
 intro pins s σ H xs us Q I r h;obtain ⟨p,ys,rfl,h⟩:=h;obtain ⟨u,rfl,rx⟩:=vals1 r;cases rx;rcases h with ⟨hq,q⟩ | ⟨hq,q⟩
 ·obtain ⟨its,r',pl,hz⟩:=I.list hq;have hlen:=r'.length;refine call_tuple_list pl.isList (fun h' kp=>?_) (by simp only [List.size_toArray] <;> omega);have I1:Inv X pins σ H { s with heap:=h' }:=I.kept (t':=s.toks) kp
  have I2:Inv X pins σ (upd H h'.objs.size (.tup ys)) { s with heap:=h'.push { cls:=.type "tuple",data:=.seq its.toArray } } :=
   I1.laid (t':=s.toks) (fun b o e=>Heap.get?_push_of_some _ e) (Nat.le_refl _) (show ObjOk X.prog X.w _ _ _ (.tup ys) from ⟨hz,its,r',IsTup.new _ _⟩)
  exact ⟨.ref h'.objs.size,_,I2,rfl,q _ (I1.hok.fresh (Nat.le_refl _))⟩
 ·obtain ⟨its,r',pl,hz⟩:=I.tuple hq;exact call_tuple_same pl ⟨.ref p,H,I,rfl,q⟩
def tyV(K:Fg)(T:String)(x:V)(H:Hp):Prop:=match x with
 | .str _=>T = "str"
 | .int _=>T = "int"
 | .ref p=>(T = "list"∧∃xs,SqL K H p xs)∨(T = "tuple"∧∃o,K.lookup p=some o∧o.cls = .type "tuple"∧o.dict=none) ∨
   (T = "dict"∧((∃kvs,H p=some (.dK kvs))∨∃kvs,H p=some (.dT kvs)))∨(T = "set"∧∃S n,H p=some (.set S n))
 | _=>False
theorem tyV_is{pins:List (Addr×Obj)}{σ : St}{H:Hp}{s:Shared}{T:String}{x:V}{v:Value}(I:Inv X pins σ H s)(r:RelV x v)(ty:tyV X.K T x H) :
  s.TypeIs v T∧∀a,v = .ref a→∃ob,s.heap.get? a=some ob∧ob.dict=none:=by
 cases x with
 | str z =>
  obtain ⟨t,rfl⟩:=r;cases (show T = "str" from ty);exact ⟨typeIs_str s z t,fun _ e=>nomatch e⟩
 | int i =>
  obtain ⟨t,rfl⟩:=r;cases (show T = "int" from ty);exact ⟨typeIs_int s i t,fun _ e=>nomatch e⟩
 | ref p =>
  cases r;rcases ty with ⟨rfl,xs,hq⟩ | ⟨rfl,o,hk,hc,hd⟩ | ⟨rfl,hk⟩ | ⟨rfl,S,n,hk⟩
  ·obtain ⟨its,_,pl,_⟩:=I.list hq;refine ⟨pl.isList.typeIs,fun a e=>?_⟩;cases e;obtain ⟨o,n,e,c,hd,_⟩:=pl;exact ⟨o,e,hd⟩
  ·refine ⟨⟨o,I.kIn p o hk,hc⟩,fun a e=>?_⟩;cases e;exact ⟨o,I.kIn _ o hk,hd⟩
  ·have z:∃o,s.heap.get? p=some o∧o.ExactDict:=by
    rcases hk with ⟨kvs,hk⟩ | ⟨kvs,hk⟩
    ·obtain ⟨_,_,_,_,o,_,_,e,ex,_⟩:=I.hok p _ hk;exact ⟨o,e,ex⟩
    ·obtain ⟨_,_,_,_,o,_,_,e,ex,_⟩:=I.hok p _ hk;exact ⟨o,e,ex⟩
   obtain ⟨o,e,ex⟩:=z;refine ⟨⟨o,e,ex.1⟩,fun a e2=>?_⟩;cases e2;exact ⟨o,e,ex.2.1⟩
  ·obtain ⟨o,_,_,_,e,ex,_⟩:=I.hok p _ hk;refine ⟨⟨o,e,ex.1⟩,fun a e2=>?_⟩;cases e2;exact ⟨o,e,ex.2.1⟩
 | _=>exact False.elim ty
def tBM0(K:Fg)(T:String)(r:V→List V→Hp→VK→Prop)(to:TE):TE:=fun σ H Q=>to σ H fun x H1=>tyV K T x H1∧r x [] H1 Q
def tBM(K:Fg)(T:String)(r:V→List V→Hp→VK→Prop)(to:TE)(t:TA):TE:=fun σ H Q=>to σ H fun x H1=>tyV K T x H1∧t σ H1 fun xs H2=>r x xs H2 Q
variable{o e:Expr}{es:List Expr}{to:TE}{t:TA}{name:Str}{apos cpos:Pos}{T id:String}{r:V→List V→Hp→VK→Prop}
theorem pe_bm0 (pa:PlainAttrs T) (slot:Slot T name id) (hty:typeOf (.builtin id)=pure (.type "method_descriptor")) (hm:MtR X id r) (ho:PE X o to)
  (hbase:attributeBase o name X.env (eval o X.env)=eval o X.env:=by rfl) (hline:(apos.endLine == cpos.line)=true:=by rfl):PE X (.Call (.Attribute o name apos) [] [] cpos) (tBM0 X.K T r to):=by
 intro pins s σ H Q I h;refine wpAny_Call_method0_late hbase hline (thn (ho pins s σ H _ I h) fun v s1 ⟨x,H1,I1,r1,ty,q1⟩=>?_);obtain ⟨h1,h2⟩:=tyV_is I1 r1 ty;exact ⟨T,id,pa,slot,hty,h1,h2,Calls.callWith_builtin rfl (PySem.evalArgs_none (hm pins s1 σ H1 x [] v [] Q I1 r1 .nil q1))⟩
theorem pe_bm (pa:PlainAttrs T) (slot:Slot T name id) (hty:typeOf (.builtin id)=pure (.type "method_descriptor")) (hm:MtR X id r) (ho:PE X o to) (ha:PA X (e :: es) t)
  (hbase:attributeBase o name X.env (eval o X.env)=eval o X.env:=by rfl)
  (hfew:((backTo cpos (starEach (e :: es) X.env)).all (fun x=>!x.1) && (backToKw cpos (keywordEach [] X.env)).all (fun x=>x.1.isSome)
   && decide ((e :: es).length+([]:List Keyword).length+(if ([]:List Keyword).isEmpty then 0 else 1) < 30))=true:=by rfl)
  (hline:(apos.endLine == cpos.line)=true:=by rfl) (hs:starEach (e :: es) X.env=(false,eval e X.env) :: starEach es X.env:=by rfl) (hplain:(backTo cpos (starEach es X.env)).any (·.1)=false:=by rfl) :
  PE X (.Call (.Attribute o name apos) (e :: es) [] cpos) (tBM X.K T r to t):=by
 intro pins s σ H Q I h;refine wpAny_Call_method_late hbase hfew hline rfl (thn (ho pins s σ H _ I h) fun v s1 ⟨x,H1,I1,r1,ty,q1⟩=>?_);obtain ⟨h1,h2⟩:=tyV_is I1 r1 ty;refine ⟨T,id,pa,slot,hty,h1,h2,?_⟩;have hA:=ha cpos pins s1 σ H1 _ I1 q1;rw [hs] at hA ⊢;refine Calls.callWith_builtin (by show (false || (backTo cpos (starEach es X.env)).any (·.1))=false;rw [hplain] <;> rfl) (Calls.evalArgs_plain ?_);exact thn hA fun us s2 ⟨vs,H2,I2,r2,q2⟩=>hm pins s2 σ H2 x vs v us Q I2 r1 r2 q2
end
def MtM(X:Cx)(id:String)(r:V→List V→Hp→VK→Prop):Prop :=
 ∀(pins:List (Addr×Obj)) (s:Shared) (σ : St) (H:Hp) (x:V) (xs:List V) (v:Value) (us:List Value) (Q:VK),Inv X pins σ H s→RelV x v→Vals xs us→r x xs H Q →
  wpAny (model X.prog X.w) X.A (call (.builtin id) (v :: us)) (EP X pins σ Q) X.xe s
theorem Vals.one:∀{x:V} {us:List Value},Vals [x] us→∃u,us=[u]∧RelV x u
 | _,_,.cons r .nil=>⟨_,rfl,r⟩
theorem Vals.zero:∀{us:List Value},Vals [] us→us=[]
 | _,.nil=>rfl
section
variable{X:Cx}{pins:List (Addr×Obj)}{σ : St}{H:Hp}{s:Shared}{l b:Addr}{xs ys zs:List V}
theorem Inv.lset{its its':List Value}{n:Nat}{f:Array Value→Array Value}{t':Nat}(I:Inv X pins σ H s)(hH:H l=some (.lst xs))
  (e:s.heap.get? l=some { cls:=.type "list",data:=.seq its.toArray n }) (hf:f its.toArray=its'.toArray) (hv:Vals ys its') (hz:ys.length≤sizeLine) :
  Inv X pins σ (upd H l (.lst ys)) { s with heap:=s.heap.update l (Obj.mapSeq f),toks:=t' }:=by
 have q:=PySem.IsL.update e f;rw [hf] at q;refine I.write (x:=l) (e:=l) (by rw [hH];exact trivial) (.inl rfl) (fun b' u hb hu=>(Heap.get?_update_other s.heap (Obj.mapSeq f) (Ne.symm hb)).trans hu) ⟨_,q⟩ ?_;exact ⟨hz,its',_,hv,q⟩
theorem Inv.lnew{its:List Value}{t':Nat}(I:Inv X pins σ H s)(hv:Vals ys its)(hz:ys.length≤sizeLine) :
  Inv X pins σ (upd H s.heap.objs.size (.lst ys)) { s with heap:=s.heap.push { cls:=.type "list",data:=.seq its.toArray },toks:=t' } :=
 I.laid (fun _ _ q=>Heap.get?_push_of_some _ q) (Nat.le_refl _) ⟨hz,its,0,hv,Heap.get?_push_size _ rfl⟩
theorem Inv.fresh(I:Inv X pins σ H s):H s.heap.objs.size=none:=I.hok.fresh (Nat.le_refl _)
theorem Inv.lstM (I:Inv X pins σ H s) (hH:H l=some (.lst xs)):xs.length≤sizeLine∧∃(its:List Value) (n:Nat),Vals xs its∧xs.length=its.length∧s.heap.get? l=some { cls:=.type "list",data:=.seq its.toArray n }:=by
 obtain ⟨z,its,n,r,e⟩:=I.hok l _ hH;exact ⟨z,its,n,r,r.length,e⟩
end
section
variable{X:Cx}
def rAppend:V→List V→Hp→VK→Prop:=fun x vs H Q=>∃l xs y,x = .ref l∧vs=[y]∧H l=some (.lst xs)∧xs.length < sizeLine∧Q .non (upd H l (.lst (xs++[y])))
theorem mt_append:MtM X "list.append" rAppend:=by
 intro pins s σ H x vs v us Q I rx rv h;obtain ⟨l,xs,y,rfl,rfl,hH,hz,q⟩:=h;cases rx;obtain ⟨u,rfl,ru⟩:=rv.one;obtain ⟨z,its,n,r,hl,e⟩:=I.lstM hH;refine call_meets F.slot_list_append ⟨_,e,rfl⟩ F.entry_list_append (F.args_list_append_2 _ _) (PySem.list_append l its.toArray n u (by rw [List.size_toArray];omega)) ⟨e,?_⟩;refine ⟨.non,_,I.lset (its':=its++[u]) hH e (by simp) (r.append (.cons ru .nil)) ?_,rfl,q⟩;rw [List.length_append,List.length_singleton];omega
def rClear:V→List V→Hp→VK→Prop:=fun x vs H Q=>∃l xs,x = .ref l∧vs=[]∧H l=some (.lst xs)∧Q .non (upd H l (.lst []))
theorem mt_clear:MtM X "list.clear" rClear:=by
 intro pins s σ H x vs v us Q I rx rv h;obtain ⟨l,xs,rfl,rfl,hH,q⟩:=h;cases rx;have hus:=rv.zero;subst hus;obtain ⟨z,its,n,r,hl,e⟩:=I.lstM hH;refine call_meets F.slot_list_clear ⟨_,e,rfl⟩ F.entry_list_clear (F.args_list_clear_1 _) (AutoSeq1.list_clear_list_0 l its.toArray n (by rw [List.size_toArray];omega)) ⟨e,?_⟩;exact ⟨.non,_,I.lset (its':=[]) (ys:=[]) hH e rfl .nil (Nat.zero_le _),rfl,q⟩
def rCat:R2:=fun x y H Q=>∃l b xs zs,x = .ref l∧y = .ref b∧H l=some (.lst xs)∧H b=some (.lst zs)∧xs.length+zs.length≤sizeLine∧∀p,H p=none→Q (.ref p) (upd H p (.lst (xs++zs)))
theorem op_cat:OpR X (binaryOp .Add) rCat:=by
 intro pins s σ H x y v u Q I rx ry h;obtain ⟨l,b,xs,zs,rfl,rfl,hH,hB,hz,q⟩:=h;cases rx;cases ry;obtain ⟨z,its,n,r,hl,e⟩:=I.lstM hH;obtain ⟨z2,its2,n2,r2,hl2,e2⟩:=I.lstM hB;refine PySem.P.add_list e e2 ?_ (by rw [List.size_toArray,List.size_toArray];omega);have ea:its.toArray++its2.toArray=(its++its2).toArray:=by simp
 rw [ea];exact ⟨.ref _,_,I.lnew (t':=s.toks) (r.append r2) (by rw [List.length_append];omega),rfl,q _ I.fresh⟩
end
section
variable{prog:Program}{w:World}{A:Around}{E:Value→Shared→Prop}{s:Shared}
end
section
variable{X:Cx}
end
end L2
namespace Att
open PySem PySem.W PySem.Calls PyProof.Rows
theorem ints_of_wellAll{P:Params}{h:Heap}:∀(ns:List Int) (vs:List Value),WellAll P h vs (ns.map WData.int)→IntsAre vs ns:=by
 intro ns
 induction ns with
 | nil =>
  intro vs w;rw [List.map_nil] at w;cases w;exact .nil
 | cons n ns ih =>
  intro vs w;rw [List.map_cons] at w;cases w with
  | cons a b =>
   cases a;exact .cons _ _ (ih _ b)
theorem script_of{l:OpenLaw}{n:Nat}(hn:l.most=some n){P:Params}{h:Heap}{args:List WData}{vals:List Value}
  (hpre:l.row.toRowW.claim.pre args=true) (hwl:WellAll P h vals args) :
  ∃a vs ns,vals=[Value.ref a]∧args=[WData.list (ns.map WData.int)]∧h.get? a=some { cls:=.type "list",data:=.seq vs.toArray }∧IntsAre vs ns∧ns.length≤n:=by
 have hsh:WShape.hasAll [] args [.list .int]=true:=(pre_splitW hpre).1;have hc:l.pre.holds [] { args:=args } = true:=(pre_splitW hpre).2;obtain ⟨d,r,rfl,h1,h2⟩:=hasAllW_cons hsh;obtain rfl:=hasAllW_nil h2;obtain ⟨xs,rfl,h3⟩:=hasW_list h1;obtain ⟨ns,rfl⟩:=items_int h3
 have hlen:ns.length≤n:=by
  unfold OpenLaw.pre at hc
  have h4:(WTm.not (.lt (.lit (.int (n:Int))) (.len (.arg 0)))).holds [] { args:=[.list (ns.map .int)] } = true:=by
   have h4:=(holds_andW hc).1;rw [hn] at h4;exact h4
  have h5:=condW_of h4 (w_not (w_lt w_lit (w_len_list (w_arg rfl))));rw [List.length_map] at h5;refine Nat.le_of_not_lt fun q=>?_
  have q':(n:Int) < ((ns.length:Nat):Int):=by omega
  first
   | (rw [decide_eq_true q'] at h5;exact absurd h5 (by decide))
   | (simp at h5;omega)
 cases hwl with
 | cons w1 w2 =>
  cases w2;cases w1 with
  | list ho hall=>exact ⟨_,_,ns,rfl,rfl,ho,ints_of_wellAll ns _ hall,hlen⟩
theorem post_true(l:OpenLaw)(args:List WData):l.row.toRowW.claim.post args (.bool true) args=true :=
 postW_of (r:=l.row.toRowW) (X:=(true == true))
  (show WShape.has [] (.bool true) .bool=true by first | rfl | decide | simp [WShape.has,WShape.arms,WShape.armsAll])
  (show (WTm.eq .res (.lit (.bool true))).value [] { args:=args,res:=some (.bool true),after:=args } = some (.bool (true == true)) from w_eq_bool (w_res rfl) w_lit) rfl
theorem attach_call{l:OpenLaw}{n:Nat}{q:Program}{loose:List Str}{XP:(Str→Option Value)→Heap→Prop}{YP:World→Heap→Prop}{d:DefRec}
  (hn:l.most=some n) (hdf:d.params.defaults=[])
  (call:∀(w:World) (s₀ s₁ : Shared) (mg mb:Str→Option Value) (fa:Addr) (o:Obj) (pm cd doc:Value) (a:Addr) (vs:List Value) (ns:List Int),
   Ground q loose [] XP w s₀ mg mb s₁.heap→YP w s₁.heap →
   s₁.heap.get? fa=some o→o.data = .func (docDef d.name d.params d.body d.scope pm cd doc)→s₁.heap.CodeRec cd d.name→mg d.name=some (.ref fa) →
   s₁.heap.get? a=some { cls:=.type "list",data:=.seq vs.toArray }→IntsAre vs ns→ns.length≤n→s₁.gens = #[] →
   codeAny (model l.prog w) callerA (.call (.ref fa) ⟨[.ref a],[]⟩) (fun r s'=>r = .ok (.ret (.bool true))∧OldK s₁.heap s'.heap∧s'.os=s₁.os∧AllBare s'.gens) s₁) :
  WalkO q loose XP YP l.row.toRowW d [] (fun f vs=>PySem.call f vs):=by
 intro w s₀ s₁ mg mb G Y fa o pm cd doc dV kV ho hd hcd hD hmg hg args vals as hpre hlay hrd hwl hlo;obtain rfl:dV = .none:=Dflts.none hD hdf;obtain rfl:kV = .none:=Dflts.noKw hD;obtain ⟨a,vs,ns,rfl,rfl,hobj,hints,hlen⟩:=script_of hn hpre hwl;refine enter_call (codeAny_mono (call w s₀ s₁ mg mb fa o pm cd doc a vs ns G Y ho (fd_plain hd) hcd hmg hobj hints hlen hg) fun r s' hq=>?_);obtain ⟨rfl,h2,h3,h4⟩:=hq;exact ⟨.inl ⟨.bool true,.bool true,[],rfl,fun _=>rfl,.bool true,post_true l _,fun _=>⟨List.Pairwise.nil,fun _ hm=>(nomatch hm)⟩⟩,h2,h3,h4⟩
section
variable{prog:Program}{w:World}{A:Around}{E:Value→Shared→Prop}{s:Shared}{K:Frag}
end
end Att
namespace L2
open PySem PySem.Spec PyProof.Rows
theorem vals_ints:∀{vs:List Value} {ns:List Int},IntsAre vs ns→Vals (ns.map V.int) vs
 | _,_,.nil=>.nil
 | _,_,.cons n t h=>.cons ⟨t,rfl⟩ (vals_ints h)
def Only(H:Hp):Prop:=∀b,H b=none∨∃o xs,H b=some (.frz o (.lst xs))
theorem law_call{P:Program}{w:World}{K:Fg}{mg mb:Str→Option Value}{CX:CXT}{k:Nat}{fa a:Addr}{fd:FuncData}{x:Str}{sp:Sp}{s₁ : Shared}{vs:List Value}{ns:List Int}
  (KX:K.In s₁.heap) (hns:s₁.heap.Ns mainGlobals mg) (hb:s₁.heap.Ns builtinsNs mb) (hbb:∀x:Str,x≠"__name__"→mb x=bootBuiltins x) (hlim:s₁.heap.NoLimit) (hg:s₁.gens = #[])
  (ha:s₁.heap.get? a=some { cls:=.type "list",data:=.seq vs.toArray }) (hi:IntsAre vs ns) (hl:ns.length≤sizeLine) (hr:Room k callerA)
  (F:∀base:Heap,K.In base→base.Ns mainGlobals mg→FnOk P w K mg base CX k fa fd [x] sp) (hbind:∀(s:Shared) (u:Value),BindsTo s fd ⟨[u],[]⟩ [(x,u)])
  (hsp:∀H:Hp,Only H→SqL K H a (ns.map V.int)→sp [.ref a] H (fun v _=>v = .bl true) fun _ _ _=>False)
  (hCX:∀H e s',CX [] H s₁ (fun _ _ _=>False) e s'→False) :
  codeAny (model P w) callerA (.call (.ref fa) ⟨[.ref a],[]⟩) (fun r s'=>r = .ok (.ret (.bool true))∧OldK s₁.heap s'.heap∧s'.os=s₁.os∧AllBare s'.gens) s₁:=by
 have rv:=vals_ints hi;have lenV:=hi.length
 have core:∀H:Hp,Only H→SqL K H a (ns.map V.int)→HOk P w H s₁.heap→(∀b,H b≠none→b=a)→(H a≠none→K.lookup a=none) →
   codeAny (model P w) callerA (.call (.ref fa) ⟨[.ref a],[]⟩) (fun r s'=>r = .ok (.ret (.bool true))∧OldK s₁.heap s'.heap∧s'.os=s₁.os∧AllBare s'.gens) s₁:=by
  intro H hO hS hok hA hK;have base_of:∀{b:Addr} {o:Obj},s₁.heap.get? b=some o→H b=none→(hidT s₁.heap H).get? b=some o:=fun e n=>hidT_get e n
  have noA:∀{b:Addr} {o:Obj} {es:Array DictEntry} {ep:Nat},s₁.heap.get? b=some o→o.data = .dict es ep→H b=none:=fun {b o es ep} e d=>by
   cases q:H b with
   | none=>rfl
   | some u =>
    have e':b=a:=hA b (by rw [q];simp);subst e';rw [ha] at e;cases e;have d':Data.seq vs.toArray _=Data.dict es ep:=d;cases d'
  have nsK:∀{b:Addr} {m:Str→Option Value},s₁.heap.Ns b m→(hidT s₁.heap H).Ns b m:=fun {b m} ⟨o,es,ep,e,d,r⟩=>⟨o,es,ep,base_of e (noA e d),d,r⟩
  have hKb:K.In (hidT s₁.heap H):=fun b o e=>base_of (KX b o e) (by
   cases q:H b with
   | none=>rfl
   | some u =>
    have e':b=a:=hA b (by rw [q];simp)
    subst e'
    rw [hK (by rw [q];simp)] at e;cases e)
  have hM:Mod K mg (hidT s₁.heap H):=⟨hKb,nsK hns,⟨mb,nsK hb,hbb⟩,let ⟨mc,h1,h2⟩:=hlim;⟨mc,nsK h1,h2⟩⟩
  have e0:Env0 P w K mg (hidT s₁.heap H) callerA [] s₁ H:=⟨rfl,hM,fun b o e=>of_hidT e,Nat.le_of_eq (hidT_size _ _),trivial,fun b hb=>absurd (show b∈([]:List Addr) from hb) (by simp),hok,.of_eq hg⟩
  refine codeAny_mono ((F _ hKb (nsK hns)).run callerA [] s₁ H ⟨[.ref a],[]⟩ [.ref a] [.ref a] _ _ hr e0 (hbind s₁ (.ref a)) (.cons rfl .nil) (hsp H hO hS)) fun r s' h=>?_
  cases r with
  | error e=>exact (hCX H e s' h).elim
  | ok fl =>
   cases fl with
   | next=>exact False.elim h
   | brk=>exact False.elim h
   | cont=>exact False.elim h
   | ret u =>
    obtain ⟨v,H',os,bare,un,hok',r',q⟩:=h;have q':v = .bl true:=q;subst q';obtain rfl:u=Value.bool true:=r';refine ⟨rfl,OldK.of_keep fun b o e=>?_,os,bare⟩;cases q:H b with
    | none=>exact un.keep b o e q (by intro z;exact absurd (show b∈([]:List Addr) from z) (by simp)) (by simp)
    | some u =>
     rcases hO b with z | ⟨ob,xs,z⟩
     ·rw [q] at z;cases z
     ·have z2:=un.frzs b ob _ z;obtain ⟨e1,_⟩:=hok b _ z;obtain ⟨e2,_⟩:=hok' b _ z2;rw [e] at e1;cases e1;exact e2
 cases hk:K.lookup a with
 | some o =>
  have e:=KX a o hk;rw [ha] at e;cases e;refine core (fun _=>none) (fun _=>.inl rfl) (.inr ⟨_,vs.toArray,_,hk,rfl,rfl,rfl,by rw [List.size_toArray,lenV];exact hl,by simpa using rv⟩) (fun b u z=>by have z':(none:Option HO)=some u:=z;cases z') (fun b z=>absurd rfl z) fun z=>absurd rfl z
 | none =>
  refine core (fun b=>if b=a then some (.frz { cls:=.type "list",data:=.seq vs.toArray } (.lst (ns.map V.int))) else none) (fun b=>?_) (.inl (.inr ⟨{ cls:=.type "list",data:=.seq vs.toArray },if_pos rfl⟩)) (fun b u z=>?_) (fun b z=>?_) fun _=>hk
  ·by_cases hb:b=a
   ·exact .inr ⟨_,_,if_pos hb⟩
   ·exact .inl (if_neg hb)
  ·by_cases hb:b=a
   ·have z':=(if_pos hb).symm.trans z;cases z';subst hb;exact ⟨ha,by rw [List.length_map];exact hl,vs,_,rv,ha⟩
   ·have z':=(if_neg hb).symm.trans z;cases z'
  ·by_cases hb:b=a
   ·exact hb
   ·exact absurd (if_neg hb) z
theorem walk_of{l:PySem.W.OpenLaw}{n k:Nat}{q:Program}{loose:List Str}{XP:(Str→Option Value)→Heap→Prop}{YP:World→Heap→Prop}{d:DefRec}{K:Params→PySem.W.Frag}{CX:World→CXT}{sp:World→Sp}{x:Str}
  (hn:l.most=some n) (hn2:n≤sizeLine) (hdf:d.params.defaults=[]) (hr:Room k callerA)
  (hY:∀(w:World) (h:Heap),YP w h→(K w.params).In h)
  (F:∀(w:World) (mg:Str→Option Value) (fa:Addr) (h:Heap),(K w.params).In h→h.Ns mainGlobals mg→mg d.name=some (.ref fa) →
   ∃fd:FuncData,(∀(s:Shared) (u:Value),BindsTo s fd ⟨[u],[]⟩ [(x,u)]) ∧
    ∀base:Heap,(K w.params).In base→base.Ns mainGlobals mg→FnOk l.prog w (K w.params) mg base (CX w) k fa fd [x] (sp w))
  (hsp:∀(w:World) (H:Hp) (a:Addr) (ns:List Int),ns.length≤n→Only H→SqL (K w.params) H a (ns.map V.int)→sp w [.ref a] H (fun v _=>v = .bl true) fun _ _ _=>False)
  (hCX:∀(w:World) (H:Hp) (s:Shared) (e:Value) (s':Shared),CX w [] H s (fun _ _ _=>False) e s'→False) :
  PySem.W.WalkO q loose XP YP l.row.toRowW d [] (fun f vs=>PySem.call f vs):=by
 refine Att.attach_call hn hdf fun w s₀ s₁ mg mb fa o pm cd doc a vs ns G Y ho hd hcd hmg hobj hints hlen hg=>?_
 have KX:=hY w _ Y;obtain ⟨fd,hb,hF⟩:=F w mg fa _ KX G.T.g hmg;exact law_call KX G.T.g G.T.b G.T.builtins G.T.nolimit hg hobj hints (Nat.le_trans hlen hn2) hr hF hb (fun H hO hS=>hsp w H a ns hlen hO hS) fun H e s'=>hCX w H s₁ e s'
def defArgs(s:Stmt):Arguments:=match s with
 | .FunctionDef _ a _ _ _ _ _ _ _ _=>a
 | _=>{ posonlyargs:=[],args:=[],vararg:=none,kwonlyargs:=[],kw_defaults:=[],kwarg:=none,defaults:=[] }
def defBody(s:Stmt):List Stmt:=match s with
 | .FunctionDef _ _ b _ _ _ _ _ _ _=>b
 | _=>[]
def defScope(s:Stmt):Scope:=match s with
 | .FunctionDef _ _ _ _ _ _ sc _ _ _=>sc
 | _=>{ kind:=.function,names:=[],isGenerator:=false,isCoroutine:=false }
abbrev CX0:CXT:=fun _ _ _ _ _ _=>False
abbrev E0:XK:=fun _ _ _=>False
theorem pass0{X:Cx}:Passes CX0 X E0:=fun _ _ _ _ _ _ _ h=>h.elim
structure Fun (K:Fg) (x qual:Str) (st:Stmt) (f:Addr) (fd:FuncData):Prop where
 ex:∃(oc:Value) (od:Option Addr) (kV doc pm:Value) (an:Option Addr) (cdv ct:Value) (osl:Array (Option Value)),
  fd=PySem.W.fnOf x qual (defArgs st) (defBody st) (defScope st) .none kV doc pm an cdv ct∧K.lookup f=some ⟨oc,od,.func fd,osl⟩∧PySem.W.codeIn K cdv qual=true
 kp:PySem.W.keepIn K (.ref f)=true
section
variable{P:Program}{w:World}{K:Fg}{mg:Str→Option Value}{base:Heap}
theorem Fun.ok{x qual:Str}{st:Stmt}{f:Addr}{fd:FuncData}{N ps:List Str}{k:Nat}{sp:Sp}(F:Fun K x qual st f fd)(S:FnScope N ps (defScope st))(len:∀vs H Q E,sp vs H Q E→vs.length=ps.length)
  (hbody:∀(cdv:Value) (A:Around) (outer:List Env) (s:Shared) (H:Hp) (vs:List V) (Q:VK) (E:XK),Room k (A.deeper (envOfC qual (defScope st) s.heap.objs.size f cdv))→sp vs H Q E →
   ∃t,PSs (cxOf CX0 P w K mg base N qual (defScope st) f cdv A outer s H E).nox (defBody st) t∧t { nx:=fun _ H'=>Q .non H',rt:=Q } (start N vs) H):FnOk P w K mg base CX0 (k+1) f fd ps sp:=by
 obtain ⟨oc,od,kV,doc,pm,an,cdv,ct,osl,rfl,lk,hcd⟩:=F.ex;refine fn_of lk hcd S len fun A outer s H vs Q E hr hsp=>?_
 obtain ⟨t,h,q⟩:=hbody cdv A outer s H vs Q E hr hsp;exact ⟨t,h.nox,q⟩
theorem Fun.binds{x qual:Str}{st:Stmt}{f:Addr}{fd:FuncData}{ps:List Str}(F:Fun K x qual st f fd)
  (h:∀(kV doc pm:Value) (an:Option Addr) (cdv ct:Value) (us:List Value),us.length=ps.length→bindArgs (PySem.W.fnOf x qual (defArgs st) (defBody st) (defScope st) .none kV doc pm an cdv ct) ⟨us,[]⟩=pure (ps.zip us)):Binds K fd ps []:=by
 obtain ⟨oc,od,kV,doc,pm,an,cdv,ct,osl,rfl,lk,hcd⟩:=F.ex;exact .all (h kV doc pm an cdv ct)
theorem fun_mk{x qual:Str}{st:Stmt}{f:Addr}{oc:Value}{od an:Option Addr}{osl:Array (Option Value)}{kV doc pm cdv ct:Value}(l:K.lookup f=some ⟨oc,od,.func (PySem.W.fnOf x qual (defArgs st) (defBody st) (defScope st) .none kV doc pm an cdv ct),osl⟩)
  (c:PySem.W.codeIn K cdv qual=true) (k:PySem.W.keepIn K (.ref f)=true):Fun K x qual st f (PySem.W.fnOf x qual (defArgs st) (defBody st) (defScope st) .none kV doc pm an cdv ct):=⟨⟨oc,od,kV,doc,pm,an,cdv,ct,osl,rfl,l,c⟩,k⟩
end
theorem small1000{n:Nat}(h:n≤1000):n < sizeLine:=Nat.lt_of_le_of_lt h (by decide)
section
variable{X:Cx}
theorem pv (i:Nat) {x:Str} {pos:Pos} (hN:X.N[i]? = some x:=by rfl) (hv:Vis X.env.scope x:=by first | exact Or.inl rfl | exact Or.inr (Or.inl rfl) | exact Or.inr (Or.inr rfl)) (hd:(x == ("__debug__" : Str))=false:=by decide)
  (hcd:(x == ("__classdict__" : Str))=false:=by decide):PE X (.Name x pos) (tVar i):=pe_var hN hv hd hcd
end
theorem iteF{A B:Prop}(h:B):if false=true then A else B:=by
 rw [if_neg Bool.false_ne_true];exact h
theorem iteT{A B:Prop}(h:A):if true=true then A else B:=by
 rw [if_pos rfl];exact h
def Same(H H':Hp):Prop:=∀b o,H b=some o→H' b=some o
theorem Same.refl(H:Hp):Same H H:=fun _ _ h=>h
theorem Same.trans{H H1 H2:Hp}(a:Same H H1)(b:Same H1 H2):Same H H2:=fun c o h=>b c o (a c o h)
theorem Same.free{H H':Hp}(e:Same H H'){l:Addr}(h:H' l=Option.none):H l=Option.none:=by
 cases q:H l with
 | none=>rfl
 | some o =>
  rw [e l o q] at h;cases h
theorem Same.seq{K:Fg}{H H':Hp}{a:Addr}{xs:List V}(e:Same H H')(h:SqL K H a xs):SqL K H' a xs:=by
 rcases h with (h | ⟨o,h⟩) | h
 ·exact .inl (.inl (e _ _ h))
 ·exact .inl (.inr ⟨o,e _ _ h⟩)
 ·exact .inr h
section
variable{κ : Type}[DecidableEq κ]
def valV(kvs:List (κ×V))(k : κ):Option V:=(kvs.find? fun kv=>decide (kv.1=k)).map (·.2)
def putK(kvs:List (κ×V))(k : κ)(v:V):List (κ×V) :=
 if (kvs.any fun kv=>decide (kv.1=k))=true then kvs.map (fun kv=>if kv.1=k then (kv.1,v) else kv) else kvs++[(k,v)]
theorem valV_pos{p : κ×V}{r:List (κ×V)}{k : κ}(e:p.1=k):valV (p :: r) k=some p.2:=by simp [valV,List.find?_cons,e]
theorem valV_neg{p : κ×V}{r:List (κ×V)}{k : κ}(e : ¬ p.1=k):valV (p :: r) k=valV r k:=by simp [valV,List.find?_cons,e]
theorem valV_any(k : κ):∀kvs:List (κ×V),(kvs.any fun kv=>decide (kv.1=k))=(valV kvs k).isSome
 | []=>rfl
 | p :: r=>by
  rw [List.any_cons];by_cases e:p.1=k
  ·simp only [valV_pos e,decide_eq_true e,Bool.true_or,Option.isSome_some]
  ·rw [valV_neg e,decide_eq_false e,Bool.false_or];exact valV_any k r
theorem valV_map(k j : κ)(y:V):∀kvs:List (κ×V),valV (kvs.map fun kv=>if kv.1=k then (kv.1,y) else kv) j=(valV kvs j).map fun x=>if j=k then y else x
 | []=>rfl
 | p :: r=>by
  have ih:=valV_map k j y r;rw [List.map_cons];by_cases h:p.1=k
  ·rw [if_pos h];by_cases e:p.1=j
   ·rw [valV_pos (p:=(p.1,y)) e,valV_pos e,Option.map_some,if_pos (e.symm.trans h)]
   ·rw [valV_neg (p:=(p.1,y)) e,valV_neg e,ih]
  ·rw [if_neg h];by_cases e:p.1=j
   ·rw [valV_pos (p:=p) e,valV_pos e,Option.map_some,if_neg (fun z=>h (e.trans z))]
   ·rw [valV_neg (p:=p) e,valV_neg e,ih]
theorem valV_snoc(k j : κ)(y:V):∀kvs:List (κ×V),valV kvs k=none→valV (kvs++[(k,y)]) j=if j=k then some y else valV kvs j
 | [],_=>by
  by_cases e:k=j
  ·rw [if_pos e.symm];exact valV_pos (p:=(k,y)) e
  ·rw [if_neg (fun z=>e z.symm)];exact valV_neg (p:=(k,y)) e
 | p :: r,hn=>by
  rw [List.cons_append];have hk : ¬ p.1=k:=fun z=>by rw [valV_pos z] at hn;cases hn
  rw [valV_neg hk] at hn;have ih:=valV_snoc k j y r hn;by_cases e:p.1=j
  ·rw [valV_pos e,valV_pos e,if_neg (fun z=>hk (e.trans z))]
  ·rw [valV_neg e,valV_neg e,ih]
theorem valV_put(kvs:List (κ×V))(k j : κ)(y:V):valV (putK kvs k y) j=if j=k then some y else valV kvs j:=by
 unfold putK;by_cases a:(kvs.any fun kv=>decide (kv.1=k))=true
 ·rw [if_pos a,valV_map];rw [valV_any] at a;by_cases e:j=k
  ·obtain ⟨x,hx⟩:=Option.isSome_iff_exists.mp a;rw [if_pos e,e,hx,Option.map_some,if_pos rfl]
  ·rw [if_neg e];cases valV kvs j with
   | none=>rfl
   | some x=>rw [Option.map_some,if_neg e]
 ·rw [if_neg a];refine valV_snoc k j y kvs ?_;rw [valV_any] at a;cases q:valV kvs k with
  | none=>rfl
  | some x=>rw [q] at a;exact (a rfl).elim
theorem length_putK(kvs:List (κ×V))(k : κ)(v:V):(putK kvs k v).length≤kvs.length+1:=by
 unfold putK;split
 ·rw [List.length_map];omega
 ·rw [List.length_append,List.length_cons,List.length_nil];omega
theorem RelO.isSome_eq{o:Option V}{u:Option Value}(r:RelO o u):o.isSome=u.isSome:=by
 cases o with
 | none=>cases u with
  | none=>rfl
  | some _=>exact (show False from r).elim
 | some _=>cases u with
  | none=>exact (show False from r).elim
  | some _=>rfl
theorem KV.val{kvs:List (κ×V)}{vs:List (κ×Value)}(r:KV kvs vs)(k : κ):RelO (valV kvs k) (valueAt vs k):=by
 unfold KV at r
 induction r with
 | nil=>exact True.intro
 | @cons p q ps qs h t ih =>
  obtain ⟨h1,h2⟩:=h;by_cases e:p.1=k
  ·have e':q.1=k:=h1.symm.trans e;have b:valueAt (q :: qs) k=some q.2:=by simp [valueAt,List.find?_cons,e']
   rw [valV_pos e,b];exact h2
  ·have e' : ¬ q.1=k:=fun z=>e (h1.trans z)
   have b:valueAt (q :: qs) k=valueAt qs k:=by simp [valueAt,List.find?_cons,e']
   rw [valV_neg e,b];exact ih
theorem KV.any{kvs:List (κ×V)}{vs:List (κ×Value)}(r:KV kvs vs)(k : κ):(kvs.any fun kv=>decide (kv.1=k))=vs.any fun kv=>decide (kv.1=k):=by
 unfold KV at r
 induction r with
 | nil=>rfl
 | cons h t ih=>rw [List.any_cons,List.any_cons,ih,h.1]
theorem KV.repl{kvs:List (κ×V)}{vs:List (κ×Value)}(r:KV kvs vs)(k : κ){y:V}{u:Value}(ry:RelV y u) :
  KV (kvs.map fun kv=>if kv.1=k then (kv.1,y) else kv) (vs.map fun kv=>if kv.1=k then (kv.1,u) else kv):=by
 unfold KV at r ⊢
 induction r with
 | nil=>exact .nil
 | @cons p q ps qs h t ih =>
  rw [List.map_cons,List.map_cons];refine .cons ?_ ih;obtain ⟨h1,h2⟩:=h;by_cases e:p.1=k
  ·rw [if_pos e,if_pos (h1.symm.trans e)];exact ⟨h1,ry⟩
  ·rw [if_neg e,if_neg (fun z=>e (h1.trans z))];exact ⟨h1,h2⟩
theorem KV.put{kvs:List (κ×V)}{vs:List (κ×Value)}(r:KV kvs vs)(k : κ){y:V}{u:Value}(ry:RelV y u):KV (putK kvs k y) (stored vs k u):=by
 unfold putK stored;rw [r.any k];by_cases e:(vs.any fun kv=>decide (kv.1=k))=true
 ·rw [if_pos e,if_pos e];exact r.repl k ry
 ·rw [if_neg e,if_neg e];exact Paired.snoc r ⟨rfl,ry⟩
theorem KV.length{kvs:List (κ×V)}{vs:List (κ×Value)}(r:KV kvs vs):kvs.length=vs.length:=Paired.length r
end
theorem kV_is{P:Program}{w:World}{k:Key}{u:Value}(r:RelV (kV k) u):(mixKind P w).is k u=true:=by
 cases k with
 | inl i=>obtain ⟨t,e⟩:=(show ∃t,u=Value.int i t from r);subst e;exact mixKind_int P w i t
 | inr x=>obtain ⟨t,e⟩:=(show ∃t,u=Value.str x t from r);subst e;exact mixKind_str P w x t
theorem items_are{P:Program}{w:World}:∀{ks:List Key} {us:List Value},Vals (ks.map kV) us→ItemsAre (mixKind P w) ks us
 | [],_,r=>by rw [List.map_nil] at r;cases r;exact .nil
 | k :: ks,_,r=>by
  rw [List.map_cons] at r;cases r with
  | cons h t=>exact .cons (kV_is h) (items_are t)
abbrev KT(H:Hp):List (List Key×V)→List (List Key×Addr×Value)→Prop:=Paired fun p q=>p.1=q.1∧H q.2.1=some (.tup (p.1.map kV))∧RelV p.2 q.2.2
theorem KT.val{H:Hp}{kvs:List (List Key×V)}{xs:List (List Key×Addr×Value)}(r:KT H kvs xs)(k:List Key):RelO (valV kvs k) ((atKey xs k).map (·.2)):=by
 induction r with
 | nil=>exact True.intro
 | @cons p q ps qs h t ih =>
  obtain ⟨h1,_,h2⟩:=h;by_cases e:p.1=k
  ·have e':q.1=k:=h1.symm.trans e;have b:atKey (q :: qs) k=some q.2:=by simp [atKey,List.find?_cons,e']
   rw [valV_pos e,b];exact h2
  ·have e' : ¬ q.1=k:=fun z=>e (h1.trans z)
   have b:atKey (q :: qs) k=atKey qs k:=by simp [atKey,List.find?_cons,e']
   rw [valV_neg e,b];exact ih
theorem KT.repl{H:Hp}{kvs:List (List Key×V)}{xs:List (List Key×Addr×Value)}(r:KT H kvs xs)(k:List Key){y:V}{u:Value}(ry:RelV y u) :
  KT H (kvs.map fun kv=>if kv.1=k then (kv.1,y) else kv) (xs.map (putAt k u)):=by
 induction r with
 | nil=>exact .nil
 | @cons p q ps qs h t ih =>
  rw [List.map_cons,List.map_cons];refine .cons ?_ ih;obtain ⟨h1,h2,h3⟩:=h;unfold putAt;by_cases e:p.1=k
  ·rw [if_pos e,if_pos (h1.symm.trans e)];exact ⟨h1,h2,ry⟩
  ·rw [if_neg e,if_neg (fun z=>e (h1.trans z))];exact ⟨h1,h2,h3⟩
theorem KT.put{H:Hp}{kvs:List (List Key×V)}{xs:List (List Key×Addr×Value)}(r:KT H kvs xs)(k:List Key){b:Addr}{y:V}{u:Value}(hb:H b=some (.tup (k.map kV)))(ry:RelV y u) :
  KT H (putK kvs k y) (storedH xs k b u):=by
 have e:(kvs.any fun kv=>decide (kv.1=k))=(atKey xs k).isSome:=by
  rw [valV_any,(r.val k).isSome_eq,Option.isSome_map]
 unfold putK storedH;rw [e];by_cases q:(atKey xs k).isSome=true
 ·rw [if_pos q,if_pos q];exact r.repl k ry
 ·rw [if_neg q,if_neg q];exact Paired.snoc r ⟨rfl,hb,ry⟩
theorem KT.keeps{H H':Hp}{kvs:List (List Key×V)}{xs:List (List Key×Addr×Value)}(r:KT H kvs xs)(ht:∀b ys,H b=some (.tup ys)→H' b=some (.tup ys)):KT H' kvs xs :=
 Paired.mapP r fun _ _ z=>⟨z.1,ht _ _ z.2.1,z.2.2⟩
section
variable{P:Program}{w:World}{H:Hp}{h:Heap}{a:Addr}
theorem rd_of{u:HO}(ok:HOk P w H h)(e:Rd H a u):ObjOk P w H h a u:=e.ok ok
theorem dk_rd{kvs:List (Key×V)}(ok:HOk P w H h)(e:Rd H a (.dK kvs)):kvs.length≤sizeLine∧(a == sysModules)=false∧∃vs,KV kvs vs∧h.DictOf (mixKind P w) a vs :=
 show ObjOk P w H h a (.dK kvs) from rd_of ok e
theorem dk_of{kvs:List (Key×V)}(ok:HOk P w H h)(e:H a=some (.dK kvs)):kvs.length≤sizeLine∧(a == sysModules)=false∧∃vs,KV kvs vs∧h.DictOf (mixKind P w) a vs:=dk_rd ok (.inl e)
theorem key_of{ks:List Key}(ok:HOk P w H h)(e:H a=some (.tup (ks.map kV))):(tupleKind (mixKind P w)).is h ks a:=by
 obtain ⟨_,its,r,o,h1,h2,n,h3⟩:=(show ObjOk P w H h a (.tup (ks.map kV)) from ok a _ e)
 exact ⟨o,its.toArray,n,h1,h2,h3,by simpa using items_are r⟩
theorem dt_rd{kvs:List (List Key×V)}(ok:HOk P w H h)(e:Rd H a (.dT kvs)):kvs.length≤sizeLine∧(a == sysModules)=false ∧
  ∃xs,KT H kvs xs∧h.DictOfH (tupleKind (mixKind P w)) a xs:=by
 obtain ⟨z,y,xs,r,o,es,ep,h1,h2,h3,h4,h5⟩:=(show ObjOk P w H h a (.dT kvs) from rd_of ok e)
 refine ⟨z,y,xs,r,o,es,ep,h1,h2,h3,h4,fun x hx=>?_,h5⟩
 have all:∀{l:List (List Key×V)} {m:List (List Key×Addr×Value)},KT H l m→∀x∈m,(tupleKind (mixKind P w)).is h x.1 x.2.1:=by
  intro l m q
  induction q with
  | nil=>intro x hx;exact nomatch hx
  | @cons p q ps qs hq t ih =>
   intro x hx;rcases List.mem_cons.mp hx with e | hx
   ·subst e;exact key_of ok (by rw [← hq.1];exact hq.2.1)
   ·exact ih x hx
 exact all r x hx
theorem dt_of{kvs:List (List Key×V)}(ok:HOk P w H h)(e:H a=some (.dT kvs)):kvs.length≤sizeLine∧(a == sysModules)=false ∧
  ∃xs,KT H kvs xs∧h.DictOfH (tupleKind (mixKind P w)) a xs:=dt_rd ok (.inl e)
end
def DGet(H:Hp)(a:Addr)(y:V)(r:Option V):Prop :=
 (∃kvs k,Rd H a (.dK kvs)∧y=kV k∧r=valV kvs k)∨∃kvs k b,Rd H a (.dT kvs)∧y = .ref b∧H b=some (.tup (k.map kV))∧r=valV kvs k
def DPut(H:Hp)(a:Addr)(y v:V)(H':Hp):Prop :=
 (∃kvs k,H a=some (.dK kvs)∧y=kV k∧kvs.length < sizeLine∧H'=upd H a (.dK (putK kvs k v))) ∨
 ∃kvs k b,H a=some (.dT kvs)∧y = .ref b∧H b=some (.tup (k.map kV))∧kvs.length < sizeLine∧H'=upd H a (.dT (putK kvs k v))
theorem DGet.t{H:Hp}{a b:Addr}{kvs:List (List Key×V)}{k:List Key}(e:H a=some (.dT kvs))(eb:H b=some (.tup (k.map kV))):DGet H a (.ref b) (valV kvs k):=.inr ⟨kvs,k,b,.inl e,rfl,eb,rfl⟩
theorem DPut.t{H:Hp}{a b:Addr}{kvs:List (List Key×V)}{k:List Key}{v:V}(e:H a=some (.dT kvs))(eb:H b=some (.tup (k.map kV)))(hl:kvs.length < sizeLine) :
  DPut H a (.ref b) v (upd H a (.dT (putK kvs k v))):=.inr ⟨kvs,k,b,e,rfl,eb,hl,rfl⟩
section
variable{X:Cx}{pins:List (Addr×Obj)}{σ : St}{H:Hp}{s:Shared}{a:Addr}{y v:V}{u r:Value}{o:Option V}{A:Around}{E:Value→Shared→Prop}
theorem Inv.big(I:Inv X pins σ H s):sysModules < s.heap.objs.size:=by
 have h:mainGlobals < s.heap.objs.size:=(I.mod.glob.keeps I.bk).lt;exact Nat.lt_trans (by decide) h
theorem d_getItem{Q:Value→Shared→Prop}(hu:A.units+1 < cLine)(I:Inv X pins σ H s)(g:DGet H a y (some v))(ry:RelV y u)(h:∀w' s',Inv X pins σ H s'→RelV v w'→Q w' s') :
  wpAny (model X.prog X.w) A (getItem (.ref a) u) Q E s:=by
 rcases g with ⟨kvs,k,e,ey,l⟩ | ⟨kvs,k,b,e,ey,eb,l⟩
 ·subst ey;obtain ⟨z,hd,vs,rel,dd⟩:=dk_rd I.hok e;obtain ⟨w',hw,rw'⟩:=RelO.some_of (v:=v) (o:=valueAt vs k) (by rw [l];exact rel.val k);exact wpAny_getItem_of (kV_is ry) dd.mapOf hw (h w' _ (I.tok _) rw')
 ·subst ey;cases (show u=Value.ref b from ry);obtain ⟨z,hd,xs,rel,dd⟩:=dt_rd I.hok e;obtain ⟨w',hw,rw'⟩:=RelO.some_of (v:=v) (o:=(atKey xs k).map (·.2)) (by rw [l];exact rel.val k);obtain ⟨p,hp,hp2⟩:=Option.map_eq_some_iff.mp hw;refine wpAny_getItem_heap (tupleKind_room_in1 hu) (key_of I.hok eb) dd hp ?_;rw [hp2];exact h w' _ (I.tok _) rw'
theorem d_write{h':Heap}{t':Nat}{ob:HO}(I:Inv X pins σ H s)(mu:Mut (H a))(hs:Heap.SameBut a s.heap h')(he:∃q,h'.get? a=some q)(new:ObjOk X.prog X.w (upd H a ob) h' a ob) :
  Inv X pins σ (upd H a ob) { s with heap:=h',toks:=t' } :=
 I.write (x:=a) (e:=a) mu (.inl rfl) (fun b q hb z=>(hs.2 b hb).trans z) he new
theorem dk_new{P:Program}{w:World}{H':Hp}{h':Heap}{kvs:List (Key×V)}{vs:List (Key×Value)}(z:kvs.length≤sizeLine)(hd:(a == sysModules)=false)(rel:KV kvs vs)(dd:h'.DictOf (mixKind P w) a vs) :
  ObjOk P w H' h' a (.dK kvs):=⟨z,hd,vs,rel,dd⟩
theorem d_setItem{H':Hp}{Q:Unit→Shared→Prop}(hu:A.units+1 < cLine)(I:Inv X pins σ H s)(g:DPut H a y v H')(ry:RelV y u)(rv:RelV v r)(h:∀s',Inv X pins σ H' s'→Q () s') :
  wpAny (model X.prog X.w) A (setItem (.ref a) u r) Q E s:=by
 rcases g with ⟨kvs,k,e,ey,l,eH⟩ | ⟨kvs,k,b,e,ey,eb,l,eH⟩
 ·subst ey eH;obtain ⟨z,hd,vs,rel,dd⟩:=dk_of I.hok e;have hz:vs.length≤sizeLine:=by rw [← rel.length];exact z
  have hl:(putK kvs k v).length≤sizeLine:=by have:=length_putK kvs k v;omega
  refine wpAny_setItem_pairs (hsz:=hz) (kV_is ry) dd fun h' dd' hs=>h _ ?_
  have he:∃q,h'.get? a=some q:=let ⟨q,_,_,hq,_⟩:=dd';⟨q,hq⟩
  exact d_write I (by rw [e];exact True.intro) hs he (dk_new hl hd (rel.put k rv) dd')
 ·subst ey eH;cases (show u=Value.ref b from ry);obtain ⟨z,hd,xs,rel,dd⟩:=dt_of I.hok e;have hz:xs.length≤sizeLine:=by rw [← Paired.length rel];exact z
  have hl:(putK kvs k v).length≤sizeLine:=by have:=length_putK kvs k v;omega
  refine wpAny_setItem_heap (hsz:=hz) (tupleKind_room_in1 hu) (key_of I.hok eb) dd fun h' dd' hs=>h _ ?_
  obtain ⟨q,es,ep,hq,h2,h3,h4,_,h5⟩:=dd';refine d_write I (by rw [e];exact True.intro) hs ⟨q,hq⟩ ⟨hl,hd,_,(rel.put k eb rv).keeps fun c ys ec=>?_,q,es,ep,hq,h2,h3,h4,h5⟩;rw [upd_ne (ne_of ec e (fun z=>nomatch z))];exact ec
end
section
variable{X:Cx}{pins:List (Addr×Obj)}{σ : St}{H:Hp}{s:Shared}{a:Addr}{kvs:List (Key×V)}{k:Key}{u:Value}{A:Around}{E:Value→Shared→Prop}
end
def NoSl(i:Expr):Prop:=∀ov iv,subscripted i false ov iv=operate [ov,iv] (getItem ov iv)
theorem subD_of{prog:Program}{w:World}{A:Around}{E:Value→Shared→Prop}{s:Shared}{env:Env}{value slice:Expr}{pos:Pos}{T id:String}{Q:Value→Shared→Prop}
  (hl:typeLookup (.type T) "__getitem__" = pure (some (.builtin id))) (hs:NoSl slice)
  (h:wpAny (model prog w) A (eval value env) (fun o s₁=>wpAny (model prog w) A (eval slice env) (fun i s₂=>s₂.TypeIs o T∧wpAny (model prog w) A (getItem o i) Q E s₂) E s₁) E s) :
  wpAny (model prog w) A (eval (.Subscript value slice pos) env) Q E s:=by
 refine Subscript_ (wpAny_mono h (fun o s₁ h₁=>wpAny_mono h₁ (fun i s₂ h₂=>?_) fun _ _ x=>x) fun _ _ x=>x);obtain ⟨hT,h₂⟩:=h₂;unfold subscriptTail;refine wpAny_bind ?_;rw [getitemInPython_of_ne hT.not_modules];refine wpAny_bind (wpAny_specialOf hT hl ?_)
 have fin:wpAny (model prog w) A (subscripted slice false o i) (fun r s₃=>wpAny (model prog w) A (letTemporaryGo value o r >>= fun _=>pure r) Q E s₃) E s₂:=by
  rw [hs o i];exact wpAny_operating (wpAny_mono h₂ (fun r s₃ h₃=>wpAny_bind (wpAny_letTemporaryGo (wpAny_pure h₃))) fun _ _ x=>x)
 first
  | exact wpAny_pure (wpAny_bind fin)
  | exact wpAny_bind (wpAny_pure (wpAny_bind fin))
  | exact wpAny_bind fin
theorem dict_typeIs {X:Cx} {pins:List (Addr×Obj)} {σ : St} {H:Hp} {s:Shared} {a:Addr} {y:V} {o:Option V} (I:Inv X pins σ H s) (g:DGet H a y o):s.TypeIs (.ref a) "dict":=by
 rcases g with ⟨kvs,k,e,_,_⟩ | ⟨kvs,k,b,e,_,_,_⟩
 ·obtain ⟨_,_,vs,_,dd⟩:=dk_rd I.hok e;exact dd.typeIs
 ·obtain ⟨_,_,xs,_,dd⟩:=dt_rd I.hok e;exact dd.typeIs
def tDGet(td ty:TE):TE:=fun σ H Q=>td σ H fun x H1=>ty σ H1 fun y H2=>∃a v,x = .ref a∧DGet H2 a y (some v)∧Q v H2
def sDPut(td ty tv:TE):TS:=fun D σ H=>tv σ H fun v H1=>td σ H1 fun x H2=>ty σ H2 fun y H3=>∃a H4,x = .ref a∧DPut H3 a y v H4∧D.nx σ H4
section
variable{X:Cx}{o i e value:Expr}{pos pos' tpos:Pos}{td ty tv:TE}
theorem pe_dget(hu:X.A.units+1 < cLine)(ho:PE X o td)(hi:PE X i ty)(hs:NoSl i):PE X (.Subscript o i pos) (tDGet td ty):=by
 intro pins s σ H Q I h;refine subD_of PySem.F.slot_dict_getitem.lookup hs (thn (ho pins s σ H _ I h) fun u s1 ⟨x,H1,I1,rx,q1⟩=>thn (hi pins s1 σ H1 _ I1 q1) fun iv s2 ⟨y,H2,I2,ry,a,v,ex,g,q2⟩=>?_);subst ex;obtain rfl:u=Value.ref a:=rx;exact ⟨dict_typeIs I2 g,d_getItem hu I2 g ry fun w' s3 I3 rw'=>⟨v,H2,I3,rw',q2⟩⟩
theorem ps_dput(hu:X.A.units+1 < cLine)(ho:PE X o td)(hi:PE X i ty)(hv:PE X value tv)(hs:swapsWith value (some (.Subscript o i pos')) pos.line X.env=pure false) :
  PS X (.Assign [.Subscript o i pos'] value pos) (sDPut td ty tv):=by
 intro pins s σ H D I h;refine wpAny_Assign_Subscript (thn (hv pins s σ H _ I h) fun r s1 ⟨v,H1,I1,rv,q1⟩=>thn (ho pins s1 σ H1 _ I1 q1) fun u s2 ⟨x,H2,I2,rx,q2⟩=>thn (hi pins s2 σ H2 _ I2 q2) fun iv s3 ⟨y,H3,I3,ry,a,H4,ex,g,q3⟩=>?_) hs;subst ex;obtain rfl:u=Value.ref a:=rx;exact d_setItem hu I3 g ry rv fun s4 I4=>⟨σ,H4,I4,q3⟩
end
theorem dt_empty {P:Program} {w:World} {H:Hp} (h:Heap) (hb:sysModules < h.objs.size):ObjOk P w H (h.push { cls:=.type "dict",data:=.dict #[] }) h.objs.size (.dT []) :=
 ⟨Nat.zero_le _,beq_eq_false_iff_ne.mpr (Ne.symm (Nat.ne_of_lt hb)),[],.nil,_,#[],0,Heap.get?_push_size _ rfl,⟨rfl,rfl,rfl⟩,rfl,rfl,List.nodup_nil⟩
def tDNewT:TE:=fun _ H Q=>∀p,H p=none→Q (.ref p) (upd H p (.dT []))
section
variable{X:Cx}{pos:Pos}
theorem pe_dnewT:PE X (.Dict [] [] pos) tDNewT:=fun pins s σ H Q I h =>
 wpAny_Dict_empty ⟨.ref s.heap.objs.size,_,I.laid (a:=s.heap.objs.size) (o:=.dT []) (t':=s.toks) (fun _ _ q=>Heap.get?_push_of_some _ q) (Nat.le_refl _) (dt_empty s.heap I.big),rfl,h _ (I.hok.fresh (Nat.le_refl _))⟩
end
section
variable{X:Cx}{pins:List (Addr×Obj)}{σ : St}{H:Hp}{s:Shared}{a:Addr}{y d:V}{u r:Value}{o:Option V}{A:Around}{E:Value→Shared→Prop}
end
section
variable{X:Cx}{o e f:Expr}{apos cpos:Pos}{td ty tx:TE}
end
section
variable{X:Cx}{pins:List (Addr×Obj)}{σ : St}{H:Hp}{s:Shared}{a:Addr}{kvs:List (Key×V)}{A:Around}{E:Value→Shared→Prop}
end
section
variable{X:Cx}{pins:List (Addr×Obj)}{σ : St}{H:Hp}{s:Shared}{a:Addr}{y:V}{u:Value}{A:Around}{E:Value→Shared→Prop}
end
section
variable{X:Cx}
end
end L2
set_option Elab.async false
set_option linter.all false
set_option maxRecDepth 100000
set_option maxHeartbeats 4000000
namespace K81H
open PySem PySem.Spec PyProof.Rows L2
def top(i:Nat):Stmt:=PySem.Challenge.pw_vesselhall_k81_the_lack.main.body.getD i (.Pass ⟨0,0,0,0⟩)
def spLaw(K:Fg):Sp:=fun vs H Q _=>∃(a:Addr) (ns:List Int),vs=[.ref a]∧SqL K H a (ns.map V.int)∧ns.length≤63∧∀H',Q (.bl true) H'
theorem walk{l:PySem.W.OpenLaw}{q:Program}{loose:List Str}{XP:(Str→Option Value)→Heap→Prop}{YP:World→Heap→Prop}{d:DefRec}{K:Params→PySem.W.Frag}(hn:l.most=some 63)(hdf:d.params.defaults=[])
  (hY:∀(w:World) (h:Heap),YP w h→(K w.params).In h)
  (F:∀(w:World) (mg:Str→Option Value) (fa:Addr) (h:Heap),(K w.params).In h→h.Ns mainGlobals mg→mg d.name=some (.ref fa) →
   ∃fd:FuncData,(∀(s:Shared) (u:Value),BindsTo s fd ⟨[u],[]⟩ [("_law_script",u)])∧∀base:Heap,(K w.params).In base→base.Ns mainGlobals mg→FnOk l.prog w (K w.params) mg base CX0 9 fa fd ["_law_script"] (spLaw (K w.params))) :
  PySem.W.WalkO q loose XP YP l.row.toRowW d [] (fun f vs=>PySem.call f vs) :=
 L2.walk_of (n:=63) (k:=9) (x:="_law_script") (CX:=fun _=>CX0) (sp:=fun w=>spLaw (K w.params)) hn (by decide) hdf ⟨rfl,by decide,by decide⟩ hY F (fun _ _ a ns hl _ hS=>⟨a,ns,rfl,hS,hl,fun _=>rfl⟩) fun _ _ _ _ _ z=>z
open PySem.W in
set_option maxRecDepth 100000 in
set_option maxHeartbeats 0 in
theorem headed (hW:∀{w:World} {K:Fg} {h:Heap} {mg:Str→Option Value} {fa f0 f1 f2 f3 f4 f5 f6 f7 f8 f9 f10 f11 f12 f13 f14 f15 f16 f17 f18 f19 f20 f21 f22 f23 f24 f25 f26 f27 f28 f29 f30 f31 f32 f33 f34 f35 f36 f37 f38 f39 f40 f41 f42 f43:Addr} (X:K.In h) (G:h.Ns mainGlobals mg) (hfa:mg "law" = some (.ref fa))
  {od0 an0 od1 an1 od2 an2 od3 an3 od4 an4 od5 an5 od6 an6 od7 an7 od8 an8 od9 an9 od10 an10 od11 an11 od12 an12 od13 an13 od14 an14 od15 an15 od16 an16 od17 an17 od18 an18 od19 an19 od20 an20 od21 an21 od22 an22 od23 an23 od24 an24 od25 an25 od26 an26 od27 an27 od28 an28 od29 an29 od30 an30 od31 an31 od32 an32 od33 an33 od34 an34 od35 an35 od36 an36 od37 an37 od38 an38 od39 an39 od40 an40 od41 an41 od42 an42 od43 an43:Option Addr} {sl0 sl1 sl2 sl3 sl4 sl5 sl6 sl7 sl8 sl9 sl10 sl11 sl12 sl13 sl14 sl15 sl16 sl17 sl18 sl19 sl20 sl21 sl22 sl23 sl24 sl25 sl26 sl27 sl28 sl29 sl30 sl31 sl32 sl33 sl34 sl35 sl36 sl37 sl38 sl39 sl40 sl41 sl42 sl43:Array (Option Value)} {oc0 kV0 dc0 pm0 cd0 ct0 oc1 kV1 dc1 pm1 cd1 ct1 oc2 kV2 dc2 pm2 cd2 ct2 oc3 kV3 dc3 pm3 cd3 ct3 oc4 kV4 dc4 pm4 cd4 ct4 oc5 kV5 dc5 pm5 cd5 ct5 oc6 kV6 dc6 pm6 cd6 ct6 oc7 kV7 dc7 pm7 cd7 ct7 oc8 kV8 dc8 pm8 cd8 ct8 oc9 kV9 dc9 pm9 cd9 ct9 oc10 kV10 dc10 pm10 cd10 ct10 oc11 kV11 dc11 pm11 cd11 ct11 oc12 kV12 dc12 pm12 cd12 ct12 oc13 kV13 dc13 pm13 cd13 ct13 oc14 kV14 dc14 pm14 cd14 ct14 oc15 kV15 dc15 pm15 cd15 ct15 oc16 kV16 dc16 pm16 cd16 ct16 oc17 kV17 dc17 pm17 cd17 ct17 oc18 kV18 dc18 pm18 cd18 ct18 oc19 kV19 dc19 pm19 cd19 ct19 oc20 kV20 dc20 pm20 cd20 ct20 oc21 kV21 dc21 pm21 cd21 ct21 oc22 kV22 dc22 pm22 cd22 ct22 oc23 kV23 dc23 pm23 cd23 ct23 oc24 kV24 dc24 pm24 cd24 ct24 oc25 kV25 dc25 pm25 cd25 ct25 oc26 kV26 dc26 pm26 cd26 ct26 oc27 kV27 dc27 pm27 cd27 ct27 oc28 kV28 dc28 pm28 cd28 ct28 oc29 kV29 dc29 pm29 cd29 ct29 oc30 kV30 dc30 pm30 cd30 ct30 oc31 kV31 dc31 pm31 cd31 ct31 oc32 kV32 dc32 pm32 cd32 ct32 oc33 kV33 dc33 pm33 cd33 ct33 oc34 kV34 dc34 pm34 cd34 ct34 oc35 kV35 dc35 pm35 cd35 ct35 oc36 kV36 dc36 pm36 cd36 ct36 oc37 kV37 dc37 pm37 cd37 ct37 oc38 kV38 dc38 pm38 cd38 ct38 oc39 kV39 dc39 pm39 cd39 ct39 oc40 kV40 dc40 pm40 cd40 ct40 oc41 kV41 dc41 pm41 cd41 ct41 oc42 kV42 dc42 pm42 cd42 ct42 oc43 kV43 dc43 pm43 cd43 ct43:Value}
  (a0:PySem.W.nsIn K mainGlobals "whole" = some (some (.ref f0))) (l0:K.lookup f0=some ⟨oc0,od0,.func (PySem.W.fnOf "whole" "whole" (defArgs (top 4)) (defBody (top 4)) (defScope (top 4)) .none kV0 dc0 pm0 an0 cd0 ct0),sl0⟩) (c0:PySem.W.codeIn K cd0 "whole" = true) (k0:PySem.W.keepIn K (.ref f0)=true)
  (a1:PySem.W.nsIn K mainGlobals "greatest_divisor" = some (some (.ref f1))) (l1:K.lookup f1=some ⟨oc1,od1,.func (PySem.W.fnOf "greatest_divisor" "greatest_divisor" (defArgs (top 5)) (defBody (top 5)) (defScope (top 5)) .none kV1 dc1 pm1 an1 cd1 ct1),sl1⟩) (c1:PySem.W.codeIn K cd1 "greatest_divisor" = true) (k1:PySem.W.keepIn K (.ref f1)=true)
  (a2:PySem.W.nsIn K mainGlobals "first_place" = some (some (.ref f2))) (l2:K.lookup f2=some ⟨oc2,od2,.func (PySem.W.fnOf "first_place" "first_place" (defArgs (top 7)) (defBody (top 7)) (defScope (top 7)) .none kV2 dc2 pm2 an2 cd2 ct2),sl2⟩) (c2:PySem.W.codeIn K cd2 "first_place" = true) (k2:PySem.W.keepIn K (.ref f2)=true)
  (a3:PySem.W.nsIn K mainGlobals "unit_row" = some (some (.ref f3))) (l3:K.lookup f3=some ⟨oc3,od3,.func (PySem.W.fnOf "unit_row" "unit_row" (defArgs (top 8)) (defBody (top 8)) (defScope (top 8)) .none kV3 dc3 pm3 an3 cd3 ct3),sl3⟩) (c3:PySem.W.codeIn K cd3 "unit_row" = true) (k3:PySem.W.keepIn K (.ref f3)=true)
  (a4:PySem.W.nsIn K mainGlobals "unit_rows" = some (some (.ref f4))) (l4:K.lookup f4=some ⟨oc4,od4,.func (PySem.W.fnOf "unit_rows" "unit_rows" (defArgs (top 9)) (defBody (top 9)) (defScope (top 9)) .none kV4 dc4 pm4 an4 cd4 ct4),sl4⟩) (c4:PySem.W.codeIn K cd4 "unit_rows" = true) (k4:PySem.W.keepIn K (.ref f4)=true)
  (a5:PySem.W.nsIn K mainGlobals "common_divisor" = some (some (.ref f5))) (l5:K.lookup f5=some ⟨oc5,od5,.func (PySem.W.fnOf "common_divisor" "common_divisor" (defArgs (top 10)) (defBody (top 10)) (defScope (top 10)) .none kV5 dc5 pm5 an5 cd5 ct5),sl5⟩) (c5:PySem.W.codeIn K cd5 "common_divisor" = true) (k5:PySem.W.keepIn K (.ref f5)=true)
  (a6:PySem.W.nsIn K mainGlobals "lowest" = some (some (.ref f6))) (l6:K.lookup f6=some ⟨oc6,od6,.func (PySem.W.fnOf "lowest" "lowest" (defArgs (top 11)) (defBody (top 11)) (defScope (top 11)) .none kV6 dc6 pm6 an6 cd6 ct6),sl6⟩) (c6:PySem.W.codeIn K cd6 "lowest" = true) (k6:PySem.W.keepIn K (.ref f6)=true)
  (a7:PySem.W.nsIn K mainGlobals "cleared" = some (some (.ref f7))) (l7:K.lookup f7=some ⟨oc7,od7,.func (PySem.W.fnOf "cleared" "cleared" (defArgs (top 12)) (defBody (top 12)) (defScope (top 12)) .none kV7 dc7 pm7 an7 cd7 ct7),sl7⟩) (c7:PySem.W.codeIn K cd7 "cleared" = true) (k7:PySem.W.keepIn K (.ref f7)=true)
  (a8:PySem.W.nsIn K mainGlobals "sifted" = some (some (.ref f8))) (l8:K.lookup f8=some ⟨oc8,od8,.func (PySem.W.fnOf "sifted" "sifted" (defArgs (top 13)) (defBody (top 13)) (defScope (top 13)) .none kV8 dc8 pm8 an8 cd8 ct8),sl8⟩) (c8:PySem.W.codeIn K cd8 "sifted" = true) (k8:PySem.W.keepIn K (.ref f8)=true)
  (a9:PySem.W.nsIn K mainGlobals "free_places" = some (some (.ref f9))) (l9:K.lookup f9=some ⟨oc9,od9,.func (PySem.W.fnOf "free_places" "free_places" (defArgs (top 14)) (defBody (top 14)) (defScope (top 14)) .none kV9 dc9 pm9 an9 cd9 ct9),sl9⟩) (c9:PySem.W.codeIn K cd9 "free_places" = true) (k9:PySem.W.keepIn K (.ref f9)=true)
  (a10:PySem.W.nsIn K mainGlobals "nought_makers" = some (some (.ref f10))) (l10:K.lookup f10=some ⟨oc10,od10,.func (PySem.W.fnOf "nought_makers" "nought_makers" (defArgs (top 15)) (defBody (top 15)) (defScope (top 15)) .none kV10 dc10 pm10 an10 cd10 ct10),sl10⟩) (c10:PySem.W.codeIn K cd10 "nought_makers" = true) (k10:PySem.W.keepIn K (.ref f10)=true)
  (a11:PySem.W.nsIn K mainGlobals "heaps_of" = some (some (.ref f11))) (l11:K.lookup f11=some ⟨oc11,od11,.func (PySem.W.fnOf "heaps_of" "heaps_of" (defArgs (top 17)) (defBody (top 17)) (defScope (top 17)) .none kV11 dc11 pm11 an11 cd11 ct11),sl11⟩) (c11:PySem.W.codeIn K cd11 "heaps_of" = true) (k11:PySem.W.keepIn K (.ref f11)=true)
  (a12:PySem.W.nsIn K mainGlobals "heaps" = some (some (.ref f12))) (l12:K.lookup f12=some ⟨oc12,od12,.func (PySem.W.fnOf "heaps" "heaps" (defArgs (top 18)) (defBody (top 18)) (defScope (top 18)) .none kV12 dc12 pm12 an12 cd12 ct12),sl12⟩) (c12:PySem.W.codeIn K cd12 "heaps" = true) (k12:PySem.W.keepIn K (.ref f12)=true)
  (a13:PySem.W.nsIn K mainGlobals "turning_at" = some (some (.ref f13))) (l13:K.lookup f13=some ⟨oc13,od13,.func (PySem.W.fnOf "turning_at" "turning_at" (defArgs (top 19)) (defBody (top 19)) (defScope (top 19)) .none kV13 dc13 pm13 an13 cd13 ct13),sl13⟩) (c13:PySem.W.codeIn K cd13 "turning_at" = true) (k13:PySem.W.keepIn K (.ref f13)=true)
  (a14:PySem.W.nsIn K mainGlobals "change" = some (some (.ref f14))) (l14:K.lookup f14=some ⟨oc14,od14,.func (PySem.W.fnOf "change" "change" (defArgs (top 20)) (defBody (top 20)) (defScope (top 20)) .none kV14 dc14 pm14 an14 cd14 ct14),sl14⟩) (c14:PySem.W.codeIn K cd14 "change" = true) (k14:PySem.W.keepIn K (.ref f14)=true)
  (a15:PySem.W.nsIn K mainGlobals "changes" = some (some (.ref f15))) (l15:K.lookup f15=some ⟨oc15,od15,.func (PySem.W.fnOf "changes" "changes" (defArgs (top 21)) (defBody (top 21)) (defScope (top 21)) .none kV15 dc15 pm15 an15 cd15 ct15),sl15⟩) (c15:PySem.W.codeIn K cd15 "changes" = true) (k15:PySem.W.keepIn K (.ref f15)=true)
  (a16:PySem.W.nsIn K mainGlobals "free" = some (some (.ref f16))) (l16:K.lookup f16=some ⟨oc16,od16,.func (PySem.W.fnOf "free" "free" (defArgs (top 23)) (defBody (top 23)) (defScope (top 23)) .none kV16 dc16 pm16 an16 cd16 ct16),sl16⟩) (c16:PySem.W.codeIn K cd16 "free" = true) (k16:PySem.W.keepIn K (.ref f16)=true)
  (a17:PySem.W.nsIn K mainGlobals "heap_numbers" = some (some (.ref f17))) (l17:K.lookup f17=some ⟨oc17,od17,.func (PySem.W.fnOf "heap_numbers" "heap_numbers" (defArgs (top 25)) (defBody (top 25)) (defScope (top 25)) .none kV17 dc17 pm17 an17 cd17 ct17),sl17⟩) (c17:PySem.W.codeIn K cd17 "heap_numbers" = true) (k17:PySem.W.keepIn K (.ref f17)=true)
  (a18:PySem.W.nsIn K mainGlobals "places_of" = some (some (.ref f18))) (l18:K.lookup f18=some ⟨oc18,od18,.func (PySem.W.fnOf "places_of" "places_of" (defArgs (top 26)) (defBody (top 26)) (defScope (top 26)) .none kV18 dc18 pm18 an18 cd18 ct18),sl18⟩) (c18:PySem.W.codeIn K cd18 "places_of" = true) (k18:PySem.W.keepIn K (.ref f18)=true)
  (a19:PySem.W.nsIn K mainGlobals "lots" = some (some (.ref f19))) (l19:K.lookup f19=some ⟨oc19,od19,.func (PySem.W.fnOf "lots" "lots" (defArgs (top 27)) (defBody (top 27)) (defScope (top 27)) .none kV19 dc19 pm19 an19 cd19 ct19),sl19⟩) (c19:PySem.W.codeIn K cd19 "lots" = true) (k19:PySem.W.keepIn K (.ref f19)=true)
  (a20:PySem.W.nsIn K mainGlobals "lack" = some (some (.ref f20))) (l20:K.lookup f20=some ⟨oc20,od20,.func (PySem.W.fnOf "lack" "lack" (defArgs (top 29)) (defBody (top 29)) (defScope (top 29)) .none kV20 dc20 pm20 an20 cd20 ct20),sl20⟩) (c20:PySem.W.codeIn K cd20 "lack" = true) (k20:PySem.W.keepIn K (.ref f20)=true)
  (a21:PySem.W.nsIn K mainGlobals "lot_marks" = some (some (.ref f21))) (l21:K.lookup f21=some ⟨oc21,od21,.func (PySem.W.fnOf "lot_marks" "lot_marks" (defArgs (top 30)) (defBody (top 30)) (defScope (top 30)) .none kV21 dc21 pm21 an21 cd21 ct21),sl21⟩) (c21:PySem.W.codeIn K cd21 "lot_marks" = true) (k21:PySem.W.keepIn K (.ref f21)=true)
  (a22:PySem.W.nsIn K mainGlobals "lack_rows" = some (some (.ref f22))) (l22:K.lookup f22=some ⟨oc22,od22,.func (PySem.W.fnOf "lack_rows" "lack_rows" (defArgs (top 31)) (defBody (top 31)) (defScope (top 31)) .none kV22 dc22 pm22 an22 cd22 ct22),sl22⟩) (c22:PySem.W.codeIn K cd22 "lack_rows" = true) (k22:PySem.W.keepIn K (.ref f22)=true)
  (a23:PySem.W.nsIn K mainGlobals "_law_cell_at" = some (some (.ref f23))) (l23:K.lookup f23=some ⟨oc23,od23,.func (PySem.W.fnOf "_law_cell_at" "_law_cell_at" (defArgs (top 33)) (defBody (top 33)) (defScope (top 33)) .none kV23 dc23 pm23 an23 cd23 ct23),sl23⟩) (c23:PySem.W.codeIn K cd23 "_law_cell_at" = true) (k23:PySem.W.keepIn K (.ref f23)=true)
  (a24:PySem.W.nsIn K mainGlobals "_law_mixed" = some (some (.ref f24))) (l24:K.lookup f24=some ⟨oc24,od24,.func (PySem.W.fnOf "_law_mixed" "_law_mixed" (defArgs (top 34)) (defBody (top 34)) (defScope (top 34)) .none kV24 dc24 pm24 an24 cd24 ct24),sl24⟩) (c24:PySem.W.codeIn K cd24 "_law_mixed" = true) (k24:PySem.W.keepIn K (.ref f24)=true)
  (a25:PySem.W.nsIn K mainGlobals "_law_divisor" = some (some (.ref f25))) (l25:K.lookup f25=some ⟨oc25,od25,.func (PySem.W.fnOf "_law_divisor" "_law_divisor" (defArgs (top 35)) (defBody (top 35)) (defScope (top 35)) .none kV25 dc25 pm25 an25 cd25 ct25),sl25⟩) (c25:PySem.W.codeIn K cd25 "_law_divisor" = true) (k25:PySem.W.keepIn K (.ref f25)=true)
  (a26:PySem.W.nsIn K mainGlobals "_law_lowest" = some (some (.ref f26))) (l26:K.lookup f26=some ⟨oc26,od26,.func (PySem.W.fnOf "_law_lowest" "_law_lowest" (defArgs (top 36)) (defBody (top 36)) (defScope (top 36)) .none kV26 dc26 pm26 an26 cd26 ct26),sl26⟩) (c26:PySem.W.codeIn K cd26 "_law_lowest" = true) (k26:PySem.W.keepIn K (.ref f26)=true)
  (a27:PySem.W.nsIn K mainGlobals "_law_words" = some (some (.ref f27))) (l27:K.lookup f27=some ⟨oc27,od27,.func (PySem.W.fnOf "_law_words" "_law_words" (defArgs (top 37)) (defBody (top 37)) (defScope (top 37)) .none kV27 dc27 pm27 an27 cd27 ct27),sl27⟩) (c27:PySem.W.codeIn K cd27 "_law_words" = true) (k27:PySem.W.keepIn K (.ref f27)=true)
  (a28:PySem.W.nsIn K mainGlobals "_law_heap" = some (some (.ref f28))) (l28:K.lookup f28=some ⟨oc28,od28,.func (PySem.W.fnOf "_law_heap" "_law_heap" (defArgs (top 38)) (defBody (top 38)) (defScope (top 38)) .none kV28 dc28 pm28 an28 cd28 ct28),sl28⟩) (c28:PySem.W.codeIn K cd28 "_law_heap" = true) (k28:PySem.W.keepIn K (.ref f28)=true)
  (a29:PySem.W.nsIn K mainGlobals "_law_pool" = some (some (.ref f29))) (l29:K.lookup f29=some ⟨oc29,od29,.func (PySem.W.fnOf "_law_pool" "_law_pool" (defArgs (top 39)) (defBody (top 39)) (defScope (top 39)) .none kV29 dc29 pm29 an29 cd29 ct29),sl29⟩) (c29:PySem.W.codeIn K cd29 "_law_pool" = true) (k29:PySem.W.keepIn K (.ref f29)=true)
  (a30:PySem.W.nsIn K mainGlobals "_law_pairs" = some (some (.ref f30))) (l30:K.lookup f30=some ⟨oc30,od30,.func (PySem.W.fnOf "_law_pairs" "_law_pairs" (defArgs (top 40)) (defBody (top 40)) (defScope (top 40)) .none kV30 dc30 pm30 an30 cd30 ct30),sl30⟩) (c30:PySem.W.codeIn K cd30 "_law_pairs" = true) (k30:PySem.W.keepIn K (.ref f30)=true)
  (a31:PySem.W.nsIn K mainGlobals "_law_pace" = some (some (.ref f31))) (l31:K.lookup f31=some ⟨oc31,od31,.func (PySem.W.fnOf "_law_pace" "_law_pace" (defArgs (top 41)) (defBody (top 41)) (defScope (top 41)) .none kV31 dc31 pm31 an31 cd31 ct31),sl31⟩) (c31:PySem.W.codeIn K cd31 "_law_pace" = true) (k31:PySem.W.keepIn K (.ref f31)=true)
  (a32:PySem.W.nsIn K mainGlobals "_law_vessel" = some (some (.ref f32))) (l32:K.lookup f32=some ⟨oc32,od32,.func (PySem.W.fnOf "_law_vessel" "_law_vessel" (defArgs (top 42)) (defBody (top 42)) (defScope (top 42)) .none kV32 dc32 pm32 an32 cd32 ct32),sl32⟩) (c32:PySem.W.codeIn K cd32 "_law_vessel" = true) (k32:PySem.W.keepIn K (.ref f32)=true)
  (a33:PySem.W.nsIn K mainGlobals "_law_whole" = some (some (.ref f33))) (l33:K.lookup f33=some ⟨oc33,od33,.func (PySem.W.fnOf "_law_whole" "_law_whole" (defArgs (top 43)) (defBody (top 43)) (defScope (top 43)) .none kV33 dc33 pm33 an33 cd33 ct33),sl33⟩) (c33:PySem.W.codeIn K cd33 "_law_whole" = true) (k33:PySem.W.keepIn K (.ref f33)=true)
  (a34:PySem.W.nsIn K mainGlobals "_law_heaps" = some (some (.ref f34))) (l34:K.lookup f34=some ⟨oc34,od34,.func (PySem.W.fnOf "_law_heaps" "_law_heaps" (defArgs (top 44)) (defBody (top 44)) (defScope (top 44)) .none kV34 dc34 pm34 an34 cd34 ct34),sl34⟩) (c34:PySem.W.codeIn K cd34 "_law_heaps" = true) (k34:PySem.W.keepIn K (.ref f34)=true)
  (a35:PySem.W.nsIn K mainGlobals "_law_ends" = some (some (.ref f35))) (l35:K.lookup f35=some ⟨oc35,od35,.func (PySem.W.fnOf "_law_ends" "_law_ends" (defArgs (top 45)) (defBody (top 45)) (defScope (top 45)) .none kV35 dc35 pm35 an35 cd35 ct35),sl35⟩) (c35:PySem.W.codeIn K cd35 "_law_ends" = true) (k35:PySem.W.keepIn K (.ref f35)=true)
  (a36:PySem.W.nsIn K mainGlobals "_law_changes" = some (some (.ref f36))) (l36:K.lookup f36=some ⟨oc36,od36,.func (PySem.W.fnOf "_law_changes" "_law_changes" (defArgs (top 46)) (defBody (top 46)) (defScope (top 46)) .none kV36 dc36 pm36 an36 cd36 ct36),sl36⟩) (c36:PySem.W.codeIn K cd36 "_law_changes" = true) (k36:PySem.W.keepIn K (.ref f36)=true)
  (a37:PySem.W.nsIn K mainGlobals "_law_reach" = some (some (.ref f37))) (l37:K.lookup f37=some ⟨oc37,od37,.func (PySem.W.fnOf "_law_reach" "_law_reach" (defArgs (top 47)) (defBody (top 47)) (defScope (top 47)) .none kV37 dc37 pm37 an37 cd37 ct37),sl37⟩) (c37:PySem.W.codeIn K cd37 "_law_reach" = true) (k37:PySem.W.keepIn K (.ref f37)=true)
  (a38:PySem.W.nsIn K mainGlobals "_law_size" = some (some (.ref f38))) (l38:K.lookup f38=some ⟨oc38,od38,.func (PySem.W.fnOf "_law_size" "_law_size" (defArgs (top 48)) (defBody (top 48)) (defScope (top 48)) .none kV38 dc38 pm38 an38 cd38 ct38),sl38⟩) (c38:PySem.W.codeIn K cd38 "_law_size" = true) (k38:PySem.W.keepIn K (.ref f38)=true)
  (a39:PySem.W.nsIn K mainGlobals "_law_good_row" = some (some (.ref f39))) (l39:K.lookup f39=some ⟨oc39,od39,.func (PySem.W.fnOf "_law_good_row" "_law_good_row" (defArgs (top 49)) (defBody (top 49)) (defScope (top 49)) .none kV39 dc39 pm39 an39 cd39 ct39),sl39⟩) (c39:PySem.W.codeIn K cd39 "_law_good_row" = true) (k39:PySem.W.keepIn K (.ref f39)=true)
  (a40:PySem.W.nsIn K mainGlobals "_law_nought" = some (some (.ref f40))) (l40:K.lookup f40=some ⟨oc40,od40,.func (PySem.W.fnOf "_law_nought" "_law_nought" (defArgs (top 50)) (defBody (top 50)) (defScope (top 50)) .none kV40 dc40 pm40 an40 cd40 ct40),sl40⟩) (c40:PySem.W.codeIn K cd40 "_law_nought" = true) (k40:PySem.W.keepIn K (.ref f40)=true)
  (a41:PySem.W.nsIn K mainGlobals "_law_basis" = some (some (.ref f41))) (l41:K.lookup f41=some ⟨oc41,od41,.func (PySem.W.fnOf "_law_basis" "_law_basis" (defArgs (top 51)) (defBody (top 51)) (defScope (top 51)) .none kV41 dc41 pm41 an41 cd41 ct41),sl41⟩) (c41:PySem.W.codeIn K cd41 "_law_basis" = true) (k41:PySem.W.keepIn K (.ref f41)=true)
  (a42:PySem.W.nsIn K mainGlobals "_law_lots" = some (some (.ref f42))) (l42:K.lookup f42=some ⟨oc42,od42,.func (PySem.W.fnOf "_law_lots" "_law_lots" (defArgs (top 52)) (defBody (top 52)) (defScope (top 52)) .none kV42 dc42 pm42 an42 cd42 ct42),sl42⟩) (c42:PySem.W.codeIn K cd42 "_law_lots" = true) (k42:PySem.W.keepIn K (.ref f42)=true)
  (a43:PySem.W.nsIn K mainGlobals "law" = some (some (.ref f43))) (l43:K.lookup f43=some ⟨oc43,od43,.func (PySem.W.fnOf "law" "law" (defArgs (top 53)) (defBody (top 53)) (defScope (top 53)) .none kV43 dc43 pm43 an43 cd43 ct43),sl43⟩) (c43:PySem.W.codeIn K cd43 "law" = true) (k43:PySem.W.keepIn K (.ref f43)=true)
  (z_len:PySem.W.nsIn K mainGlobals "len" = some none)
  (z_abs:PySem.W.nsIn K mainGlobals "abs" = some none)
  (z_range:PySem.W.nsIn K mainGlobals "range" = some none)
  (z_isinstance:PySem.W.nsIn K mainGlobals "isinstance" = some none)
  (z_int:PySem.W.nsIn K mainGlobals "int" = some none)
  (z_bool:PySem.W.nsIn K mainGlobals "bool" = some none)
  (z_tuple:PySem.W.nsIn K mainGlobals "tuple" = some none)
  (z_list:PySem.W.nsIn K mainGlobals "list" = some none)
  (z_str:PySem.W.nsIn K mainGlobals "str" = some none)
  (z_zip:PySem.W.nsIn K mainGlobals "zip" = some none)
  (z_set:PySem.W.nsIn K mainGlobals "set" = some none)
  (z_all:PySem.W.nsIn K mainGlobals "all" = some none)
  (z_any:PySem.W.nsIn K mainGlobals "any" = some none)
  (z_min:PySem.W.nsIn K mainGlobals "min" = some none)
  (z_max:PySem.W.nsIn K mainGlobals "max" = some none)
  (z_sum:PySem.W.nsIn K mainGlobals "sum" = some none)
  (z_sorted:PySem.W.nsIn K mainGlobals "sorted" = some none)
  (z_enumerate:PySem.W.nsIn K mainGlobals "enumerate" = some none)
  (z_reversed:PySem.W.nsIn K mainGlobals "reversed" = some none)
  (z_dict:PySem.W.nsIn K mainGlobals "dict" = some none)
  (z_ord:PySem.W.nsIn K mainGlobals "ord" = some none)
  (z_divmod:PySem.W.nsIn K mainGlobals "divmod" = some none)
  ,∃fd:FuncData,(∀(s:Shared) (v:Value),BindsTo s fd ⟨[v],[]⟩ [("_law_script",v)])∧∀base:Heap,K.In base→base.Ns mainGlobals mg→FnOk PySem.Challenge.rw_vesselhall_k81_the_lack.prog w K mg base CX0 9 fa fd ["_law_script"] (spLaw K)):PySem.Challenge.rw_vesselhall_k81_the_lack.Holds:=by
 refine said ?_
 w_on
 refine PySem.W.holds_open (q:=qv) (loose:=[]) (Xt:=fun s=>PySem.W.xlAt qv [] s && PySem.W.recOk [] s) (XP:=PySem.W.XL qv []) (Yf:=PySem.W.Hook.obs (PySem.W.kHook pre.heap_1 asl asl_ok)) (Ya:=PySem.W.Hook.val (PySem.W.kHook pre.heap_1 asl asl_ok)) (YP:=PySem.W.Hook.says (PySem.W.kHook pre.heap_1 asl asl_ok)) (N:=3654) hooks (PySem.W.Hook.of (PySem.W.kHook pre.heap_1 asl asl_ok)) (PySem.W.Hook.keeps (PySem.W.kHook pre.heap_1 asl asl_ok)) (fun s e=>PySem.W.xl_of s (Bool.and_eq_true_iff.mp e).1) PySem.W.XL.keeps (by rfl) (by rfl) (by rfl) (fun s e=>PySem.W.recFacts_of (Bool.and_eq_true_iff.mp e).2) (by rfl) (by first | assumption | decide +kernel) (by decide +kernel) ⟨rfl,rfl,rfl,rfl,rfl,by decide +kernel⟩ ?_ ?_
 ·clear hW;w_witness2
 k_fill
 refine walk (l:=PySem.Challenge.rw_vesselhall_k81_the_lack) rfl rfl (fun w h Y=>PySem.W.kIn_of Y) ?F
 case F =>
  intro w mg fa h KX G hmg;refine' hW KX G hmg ?a0 ?l0 ?c0 ?k0 ?a1 ?l1 ?c1 ?k1 ?a2 ?l2 ?c2 ?k2 ?a3 ?l3 ?c3 ?k3 ?a4 ?l4 ?c4 ?k4 ?a5 ?l5 ?c5 ?k5 ?a6 ?l6 ?c6 ?k6 ?a7 ?l7 ?c7 ?k7 ?a8 ?l8 ?c8 ?k8 ?a9 ?l9 ?c9 ?k9 ?a10 ?l10 ?c10 ?k10 ?a11 ?l11 ?c11 ?k11 ?a12 ?l12 ?c12 ?k12 ?a13 ?l13 ?c13 ?k13 ?a14 ?l14 ?c14 ?k14 ?a15 ?l15 ?c15 ?k15 ?a16 ?l16 ?c16 ?k16 ?a17 ?l17 ?c17 ?k17 ?a18 ?l18 ?c18 ?k18 ?a19 ?l19 ?c19 ?k19 ?a20 ?l20 ?c20 ?k20 ?a21 ?l21 ?c21 ?k21 ?a22 ?l22 ?c22 ?k22 ?a23 ?l23 ?c23 ?k23 ?a24 ?l24 ?c24 ?k24 ?a25 ?l25 ?c25 ?k25 ?a26 ?l26 ?c26 ?k26 ?a27 ?l27 ?c27 ?k27 ?a28 ?l28 ?c28 ?k28 ?a29 ?l29 ?c29 ?k29 ?a30 ?l30 ?c30 ?k30 ?a31 ?l31 ?c31 ?k31 ?a32 ?l32 ?c32 ?k32 ?a33 ?l33 ?c33 ?k33 ?a34 ?l34 ?c34 ?k34 ?a35 ?l35 ?c35 ?k35 ?a36 ?l36 ?c36 ?k36 ?a37 ?l37 ?c37 ?k37 ?a38 ?l38 ?c38 ?k38 ?a39 ?l39 ?c39 ?k39 ?a40 ?l40 ?c40 ?k40 ?a41 ?l41 ?c41 ?k41 ?a42 ?l42 ?c42 ?k42 ?a43 ?l43 ?c43 ?k43 ?z_len ?z_abs ?z_range ?z_isinstance ?z_int ?z_bool ?z_tuple ?z_list ?z_str ?z_zip ?z_set ?z_all ?z_any ?z_min ?z_max ?z_sum ?z_sorted ?z_enumerate ?z_reversed ?z_dict ?z_ord ?z_divmod
  (case a0=>k_is)
  (case l0=>k_is)
  (case c0=>k_is)
  (case k0=>k_is)
  (case a1=>k_is)
  (case l1=>k_is)
  (case c1=>k_is)
  (case k1=>k_is)
  (case a2=>k_is)
  (case l2=>k_is)
  (case c2=>k_is)
  (case k2=>k_is)
  (case a3=>k_is)
  (case l3=>k_is)
  (case c3=>k_is)
  (case k3=>k_is)
  (case a4=>k_is)
  (case l4=>k_is)
  (case c4=>k_is)
  (case k4=>k_is)
  (case a5=>k_is)
  (case l5=>k_is)
  (case c5=>k_is)
  (case k5=>k_is)
  (case a6=>k_is)
  (case l6=>k_is)
  (case c6=>k_is)
  (case k6=>k_is)
  (case a7=>k_is)
  (case l7=>k_is)
  (case c7=>k_is)
  (case k7=>k_is)
  (case a8=>k_is)
  (case l8=>k_is)
  (case c8=>k_is)
  (case k8=>k_is)
  (case a9=>k_is)
  (case l9=>k_is)
  (case c9=>k_is)
  (case k9=>k_is)
  (case a10=>k_is)
  (case l10=>k_is)
  (case c10=>k_is)
  (case k10=>k_is)
  (case a11=>k_is)
  (case l11=>k_is)
  (case c11=>k_is)
  (case k11=>k_is)
  (case a12=>k_is)
  (case l12=>k_is)
  (case c12=>k_is)
  (case k12=>k_is)
  (case a13=>k_is)
  (case l13=>k_is)
  (case c13=>k_is)
  (case k13=>k_is)
  (case a14=>k_is)
  (case l14=>k_is)
  (case c14=>k_is)
  (case k14=>k_is)
  (case a15=>k_is)
  (case l15=>k_is)
  (case c15=>k_is)
  (case k15=>k_is)
  (case a16=>k_is)
  (case l16=>k_is)
  (case c16=>k_is)
  (case k16=>k_is)
  (case a17=>k_is)
  (case l17=>k_is)
  (case c17=>k_is)
  (case k17=>k_is)
  (case a18=>k_is)
  (case l18=>k_is)
  (case c18=>k_is)
  (case k18=>k_is)
  (case a19=>k_is)
  (case l19=>k_is)
  (case c19=>k_is)
  (case k19=>k_is)
  (case a20=>k_is)
  (case l20=>k_is)
  (case c20=>k_is)
  (case k20=>k_is)
  (case a21=>k_is)
  (case l21=>k_is)
  (case c21=>k_is)
  (case k21=>k_is)
  (case a22=>k_is)
  (case l22=>k_is)
  (case c22=>k_is)
  (case k22=>k_is)
  (case a23=>k_is)
  (case l23=>k_is)
  (case c23=>k_is)
  (case k23=>k_is)
  (case a24=>k_is)
  (case l24=>k_is)
  (case c24=>k_is)
  (case k24=>k_is)
  (case a25=>k_is)
  (case l25=>k_is)
  (case c25=>k_is)
  (case k25=>k_is)
  (case a26=>k_is)
  (case l26=>k_is)
  (case c26=>k_is)
  (case k26=>k_is)
  (case a27=>k_is)
  (case l27=>k_is)
  (case c27=>k_is)
  (case k27=>k_is)
  (case a28=>k_is)
  (case l28=>k_is)
  (case c28=>k_is)
  (case k28=>k_is)
  (case a29=>k_is)
  (case l29=>k_is)
  (case c29=>k_is)
  (case k29=>k_is)
  (case a30=>k_is)
  (case l30=>k_is)
  (case c30=>k_is)
  (case k30=>k_is)
  (case a31=>k_is)
  (case l31=>k_is)
  (case c31=>k_is)
  (case k31=>k_is)
  (case a32=>k_is)
  (case l32=>k_is)
  (case c32=>k_is)
  (case k32=>k_is)
  (case a33=>k_is)
  (case l33=>k_is)
  (case c33=>k_is)
  (case k33=>k_is)
  (case a34=>k_is)
  (case l34=>k_is)
  (case c34=>k_is)
  (case k34=>k_is)
  (case a35=>k_is)
  (case l35=>k_is)
  (case c35=>k_is)
  (case k35=>k_is)
  (case a36=>k_is)
  (case l36=>k_is)
  (case c36=>k_is)
  (case k36=>k_is)
  (case a37=>k_is)
  (case l37=>k_is)
  (case c37=>k_is)
  (case k37=>k_is)
  (case a38=>k_is)
  (case l38=>k_is)
  (case c38=>k_is)
  (case k38=>k_is)
  (case a39=>k_is)
  (case l39=>k_is)
  (case c39=>k_is)
  (case k39=>k_is)
  (case a40=>k_is)
  (case l40=>k_is)
  (case c40=>k_is)
  (case k40=>k_is)
  (case a41=>k_is)
  (case l41=>k_is)
  (case c41=>k_is)
  (case k41=>k_is)
  (case a42=>k_is)
  (case l42=>k_is)
  (case c42=>k_is)
  (case k42=>k_is)
  (case a43=>k_is)
  (case l43=>k_is)
  (case c43=>k_is)
  (case k43=>k_is)
  (case z_len=>k_is)
  (case z_abs=>k_is)
  (case z_range=>k_is)
  (case z_isinstance=>k_is)
  (case z_int=>k_is)
  (case z_bool=>k_is)
  (case z_tuple=>k_is)
  (case z_list=>k_is)
  (case z_str=>k_is)
  (case z_zip=>k_is)
  (case z_set=>k_is)
  (case z_all=>k_is)
  (case z_any=>k_is)
  (case z_min=>k_is)
  (case z_max=>k_is)
  (case z_sum=>k_is)
  (case z_sorted=>k_is)
  (case z_enumerate=>k_is)
  (case z_reversed=>k_is)
  (case z_dict=>k_is)
  (case z_ord=>k_is)
  (case z_divmod=>k_is)
end K81H
set_option Elab.async false
set_option linter.all false
set_option maxRecDepth 100000
set_option maxHeartbeats 4000000
namespace L2
open PySem PySem.Spec PyProof.Rows
section
variable{X:Cx}{a b c:Expr}{ta tb tc:TE}{pos:Pos}
def CDivW(_ j:Int):Prop:=j≠0∧j.natAbs < 2 ^ 9000
theorem op_fdivW:OpR X (binaryOp .FloorDiv) (rI CDivW fun i j=>.int (i.fdiv j)):=opI fun i j _ _ _ _ _ hc q=>by
 have h0:j.natAbs≠0:=by have:=hc.1;omega
 exact floordiv_int hc.1 q (.inl (PyProof.noPylong_of_log2 ((Nat.log2_lt h0).mpr hc.2)))
def CMulW(i j:Int):Prop:=i.natAbs < 2 ^ 20000∧j.natAbs < 2 ^ 20000
theorem CMulW.ok{i j:Int}(h:CMulW i j):IntMulOk i j:=by
 have h1:=PyProof.Rows.intBits_le h.1;have h2:=PyProof.Rows.intBits_le h.2;unfold IntMulOk
 have e:Builtin.Int.intTooBig ((Builtin.Int.intBits i:Int)+(Builtin.Int.intBits j:Int))=false:=by
  unfold Builtin.Int.intTooBig;refine decide_eq_false ?_
  have:(40000:Int)≤bitsLine:=by decide
  omega
 intro q;rw [e] at q;simp at q
theorem op_mulW:OpR X (binaryOp .Mult) (rI CMulW fun i j=>.int (i*j)):=opI fun _ _ _ _ _ _ _ hc q=>mul_int q hc.ok
theorem call_isi:CallR X (.builtin "isinstance") (fun xs H Q=>∃x n t b,xs=[x,.ty n]∧TyOf X.K H x t∧PySem.W.kitOne X.K t (.type n)=some b∧Q (.bl b) H):=by
 intro pins s σ H xs us Q I r h;obtain ⟨x,n,t,b,rfl,ty,e,q⟩:=h;obtain ⟨u,u',rfl,rx,ry⟩:=vals2 r;obtain rfl:u'=Value.type n:=ry;exact isinst_ok I rx ty e fun tk=>⟨.bl b,H,I.tok tk,rfl,q⟩
end
structure FnC (P:Program) (w:World) (K:Fg) (mg:Str→Option Value) (base:Heap) (CX:CXT) (k:Nat) (x:Str) (ps:List Str) (sp:Sp):Prop where
 ex:∃(f:Addr) (fd:FuncData),FnOk P w K mg base CX k f fd ps sp∧mg x=some (.ref f)∧PySem.W.keepIn K (.ref f)=true∧Binds K fd ps []
structure FunAt (K:Fg) (mg:Str→Option Value) (x:Str) (st:Stmt) (ps:List Str):Prop where
 ex:∃(f:Addr) (fd:FuncData),Fun K x x st f fd∧mg x=some (.ref f)∧Binds K fd ps []
section
variable{P:Program}{w:World}{K:Fg}{mg:Str→Option Value}{base:Heap}{CX:CXT}
theorem funAt_mk{h:Heap}{x:Str}{st:Stmt}{f:Addr}{ps:List Str}{oc:Value}{od an:Option Addr}{osl:Array (Option Value)}{kV doc pm cdv ct:Value}(X:K.In h)(G:h.Ns mainGlobals mg)
  (a:PySem.W.nsIn K mainGlobals x=some (some (.ref f))) (l:K.lookup f=some ⟨oc,od,.func (PySem.W.fnOf x x (defArgs st) (defBody st) (defScope st) .none kV doc pm an cdv ct),osl⟩)
  (c:PySem.W.codeIn K cdv x=true) (k:PySem.W.keepIn K (.ref f)=true)
  (hb:∀(kV doc pm:Value) (an:Option Addr) (cdv ct:Value) (us:List Value),us.length=ps.length→bindArgs (PySem.W.fnOf x x (defArgs st) (defBody st) (defScope st) .none kV doc pm an cdv ct) ⟨us,[]⟩=pure (ps.zip us)) :
  FunAt K mg x st ps:=by
 have F:=fun_mk (K:=K) (x:=x) (qual:=x) (st:=st) l c k;exact ⟨f,_,F,PySem.W.mg_of X G a,F.binds hb⟩
theorem FnC.mono{j k:Nat}{x:Str}{ps:List Str}{sp:Sp}(F:FnC P w K mg base CX j x ps sp)(h:j≤k):FnC P w K mg base CX k x ps sp :=
 let ⟨f,fd,G,r⟩:=F.ex
 ⟨f,fd,G.mono h,r⟩
theorem FunAt.ok{x:Str}{st:Stmt}{N ps:List Str}{k:Nat}{sp:Sp}(F:FunAt K mg x st ps)(S:FnScope N ps (defScope st))(len:∀vs H Q E,sp vs H Q E→vs.length=ps.length)
  (hbody:∀(f:Addr) (cdv:Value) (A:Around) (outer:List Env) (s:Shared) (H:Hp) (vs:List V) (Q:VK) (E:XK),Room k (A.deeper (envOfC x (defScope st) s.heap.objs.size f cdv))→sp vs H Q E →
   ∃t,PSs (cxOf CX0 P w K mg base N x (defScope st) f cdv A outer s H E).nox (defBody st) t∧t { nx:=fun _ H'=>Q .non H',rt:=Q } (start N vs) H):FnC P w K mg base CX0 (k+1) x ps sp:=by
 obtain ⟨f,fd,G,hm,hb⟩:=F.ex;exact ⟨f,fd,G.ok S len (hbody f),hm,G.kp,hb⟩
end
section
variable{X:Cx}{CX:CXT}{k:Nat}{ps:List Str}{sp:Sp}{E:XK}{x:Str}{p pos:Pos}{e:Expr}{es:List Expr}{t:TA}
theorem pe_callX(F:FnC X.prog X.w X.K X.mg X.base CX k x ps sp)(hr:Room k X.A)(hg:Gl X x)(hx:Passes CX X E)(ha:PA X (e :: es) t)
  (hdb:(x == ("__debug__" : Str))=false:=by decide) (he:starEach (e :: es) X.env=(false,eval e X.env) :: starEach es X.env:=by rfl) (hpl:(backTo pos (starEach es X.env)).any (·.1)=false:=by rfl) :
  PE X (.Call (.Name x p) (e :: es) [] pos) (tCall sp [] E t):=by
 obtain ⟨f,fd,G,hm,kp,hb⟩:=F.ex;exact pe_call G hr hg hm kp hb .nil hx ha hdb he hpl
theorem pe_callF(F:FnC X.prog X.w X.K X.mg X.base CX0 k x ps sp)(hr:Room k X.A)(hg:Gl X x)(ha:PA X (e :: es) t)
  (hdb:(x == ("__debug__" : Str))=false:=by decide) (he:starEach (e :: es) X.env=(false,eval e X.env) :: starEach es X.env:=by rfl) (hpl:(backTo pos (starEach es X.env)).any (·.1)=false:=by rfl) :
  PE X (.Call (.Name x p) (e :: es) [] pos) (tCall sp [] E0 t):=pe_callX F hr hg pass0 ha hdb he hpl
end
theorem same_new{H:Hp}{p:Addr}(h:H p=none)(o:HO):Same H (upd H p o):=fun b u q=>by rw [upd_ne (ne_of_none q h)];exact q
theorem Same.seqT{K:Fg}{H H':Hp}{a:Addr}{xs:List V}(e:Same H H')(h:SqT K H a xs):SqT K H' a xs:=by
 rcases h with (h | ⟨o,h⟩) | h
 ·exact .inl (.inl (e _ _ h))
 ·exact .inl (.inr ⟨o,e _ _ h⟩)
 ·exact .inr h
structure Blt (mg:Str→Option Value):Prop where
 len:mg "len" = none
 abs:mg "abs" = none
 range:mg "range" = none
 isinstance:mg "isinstance" = none
 int:mg "int" = none
 bool:mg "bool" = none
 tuple:mg "tuple" = none
 list:mg "list" = none
 str:mg "str" = none
 zip:mg "zip" = none
 set:mg "set" = none
 all:mg "all" = none
 any:mg "any" = none
 min:mg "min" = none
 max:mg "max" = none
 sum:mg "sum" = none
 sorted:mg "sorted" = none
 enumerate:mg "enumerate" = none
 reversed:mg "reversed" = none
 dict:mg "dict" = none
 ord:mg "ord" = none
 divmod:mg "divmod" = none
theorem bb_len:bootBuiltins "len" = some (.builtin "len"):=by decide +kernel
theorem bb_abs:bootBuiltins "abs" = some (.builtin "abs"):=by decide +kernel
theorem bb_isinstance:bootBuiltins "isinstance" = some (.builtin "isinstance"):=by decide +kernel
theorem bb_int:bootBuiltins "int" = some (.type "int"):=by decide +kernel
theorem bb_bool:bootBuiltins "bool" = some (.type "bool"):=by decide +kernel
theorem bb_tuple:bootBuiltins "tuple" = some (.type "tuple"):=by decide +kernel
theorem bb_list:bootBuiltins "list" = some (.type "list"):=by decide +kernel
theorem iteNE{y z:Int}{A B:Prop}(h1:y≠z→A)(h2:y=z→B):if (!decide (V.int y=V.int z))=true then A else B:=by
 by_cases h:y=z
 ·subst h;rw [decide_eq_true rfl];exact iteF (h2 rfl)
 ·rw [decide_eq_false (fun q=>h (V.int.inj q))];exact iteT (h1 h)
theorem iteD{c:Prop}[Decidable c]{A B:Prop}(h1:c→A)(h2 : ¬ c→B):if decide c=true then A else B:=by
 by_cases h:c
 ·rw [decide_eq_true h];exact iteT (h1 h)
 ·rw [decide_eq_false h];exact iteF (h2 h)
abbrev qAdd:R2:=rI0 fun i j=>.int (i+j)
abbrev qSub:R2:=rI0 fun i j=>.int (i - j)
abbrev rMulW:R2:=rI CMulW fun i j=>.int (i*j)
abbrev rDiv:R2:=rI CDiv fun i j=>.int (i / j)
abbrev rDivW:R2:=rI CDivW fun i j=>.int (i.fdiv j)
abbrev rMod:R2:=rI (fun _ j=>0 < j) fun i j=>.int (i % j)
abbrev rModN:R2:=rI (fun _ j=>j≠0) fun i j=>.int (i.fmod j)
abbrev rPow:R2:=rI CPow fun i j=>.int (i ^ j.toNat)
abbrev rLt:R2:=rI0 fun i j=>.bl (decide (i < j))
abbrev rLe:R2:=rI0 fun i j=>.bl (decide (i≤j))
abbrev rGt:R2:=rI0 fun i j=>.bl (decide (j < i))
abbrev rIsN:R2:=fun x y H Q=>y = .non∧Q (.bl (decide (x = .non))) H
abbrev rAddS:R2:=fun x y H Q=>∃i j,x = .str i∧y = .str j∧i.length+j.length≤sizeLine∧Q (.str (i++j)) H
abbrev rAbs:List V→Hp→VK→Prop:=fun xs H Q=>∃i,xs=[.int i]∧Q (.int (if i < 0 then -i else i)) H
abbrev rLenQ(K:Fg):List V→Hp→VK→Prop:=fun xs H Q=>∃p ys,xs=[.ref p]∧(SqL K H p ys∨SqT K H p ys)∧Q (.int ys.length) H
abbrev rIsi(K:Fg):List V→Hp→VK→Prop:=fun xs H Q=>∃x n t b,xs=[x,.ty n]∧TyOf K H x t∧PySem.W.kitOne K t (.type n)=some b∧Q (.bl b) H
abbrev rInt1:List V→Hp→VK→Prop:=fun xs H Q=>(∃i,xs=[.int i]∧Q (.int i) H)∨∃k,xs=[.bl k]∧Q (.int (if k then 1 else 0)) H
abbrev rTupOf(K:Fg):List V→Hp→VK→Prop:=fun xs H Q=>∃p ys,xs=[.ref p]∧((SqL K H p ys∧∀l,H l=none→Q (.ref l) (upd H l (.tup ys)))∨(SqT K H p ys∧Q (.ref p) H))
abbrev rListOf(K:Fg):List V→Hp→VK→Prop:=fun xs H Q=>∃p ys,xs=[.ref p]∧(SqL K H p ys∨SqT K H p ys)∧∀l,H l=none→Q (.ref l) (upd H l (.lst ys))
theorem kit_ii {K:Fg}:PySem.W.kitOne K (.type "int") (.type "int")=some true:=by rfl
theorem kit_ib {K:Fg}:PySem.W.kitOne K (.type "int") (.type "bool")=some false:=by
 show PySem.W.kitCls K (.type "int") (.type "bool")=some false;unfold PySem.W.kitCls
 kernel_rfl
section
variable{M:Model}{A:Around}{E:Value→Shared→Prop}{s:Shared}{φ : Obj→Prop}{base:Heap}{env:Env}{outer:List Env}{L e:Addr}{cls a0:Value}{Q:Unit→Shared→Prop}
end
structure OwnFr (X:Cx):Prop where
 stk:X.stack=X.env :: X.outer
 frm:X.env.frame=some X.env.locals
 exs:X.ex=[]
section
variable{X:Cx}{pins:List (Addr×Obj)}{σ : St}{H:Hp}{s:Shared}
end
section
variable{M:Model}{A:Around}{E:Value→Shared→Prop}{h:Heap}{g:Array GenState}{d:Drawn}{t:Nat}{os:OsState}
end
section
variable{X:Cx}{pins:List (Addr×Obj)}{σ : St}{H H':Hp}{s s':Shared}
end
section
variable{X:Cx}{pins:List (Addr×Obj)}{σ : St}{H:Hp}{s s':Shared}
end
section
variable{X:Cx}{es:List Expr}{t:TA}
end
section
variable{X:Cx}{k:Nat}{ps:List Str}{sp:Sp}{fx v xn xy xa:Str}{Dv:Addr}{n y i:Nat}{fp cp ap vp p0 p1 p2 p3 hp pos ep:Pos}{e:Expr}{es:List Expr}{t:TA}
end
end L2
namespace L2
open PySem PySem.Spec PyProof.Rows PySem.W Builtin Builtin.ObjectAttr Builtin.Getset_descriptor
section
variable{prog:Program}{w:World}{A:Around}{E:Value→Shared→Prop}{s:Shared}{K:Frag}{x C:Addr}{R:Result→Shared→Prop}
end
end L2
namespace L2
open PySem PySem.Spec PyProof.Rows PySem.W Builtin Builtin.ObjectAttr Builtin.Getset_descriptor
section
variable{prog:Program}{w:World}{A:Around}{E:Value→Shared→Prop}{s:Shared}{K:Frag}{x C:Addr}
end
end L2
namespace L2
open PySem PySem.Spec PyProof.Rows
section
variable{prog:Program}{w:World}{A:Around}{E:Value→Shared→Prop}{h:Heap}{g:Array GenState}{d:Drawn}{t:Nat}{os:OsState}
variable{nm q:Str}{C N:Addr}{bs bm bmB:List Value}{hdct:Bool}{sn:List Str}{sub:List Value}{ab:Bool}{col:Option Bool}{dd:Option Addr}{k0 k1 k2 k3 k5:Option Value}{B newId initId:String}
end
end L2
namespace L2
open PySem PySem.Spec PyProof.Rows PySem.W
section
variable{prog:Program}{w:World}{A:Around}{E:Value→Shared→Prop}{h:Heap}{g:Array GenState}{d:Drawn}{t:Nat}{os:OsState}
variable{nm q:Str}{C N:Addr}{bs bm bmB:List Value}{hdct:Bool}{sn:List Str}{sub:List Value}{ab:Bool}{col:Option Bool}{dd:Option Addr}{k0 k1 k2 k3 k5:Option Value}{B newId initId:String}
end
section
variable{prog:Program}{w:World}{A:Around}{E:Value→Shared→Prop}{s:Shared}{K:Frag}{x C:Addr}{R:Result→Shared→Prop}{name:Str}{v:Value}
end
end L2
namespace L2
open PySem PySem.Spec PyProof.Rows PySem.W
section
variable{X:Cx}{pins:List (Addr×Obj)}{σ : St}{H:Hp}{s:Shared}
end
section
variable{M:Model}{A:Around}{E:Value→Shared→Prop}{env:Env}{s:Shared}{Q:Flow→Shared→Prop}
end
end L2
namespace L2
open PySem PySem.Spec PyProof.Rows PySem.W
section
variable{X:Cx}{o a value:Expr}{es:List Expr}{ta tv:TE}{t:TA}{f v:Str}{V:Addr}{vp apos pos pos':Pos}
end
end L2
namespace L2
open PySem PySem.Spec PyProof.Rows PySem.W
end L2
namespace L2
open PySem PySem.Spec PyProof.Rows
open PySem.W (Dat kqdP kqdPs kqdOk)
mutual
inductive Rep (K:Fg) (H:Hp):V→Dat→Prop
 | non:Rep K H .non .none
 | bl (b:Bool):Rep K H (.bl b) (.bool b)
 | int (i:Int):Rep K H (.int i) (.int i)
 | str (x:Str):Rep K H (.str x) (.str x)
 | tup {a:Addr} {xs:List V} {ds:List Dat}:SqT K H a xs→RepL K H xs ds→Rep K H (.ref a) (.tuple ds)
 | lst {a:Addr} {xs:List V} {ds:List Dat}:SqL K H a xs→RepL K H xs ds→Rep K H (.ref a) (.list ds)
inductive RepL (K:Fg) (H:Hp):List V→List Dat→Prop
 | nil:RepL K H [] []
 | cons {v:V} {d:Dat} {vs:List V} {ds:List Dat}:Rep K H v d→RepL K H vs ds→RepL K H (v :: vs) (d :: ds)
end
section
variable{K:Fg}{H H':Hp}
end
section
variable{X:Cx}{pins:List (Addr×Obj)}{σ : St}{H:Hp}{s:Shared}
mutual
theorem Rep.reads(I:Inv X pins σ H s):∀{v:V} {d:Dat} {u:Value},Rep X.K H v d→RelV v u→∃as,Reads s.heap u (kqdP d) as
 | _,_,u,.non,r=>by
  cases (show u=Value.none from r);exact ⟨_,Reads.none⟩
 | _,_,u,.bl b,r=>by
  cases (show u=Value.bool b from r);exact ⟨_,Reads.bool b⟩
 | _,_,u,.int i,r=>by
  obtain ⟨t,e⟩:=(show ∃t,u=Value.int i t from r)
  cases e;exact ⟨_,Reads.int i t⟩
 | _,_,u,.str x,r=>by
  obtain ⟨t,e⟩:=(show ∃t,u=Value.str x t from r)
  cases e;exact ⟨_,Reads.str x t⟩
 | _,_,u,@Rep.tup _ _ a xs ds h q,r=>by
  cases (show u=Value.ref a from r);obtain ⟨its,rv,⟨o,e,c,n,dd⟩,_⟩:=I.tuple h;obtain ⟨as,p⟩:=RepL.reads I q rv;rw [kqdP];exact ⟨_,Reads.tuple e c dd (by simpa using p)⟩
 | _,_,u,@Rep.lst _ _ a xs ds h q,r=>by
  cases (show u=Value.ref a from r);obtain ⟨its,rv,⟨o,n,e,c,_,dd⟩,_⟩:=I.list h;obtain ⟨as,p⟩:=RepL.reads I q rv;rw [kqdP];exact ⟨_,Reads.list e c dd (by simpa using p)⟩
theorem RepL.reads(I:Inv X pins σ H s):∀{vs:List V} {ds:List Dat} {us:List Value},RepL X.K H vs ds→Vals vs us→∃as,ReadsAll s.heap us (kqdPs ds) as
 | _,_,_,.nil,.nil=>by
  rw [kqdPs];exact ⟨_,ReadsAll.nil⟩
 | _,_,_,.cons h q,.cons r rr=>by
  obtain ⟨as,p⟩:=Rep.reads I h r;obtain ⟨bs,p'⟩:=RepL.reads I q rr;rw [kqdPs];exact ⟨_,ReadsAll.cons p p'⟩
end
open Classical in
theorem eqv_dec{d e:Dat}(hd:kqdOk 8 d=true)(he:kqdOk 8 e=true):PyData.eqv (kqdP d) (kqdP e)=decide (d=e):=by
 have q:=PySem.W.kqd_eqv 8 d e 8 hd he;by_cases z:d=e
 ·rw [decide_eq_true z];exact q.mpr z
 ·rw [decide_eq_false z];exact Bool.eq_false_iff.mpr fun y=>z (q.mp y)
theorem shaped_of{d:Dat}(h:kqdOk 8 d=true):SeqAt.shaped (kqdP d)=true:=by
 have l:=PySem.W.kqd_lay 8 d h;unfold SeqAt.shaped;rw [l.1,Bool.true_and];exact decide_eq_true (Nat.le_trans l.2 (by decide))
open Classical in
def rEqD(K:Fg):R2:=fun x y H Q=>∃d e,Rep K H x d∧Rep K H y e∧kqdOk 8 d=true∧kqdOk 8 e=true∧Q (.bl (decide (d=e))) H
theorem op_eqD(hu:X.A.units+64 < cLine):OpR X (compareOp .Eq) (rEqD X.K):=by
 intro pins s σ H x y v u Q I rx ry h;obtain ⟨d,e,hd,he,kd,ke,q⟩:=h;obtain ⟨as,ra⟩:=Rep.reads I hd rx;obtain ⟨bs,rb⟩:=Rep.reads I he ry;exact eq_dataH ra rb (shaped_of kd) (shaped_of ke) hu ⟨_,H,I,(by rw [eqv_dec kd ke];rfl),q⟩
open Classical in
theorem any_dec{ds:List Dat}{d:Dat}(ha:∀e∈ds,kqdOk 8 e=true)(hd:kqdOk 8 d=true):((kqdPs ds).any fun y=>PyData.eqv y (kqdP d))=decide (d∈ds):=by
 by_cases z:d∈ds
 ·rw [decide_eq_true z];exact (PySem.W.kqd_any ds d ha hd).mpr z
 ·rw [decide_eq_false z];exact Bool.eq_false_iff.mpr fun y=>z ((PySem.W.kqd_any ds d ha hd).mp y)
open Classical in
def rInD(K:Fg)(neg:Bool):R2:=fun x y H Q=>∃d ds,Rep K H x d∧Rep K H y (.list ds)∧(∀e∈ds,kqdOk 8 e=true)∧kqdOk 8 d=true∧Q (.bl (if neg then !decide (d∈ds) else decide (d∈ds))) H
theorem in_room{A:Around}{ds:List Dat}{d:Dat}(hd:kqdOk 8 d=true)(hu:A.units+64 < cLine):A.units+1+min (PyData.depthAll (kqdPs ds)) (kqdP d).depth < cLine:=by
 have l:=(PySem.W.kqd_lay 8 d hd).2
 have:=Nat.min_le_right (PyData.depthAll (kqdPs ds)) (kqdP d).depth
 omega
theorem op_inD(hu:X.A.units+64 < cLine):OpR X (compareOp .In) (rInD X.K false):=by
 intro pins s σ H x y v u Q I rx ry h;obtain ⟨d,ds,hd,he,ka,kd,q⟩:=h;obtain ⟨as,ra⟩:=Rep.reads I hd rx;obtain ⟨bs,rb⟩:=Rep.reads I he ry;rw [kqdP] at rb;exact SeqAt.in_list_reads rb ra (PySem.W.kqd_layL ka).1 (PySem.W.kqd_lay 8 d kd).1 (in_room kd hu) ⟨_,H,I,(by rw [any_dec ka kd];rfl),q⟩
theorem op_notInD(hu:X.A.units+64 < cLine):OpR X (compareOp .NotIn) (rInD X.K true):=by
 intro pins s σ H x y v u Q I rx ry h;obtain ⟨d,ds,hd,he,ka,kd,q⟩:=h;obtain ⟨as,ra⟩:=Rep.reads I hd rx;obtain ⟨bs,rb⟩:=Rep.reads I he ry;rw [kqdP] at rb;exact SeqAt.notIn_list_reads rb ra (PySem.W.kqd_layL ka).1 (PySem.W.kqd_lay 8 d kd).1 (in_room kd hu) ⟨_,H,I,(by rw [any_dec ka kd];rfl),q⟩
end
end L2
namespace L2
open PySem PySem.Spec PyProof.Rows
def compCx(X:Cx)(ys M:List Str)(scope:Scope)(cl:List (Str×Addr))(C:Addr)(s:Shared)(H:Hp)(fp:List Addr)(pins:List (Addr×Obj)):Cx where
 prog:=X.prog
 w:=X.w
 K:=X.K
 mg:=X.mg
 base:=X.base
 A:=X.A
 N:=ys++M
 s₀:=s
 H₀:=H
 env:=compEnvC scope cl C X.env
 outer:=X.stack
 stack:=X.stack
 ex:=fp
 fn:=fun _=>false
 calm:=X.calm
 pn:=X.pn++pins
 xe:=fun _ _=>False
structure CompSc (X:Cx) (ys M:List Str) (scope:Scope) (cl:List (Str×Addr)):Prop where
 kind:scope.kind = .function
 nocell:∀y∈scope.names,y.2≠.cell
 names:∀y∈scope.names,y.2 = .local→scope.names.lookup y.1=some .local
 own:∀y∈ys,scope.names.lookup y=some .local
 clos:closureFor scope X.env=pure cl
 nd:(ys++M).Nodup
 len:M.length=X.N.length
 same:∀p∈M.zip X.N,p.1=p.2∨(relabel scope X.env).names.lookup p.1=none
 apart:∀y∈M,(relabel scope X.env).names.lookup y≠some .local
 cells:∀y c,cl.lookup y=some c→X.env.cells.lookup y=some c∧(X.env.scope.names.lookup y=some .cell∨X.env.scope.names.lookup y=some .free)
 has:∀y,((relabel scope X.env).names.lookup y=some .cell∨(relabel scope X.env).names.lookup y=some .free)→∃c,cl.lookup y=some c
section
variable{X:Cx}{ys M:List Str}{scope:Scope}{cl:List (Str×Addr)}{C:Addr}{s:Shared}{H:Hp}{fp:List Addr}{pins:List (Addr×Obj)}{σ : St}
theorem inv_comp{h1:Heap}{tk:Nat}{o:Obj}(I:Inv X pins σ H s)(c:CompSc X ys M scope cl)(eC:C=s.heap.objs.size)(hns:h1.Ns C (fun _=>none))(hsb:Heap.SameBut C (s.heap.push o) h1)
  (fk:∀b∈fp,FpOk X pins H b∧∃o,s.heap.get? b=some o):Inv (compCx X ys M scope cl C s H fp pins) [] (List.replicate ys.length none ++ σ) H { s with heap:=h1,toks:=tk }:=by
 have keep:∀b u,s.heap.get? b=some u→h1.get? b=some u:=fun b u e=>hsb.extBut b u (by rw [eC];exact Nat.ne_of_lt (Heap.lt_size e)) (Heap.get?_push_of_some _ e)
 have neC:∀b u,s.heap.get? b=some u→b≠C:=fun b u e=>by rw [eC];exact Nat.ne_of_lt (Heap.lt_size e)
 have out:∀{b:Addr},b≠X.env.locals→b∉X.fs→b∉frs X.stack:=fun h1 h2 z=>(List.mem_cons.mp (I.stkSub _ z)).elim h1 h2
 refine ⟨⟨I.ok.mod,c.kind,I.ok.glob,I.ok.blt,by rw [eC];exact Nat.le_refl _,fun y z a h1 h2=>I.ok.inj y z a (c.cells y a h1).1 (c.cells z a h2).1,c.has,fun y a z _=>Bool.noConfusion z,I.ok.hd,I.ok.frames,.inl rfl,fun b hb=>?_,I.bs,Nat.le_trans I.ok.bsz I.sz,fun b u e hb=>?_,fun b hb=>?_,I.stack,I.stkFree⟩,
  rfl,I.bare,Un.kept keep,⟨_,hns,fun i y v e1 e2 e3=>?_⟩,fun y a e=>?_,I.hok.fresh (by rw [eC];exact Nat.le_refl _),fun y a e=>I.freeC y a (c.cells y a e).1,fun p hp=>?_,I.hok.kept keep,?_⟩
 ·obtain ⟨⟨_,_,_,_,f5,_⟩,u,e⟩:=fk b hb;exact ⟨neC b u e,fun y a q=>f5 y a (c.cells y a q).1⟩
 ·obtain ⟨⟨_,_,_,f4,_,_⟩,_⟩:=fk b hb;rcases f4 with z | z
  ·exact I.ok.noex b u e z
  ·exact absurd (Nat.lt_of_lt_of_le (Heap.lt_size (I.ok.bs b u e).1) z) (Nat.lt_irrefl _)
 ·obtain ⟨⟨_,f2,f3,_,_,_⟩,_⟩:=fk b hb;exact out f2 f3
 ·by_cases lt:i < ys.length
  ·have e2':(List.replicate ys.length (none:Option V) ++ σ)[i]? = some (some v):=e2;rw [List.getElem?_append_left (by simpa using lt),List.getElem?_replicate_of_lt lt] at e2';cases e2'
  ·have e0:M[i - ys.length]? = some y:=by
    have e1':(ys++M)[i]? = some y:=e1
    rwa [List.getElem?_append_right (by omega)] at e1'
   have e2' : σ[i - ys.length]? = some (some v):=by
    have e2':(List.replicate ys.length (none:Option V) ++ σ)[i]? = some (some v):=e2
    rwa [List.getElem?_append_right (by simpa using lt),List.length_replicate] at e2'
   have hy:y∈M:=List.mem_of_getElem? e0
   have vis0:(relabel scope X.env).names.lookup y≠none:=by
    rcases e3 with z | z | z <;> (intro q;have q':=(show (relabel scope X.env).names.lookup y=some _ from z).symm.trans q;cases q')
   have e1':X.N[i - ys.length]? = some y:=by
    have hlt:i - ys.length < X.N.length:=by rw [← c.len];exact (List.getElem?_eq_some_iff.mp e0).1
    have hz:(y,X.N[i - ys.length])∈M.zip X.N:=by
     refine List.mem_of_getElem? (i:=i - ys.length) ?_;rw [List.getElem?_zip_eq_some];exact ⟨e0,List.getElem?_eq_getElem hlt⟩
    rcases c.same _ hz with q | q
    ·rw [List.getElem?_eq_getElem hlt];exact congrArg some q.symm
    ·exact absurd q vis0
   have e3':(relabel scope X.env).names.lookup y=some .cell∨(relabel scope X.env).names.lookup y=some .free:=by
    rcases e3 with z | z | z
    ·exact absurd z (c.apart y hy)
    ·exact .inl z
    ·exact .inr z
   obtain ⟨a,ea⟩:=c.has y e3';obtain ⟨q1,q2⟩:=c.cells y a ea;obtain ⟨m,_,hl⟩:=I.loc;have vis:Vis X.env.scope y:=.inr q2;obtain ⟨u,ru,lu⟩:=hl (i - ys.length) y v e1' e2' vis;refine ⟨u,ru,.inr ⟨e3',a,ea,?_⟩⟩;rcases lu with ⟨z,_⟩ | ⟨_,a',ea',⟨oc,hoc,hd⟩⟩
   ·have z':X.env.scope.names.lookup y=some .local:=z;rcases q2 with q2 | q2 <;> (rw [z'] at q2;cases q2)
   ·rw [q1] at ea';cases ea';exact ⟨oc,keep _ _ hoc,hd⟩
 ·obtain ⟨v,oc,hoc,hd⟩:=I.cell y a (c.cells y a e).1;exact ⟨v,oc,keep _ _ hoc,hd⟩
 ·have hp':p∈X.pn++pins:=by simpa [compCx] using hp
  obtain ⟨q1,q2,q3,q4,q5⟩:=I.pin p hp';exact ⟨keep _ _ q1,q2,neC _ _ q1,out q3 q4,q5⟩
 ·show (List.replicate ys.length none ++ σ).length=(ys++M).length;rw [List.length_append,List.length_append,List.length_replicate,I.len,c.len]
theorem inv_uncomp{pins':List (Addr×Obj)}{σ':St}{H':Hp}{s1:Shared}(I:Inv X pins σ H s)(fk:∀b∈fp,FpOk X pins H b∧∃o,s.heap.get? b=some o)(I':Inv (compCx X ys M scope cl C s H fp pins) pins' σ' H' s1):Inv X pins σ H' s1 :=
 I.call' (ch:=fp) I'.os I'.base I'.hok I'.bare fun b hb=>let ⟨⟨_,f2,_,f4,f5,f6⟩,_⟩:=fk b hb;⟨f4,f2,f5,f6⟩
def CompG(J:It)(n:Nat)(g:TG)(te:TE)(σ : St)(Q:VK)(H1:Hp):Prop:=∀D,H1 D=none→∃W:Nat→Nat→Hp→Prop,(∃m,W 0 m (upd H1 D (.lst [])))∧∀i m H,W i m H →
 (J.stop i H∧Q (.ref D) H)∨(J.go i H∧∀v H',J.yld i H v H'→∀us:St,us.length=n→g v (us ++ σ) H' fun σ2 H2=>(∃us':St,us'.length=n∧σ2=us' ++ σ)∧te σ2 H2 fun y H3=>∃xs,H3 D=some (.lst xs)∧xs.length < sizeLine∧∃m',m' < m∧W (i+1) m' (upd H3 D (.lst (xs++[y]))))
def tCompG(wi:TI)(n:Nat)(g:TG)(te:TE):TE:=fun σ H Q=>wi σ H fun J H1=>CompG J n g te σ Q H1
def CompAt(J:It)(te:TE)(σ : St)(Q:VK)(H1:Hp):Prop:=∀D,H1 D=none→∃W:Nat→Nat→Hp→Prop,(∃m,W 0 m (upd H1 D (.lst [])))∧∀i m H,W i m H →
 (J.stop i H∧Q (.ref D) H)∨(J.go i H∧∀v H',J.yld i H v H'→te (some v :: σ) H' fun y H2=>∃xs,H2 D=some (.lst xs)∧xs.length < sizeLine∧∃m',m' < m∧W (i+1) m' (upd H2 D (.lst (xs++[y]))))
def tComp(wi:TI)(te:TE):TE:=fun σ H Q=>wi σ H fun J H1=>CompAt J te σ Q H1
theorem compG_of{J:It}{te:TE}{σ : St}{Q:VK}{H1:Hp}(h:CompAt J te σ Q H1):CompG J 1 (gName 0) te σ Q H1:=by
 intro D nD;obtain ⟨W,h0,hs⟩:=h D nD;refine ⟨W,h0,fun i m H w=>?_⟩;rcases hs i m H w with q | ⟨go,st⟩
 ·exact .inl q
 ·refine .inr ⟨go,fun v H' y us hu=>?_⟩;obtain ⟨u,rfl⟩:∃u,us=[u]:=List.length_eq_one_iff.mp hu;exact ⟨⟨[some v],rfl,rfl⟩,st v H' y⟩
theorem comp_loop{prog:Program}{w:World}{A:Around}{R:Result→Shared→Prop}{s:Shared}{elt target iter:Expr}{scope:Scope}{pos:Pos}{it acc:Value}{env:Env}(I:Nat→Shared→Prop)
  (turn:∀n s,I n s→wpAny (model prog w) A (pyNext it) (fun r s1=>match r with
   | none=>R (.ok .next) s1
   | some v=>wpAny (model prog w) A (letOwnedTupleGo target it v) (fun _ s2=>wpAny (model prog w) A (assign target env v) (fun _ s3=>wpAny (model prog w) A (eval elt env) (fun x s4 =>
     wpAny (model prog w) A (call (.builtin "list.append") [acc,x]) (fun _ s5=>∃m,m < n∧I m s5) (fun _ _=>False) s4) (fun _ _=>False) s3) (fun _ _=>False) s2) (fun _ _=>False) s1) (fun _ _=>False) s) (n:Nat) (h:I n s) :
  codeAny (model prog w) A (.compLoop (.ListComp elt [⟨target,iter,[],0⟩] scope pos) 0 it acc env) R s:=by
 refine codeAny_loop rfl I (fun k s1 hI=>?_) n h;have no:∀{α : Type} {t:Sem α} {P : α→Shared→Prop} {E:Value→Shared→Prop} {z:Shared},wpAny (model prog w) A t P (fun _ _=>False) z→wpAny (model prog w) A t P E z:=fun q=>wpAny_mono q (fun _ _ z=>z) fun _ _ z=>z.elim
 show wpAny _ _ ((compTurn (.ListComp elt [⟨target,iter,[],0⟩] scope pos) 0 it acc env).onRaise _) _ _ s1;refine wpAny_noted ?_;rw [compTurn_list1];refine wpAny_bind (wpAny_standAt (wpAny_bind (no (wpAny_mono (turn k s1 hI) (fun r s2 h2=>?_) fun _ _ z=>z))));cases r with
 | none=>exact wpAny_pure h2
 | some v =>
  refine wpAny_bind (no (wpAny_mono h2 (fun _ s3 h3=>?_) fun _ _ z=>z));refine wpAny_bind (no (wpAny_mono h3 (fun _ s4 h4=>?_) fun _ _ z=>z));refine wpAny_bind (wpAny_bind (no (wpAny_mono h4 (fun x s5 h5=>?_) fun _ _ z=>z)));exact wpAny_bind (no (wpAny_mono h5 (fun _ s6 h6=>wpAny_pure (wpAny_pure ⟨rfl,h6⟩)) fun _ _ z=>z))
theorem comp_core{elt iter tg:Expr}{pos:Pos}{g:TG}{te:TE}{tn:Nat→Heap→Prop}{it:Addr}{J:It}{E:Value→Shared→Prop}{QQ:Addr→Hp→Prop}{RR:Value→Addr→Result→Shared→Prop}(I:Inv X pins σ H s)(c:CompSc X ys M scope cl)(hc:X.calm=true)
  (hg:∀C s₀ H₀ fp pins,PG (compCx X ys M scope cl C s₀ H₀ fp pins) tg g) (he:∀C s₀ H₀ fp pins,PE (compCx X ys M scope cl C s₀ H₀ fp pins) elt te) (T:Turn X.prog X.w X.K tg J fp it tn) (st:tn 0 s.heap) (fk:∀b∈fp,FpOk X pins H b)
  (h:∀D,H D=none→∃W:Nat→Nat→Hp→Prop,(∃m,W 0 m (upd H D (.lst [])))∧∀i m H,W i m H →
   (J.stop i H∧QQ D H)∨(J.go i H∧∀v H',J.yld i H v H'→∀us:St,us.length=ys.length→g v (us ++ σ) H' fun σ2 H2=>(∃us':St,us'.length=ys.length∧σ2=us' ++ σ)∧te σ2 H2 fun y H3=>∃xs,H3 D=some (.lst xs)∧xs.length < sizeLine∧∃m',m' < m∧W (i+1) m' (upd H3 D (.lst (xs++[y])))))
  (fin:∀D C H' s',s.heap.objs.size≤C→s'.heap.get? C≠none→(∃m,s'.heap.Ns C m)→H' C=none→Inv X pins σ H' s'→QQ D H'→RR (.ref D) C (.ok .next) s') :
  wpAny (model X.prog X.w) X.A (newList []) (fun acc s₃=>wpAny (model X.prog X.w) X.A (newFunctionEnv scope X.env.globals cl [] X.env.qual none .none (some X.env)) (fun cenv s₄ =>
   codeAny (model X.prog X.w) X.A (.compStart (.ListComp elt [⟨tg,iter,[],0⟩] scope pos) 0 (.ref it) acc { cenv with scope:=relabel scope X.env }) (RR acc cenv.locals) s₄) E s₃) E s:=by
 refine wpAny_newObj_type (wpAny_newFunctionEnv c.nocell (by intro y hy;simp at hy) (fun h1 hns hsb=>?_) c.kind);dsimp only at hns hsb ⊢;have hf:H s.heap.objs.size=none:=I.hok.fresh (Nat.le_refl _)
 have I3:Inv X pins σ (upd H s.heap.objs.size (.lst [])) { s with heap:=s.heap.push { cls:=.type "list",dict:=none,data:=.seq ([]:List Value).toArray } } :=
  I.laid (t':=s.toks) (fun b u e=>Heap.get?_push_of_some _ e) (Nat.le_refl _) ⟨by decide,[],_,.nil,Heap.get?_push_size _ rfl⟩
 have eD:∀b u,s.heap.get? b=some u→b≠s.heap.objs.size:=fun b u e=>Nat.ne_of_lt (Heap.lt_size e)
 have fk3:∀b∈fp,FpOk X pins (upd H s.heap.objs.size (.lst [])) b∧∃o,(s.heap.push { cls:=.type "list",dict:=none,data:=.seq ([]:List Value).toArray }).get? b=some o:=fun b hb=>by
  obtain ⟨o,eo,_⟩:=T.obj 0 _ st b hb;obtain ⟨f1,f2⟩:=fk b hb;exact ⟨⟨by rw [upd_ne (eD b o eo)];exact f1,f2⟩,o,Heap.get?_push_of_some _ eo⟩
 have I4:=inv_comp (tk:=s.toks+([]:List (Str×Value)).length) I3 c rfl hns hsb fk3;obtain ⟨W,⟨m0,w0⟩,turn⟩:=h _ hf
 have st4:tn 0 h1:=T.keep 0 _ _ st fun b hb o e=>by
  have e2:=Heap.get?_push_of_some { cls:=.type "list",dict:=none,data:=.seq ([]:List Value).toArray } e;exact hsb.extBut b o (Nat.ne_of_lt (Heap.lt_size e2)) (Heap.get?_push_of_some _ e2)
 have stat:∀{H':Hp},(∀b∈fp,H' b=none)→∀b∈fp,FpOk (compCx X ys M scope cl (s.heap.push { cls:=.type "list",dict:=none,data:=.seq ([]:List Value).toArray }).objs.size { s with heap:=s.heap.push { cls:=.type "list",dict:=none,data:=.seq ([]:List Value).toArray } } (upd H s.heap.objs.size (.lst [])) fp pins) [] H' b :=
  fun hn b hb=>⟨hn b hb,(I4.ok.exf b hb).1,I4.ok.exfs b hb,.inl hb,(I4.ok.exf b hb).2,fun p hp=>(fk3 b hb).1.2.2.2.2.2 p (by simpa [compCx] using hp)⟩
 have loop:∀s4:Shared,s4 = { s with heap:=h1,toks:=s.toks+([]:List (Str×Value)).length } →
   codeAny (model X.prog X.w) X.A (.compLoop (.ListComp elt [⟨tg,iter,[],0⟩] scope pos) 0 (.ref it) (.ref s.heap.objs.size) (compEnvC scope cl (s.heap.push { cls:=.type "list",dict:=none,data:=.seq ([]:List Value).toArray }).objs.size X.env))
    (RR (.ref s.heap.objs.size) (s.heap.push { cls:=.type "list",dict:=none,data:=.seq ([]:List Value).toArray }).objs.size) s4:=by
  rintro s4 rfl
  refine comp_loop (fun n s'=>∃(i:Nat) (us:St) (H':Hp),us.length=ys.length∧Inv (compCx X ys M scope cl (s.heap.push { cls:=.type "list",dict:=none,data:=.seq ([]:List Value).toArray }).objs.size { s with heap:=s.heap.push { cls:=.type "list",dict:=none,data:=.seq ([]:List Value).toArray } } (upd H s.heap.objs.size (.lst [])) fp pins) [] (us ++ σ) H' s'∧tn i s'.heap∧(∀b∈fp,H' b=none)∧W i n H')
   ?_ m0 ⟨0,_,_,List.length_replicate,I4,st4,fun b hb=>(fk3 b hb).1.1,w0⟩
  rintro n s5 ⟨i,us,H5,lu,I5,st5,fr5,w5⟩;rcases turn i n H5 w5 with ⟨stop,q⟩ | ⟨go,step⟩
  ·refine thn (T.done (compCx X ys M scope cl _ _ _ _ _) rfl rfl rfl hc i [] s5 _ H5 _ I5 (stat fr5) st5 stop) fun r s6 ⟨er,I6⟩=>?_
   subst er;obtain ⟨m,hn6,_⟩:=id I6.loc;obtain ⟨o6,_,_,ho6,_⟩:=id hn6;exact fin _ _ H5 s6 (by rw [Heap.size_push];exact Nat.le_succ _) (fun z=>by have z':=ho6.symm.trans z;cases z') ⟨m,hn6⟩ I6.free (inv_uncomp I3 fk3 I6) q
  ·refine thn (T.item (compCx X ys M scope cl _ _ _ _ _) rfl rfl rfl hc i [] s5 _ H5 _ I5 (stat fr5) st5 go) fun r s6 ⟨u,er,h6⟩=>?_
   subst er;refine thn h6 fun _ s7 ⟨v',H7,I7,r7,y7,st7,fr7⟩=>?_
   have I7':=I7.pinned (stat fr7) (T.obj _ _ st7);refine wpAny_mono (hg _ _ _ _ _ _ s7 _ H7 v' u _ I7' r7 (step v' H7 y7 us lu)) (fun _ s8 ⟨σ8,H8,I8,⟨us',lu',e8⟩,q8⟩=>?_) fun _ _ z=>z.elim
   refine wpAny_mono (he _ _ _ _ _ _ s8 _ H8 _ I8 q8) (fun y s9 ⟨yv,H9,I9,ry,xs,hxs,hlen,m',hm,w9⟩=>?_) fun _ _ z=>z.elim
   refine wpAny_mono (mt_append (X:=compCx X ys M scope cl _ _ _ _ _) _ s9 _ H9 (.ref s.heap.objs.size) [yv] (.ref s.heap.objs.size) [y] (fun _ H10=>H10=upd H9 s.heap.objs.size (.lst (xs++[yv]))) I9 rfl (.cons ry .nil) ⟨_,xs,yv,rfl,rfl,hxs,hlen,rfl⟩) (fun _ s10 ⟨z,H10,I10,rz,q10⟩=>?_) fun _ _ z=>z.elim
   subst q10;subst e8;refine ⟨m',hm,i+1,us',_,lu',I10.unpinned (pins:=[]),T.keep _ _ _ st7 fun b hb o e=>(I10.pin (b,o) (List.mem_append_right _ (List.mem_append_right _ (mem_pinsAt hb e)))).1,fun b hb=>?_,w9⟩;obtain ⟨o,e,_⟩:=T.obj _ _ st7 b hb;exact (I10.pin (b,o) (List.mem_append_right _ (List.mem_append_right _ (mem_pinsAt hb e)))).2.1
 exact codeAny_compStart_list (loop _ rfl) (T.self _ 0 _ _ _ st4 (loop _ rfl))
end
section
variable{X:Cx}{ys M:List Str}{x:Str}{scope:Scope}{cl:List (Str×Addr)}
theorem pe_compG{elt iter tg:Expr}{pos:Pos}{wi:TI}{g:TG}{te:TE}(c:CompSc X ys M scope cl)(hc:X.calm=true)(hi:PI X tg iter wi)(hg:∀C s₀ H₀ fp pins,PG (compCx X ys M scope cl C s₀ H₀ fp pins) tg g)(he:∀C s₀ H₀ fp pins,PE (compCx X ys M scope cl C s₀ H₀ fp pins) elt te)
  (hs:∀v,foldedSetIterable iter X.env v=pure v:=by intro _;rfl):PE X (.ListComp elt [⟨tg,iter,[],0⟩] scope pos) (tCompG wi ys.length g te):=by
 intro pins s σ H Q I h;rw [eval_ListComp];refine wpAny_comprehension_free (use:=none) rfl hs c.clos c.kind c.names (thn (hi pins s σ H _ I h) fun v s1 h1=>thn h1 fun itv s2 h2=>?_);obtain ⟨it,fp,tn,J,H2,rfl,I2,T,st2,fk2,h3⟩:=h2;refine comp_core (E:=X.xe) (QQ:=fun D H'=>Q (.ref D) H') I2 c hc hg he T st2 fk2 h3 fun D C H' s' hC hl ns fr I' q=>?_
 obtain ⟨m,hn⟩:=ns;refine ⟨m,hn,fun h' hs'=>?_⟩;have sz:=I2.sz;exact ⟨.ref D,H',I'.turned (t':=s'.toks) (fun b o hb e=>(hs'.2 b hb).trans e) fr (I2.fpOk hC fr).2.1 (I2.fpOk hC fr).2.2.2.1 (I2.fpOk hC fr).2.2.2.2.1 (I2.fpOk hC fr).2.2.2.2.2,rfl,q⟩
theorem ps_setCG{elt iter tg:Expr}{pos py sp:Pos}{wi:TI}{g:TG}{te:TE}{i:Nat}{y:Str}(hy:X.N[i]? = some y)(ly:X.env.scope.names.lookup y=some .local)(c:CompSc X ys M scope cl)(hN:X.N.Nodup)(hc:X.calm=true)(hi:PI X tg iter wi)
  (hg:∀C s₀ H₀ fp pins,PG (compCx X ys M scope cl C s₀ H₀ fp pins) tg g) (he:∀C s₀ H₀ fp pins,PE (compCx X ys M scope cl C s₀ H₀ fp pins) elt te)
  (hsw:swapsWith (.ListComp elt [⟨tg,iter,[],0⟩] scope pos) (some (.Name y py)) sp.line X.env=pure true:=by rfl) (hs:∀v,foldedSetIterable iter X.env v=pure v:=by intro _;rfl) :
  PS X (.Assign [.Name y py] (.ListComp elt [⟨tg,iter,[],0⟩] scope pos) sp) (tAsg (tCompG wi ys.length g te) (gName i)):=by
 intro pins s σ H D I h;rw [exec_Assign_Name_used _ _ _ _ hsw];refine wpAny_bind (wpAny_standAt (wpAny_bind ?_));show wpAny _ X.A (do let _ ← comprehension (.ListComp elt [⟨tg,iter,[],0⟩] scope pos) scope X.env _ (newList []) false (eval iter X.env) (some (assign (.Name y py) X.env))) _ _ s;refine wpAny_bind (wpAny_mono (wpAny_comprehension_free (use:=some (assign (.Name y py) X.env)) (Q:=fun _ s'=>SP X pins D .next s') rfl hs c.clos c.kind c.names (thn (hi pins s σ H _ I h) fun v s1 h1=>thn h1 fun itv s2 h2=>?_)) (fun _ s' hq=>wpAny_pure (wpAny_pure hq)) fun _ _ z=>z);obtain ⟨it,fp,tn,J,H2,rfl,I2,T,st2,fk2,h3⟩:=h2;refine comp_core (E:=X.xe) (QQ:=fun Da H'=>D.nx (σ.set i (some (.ref Da))) H') I2 c hc hg he T st2 fk2 h3 fun Da C H' s' hC hl ns fr I' q=>?_
 obtain ⟨m,hn⟩:=ns;refine wpAny_assign_Name (store_ok2 I' hN hy (.inl ly) (v:=.ref Da) rfl (fun s3 I3 ⟨a,hsa,ha⟩=>?_) (.inr ly))
 have nC:C≠a:=by
  rcases ha with z | z
  ·rw [z];exact (I2.fpOk hC fr).2.1
  ·exact fun w'=>(I2.fpOk hC fr).2.2.2.2.1 y a z w'.symm
 refine ⟨m,hn.sameBut hsa nC,fun h' hs'=>⟨_,H',I3.turned (t':=s3.toks) (fun b o hb e=>(hs'.2 b hb).trans e) fr (I2.fpOk hC fr).2.1 (I2.fpOk hC fr).2.2.2.1 (I2.fpOk hC fr).2.2.2.2.1 (I2.fpOk hC fr).2.2.2.2.2,q⟩⟩
theorem own_pg{px:Pos}(c:CompSc X [x] M scope cl)(C:Addr)(s₀ : Shared)(H₀ : Hp)(fp:List Addr)(pins:List (Addr×Obj)):PG (compCx X [x] M scope cl C s₀ H₀ fp pins) (.Name x px) (gName 0):=by
 have hx:(relabel scope X.env).names.lookup x=some .local:=lookup_relabel_local (c.own x (by simp));exact pg_name (X:=compCx X [x] M scope cl C s₀ H₀ fp pins) (i:=0) c.nd rfl (.inl hx) (.inr hx)
end
def relS(scope sc:Scope):List (Str×NameKind):=scope.names.map fun (n,k)=>if (k == .free && sc.kind == .function && sc.names.lookup n == some .cell) then (n,.cell) else (n,k)
def clOf(scope:Scope)(cells:List (Str×Addr)):List (Str×Addr):=((scope.names.filter fun n=>n.2 == .free).map fun n=>(n.1,(cells.lookup n.1).getD 0)).reverse
structure CompS (sc:Scope) (N M ys:List Str) (scope:Scope):Prop where
 kind:scope.kind = .function
 nocell:∀y∈scope.names,y.2≠.cell
 names:∀y∈scope.names,y.2 = .local→scope.names.lookup y.1=some .local
 own:∀y∈ys,scope.names.lookup y=some .local
 nd:(ys++M).Nodup
 len:M.length=N.length
 same:∀p∈M.zip N,p.1=p.2∨(relS scope sc).lookup p.1=none
 apart:∀y∈M,(relS scope sc).lookup y≠some .local
 free:∀n∈scope.names,n.2 = .free→sc.names.lookup n.1=some .cell
theorem lookup_const{g:Str→Addr}:∀{l:List (Str×Addr)} {y:Str},(∀n∈l,n.2=g n.1)→∀{c:Addr},l.lookup y=some c→c=g y∧∃n∈l,n.1=y
 | [],_,_,_,h=>by simp at h
 | (n,a) :: r,y,hg,c,h=>by
  by_cases e:y=n
  ·subst e;rw [List.lookup_cons,beq_self_eq_true] at h;have h':a=c:=Option.some.inj h;exact ⟨by rw [← h'];exact hg (y,a) List.mem_cons_self,_,List.mem_cons_self,rfl⟩
  ·have e':(y == n)=false:=beq_eq_false_iff_ne.mpr e;rw [List.lookup_cons,e'] at h;obtain ⟨h1,m,hm,h2⟩:=lookup_const (fun n hn=>hg n (List.mem_cons_of_mem _ hn)) h;exact ⟨h1,m,List.mem_cons_of_mem _ hm,h2⟩
theorem lookup_mem{l:List (Str×Addr)}{y:Str}:(∃n∈l,n.1=y)→∃c,l.lookup y=some c:=by
 induction l with
 | nil=>rintro ⟨n,hn,_⟩;cases hn
 | cons a r ih =>
  rintro ⟨n,hn,e⟩;obtain ⟨m,b⟩:=a;by_cases e':y=m
  ·subst e';exact ⟨b,by rw [List.lookup_cons,beq_self_eq_true]⟩
  ·have e2:(y == m)=false:=beq_eq_false_iff_ne.mpr e';rw [List.lookup_cons,e2];refine ih ?_;rcases List.mem_cons.mp hn with z | z
   ·rw [z] at e;exact absurd e.symm e'
   ·exact ⟨n,z,e⟩
theorem clOf_mem{scope:Scope}{cells:List (Str×Addr)}{n:Str×Addr}:n∈clOf scope cells↔∃m∈scope.names,m.2 = .free∧n=(m.1,(cells.lookup m.1).getD 0):=by
 unfold clOf;rw [List.mem_reverse,List.mem_map];constructor
 ·rintro ⟨m,hm,rfl⟩;rw [List.mem_filter] at hm;exact ⟨m,hm.1,beq_iff_eq.mp hm.2,rfl⟩
 ·rintro ⟨m,hm,hk,rfl⟩;exact ⟨m,List.mem_filter.mpr ⟨hm,beq_iff_eq.mpr hk⟩,rfl⟩
theorem closure_eq{env:Env}:∀(names:List (Str×NameKind)) (acc:List (Str×Addr)),(∀n∈names,n.2 = .free→∃c,env.cells.lookup n.1=some c) →
  (forIn names acc fun x r=>do
   let (name,kind):=x
   if kind == .free then do
    let c ← cellOf env name
    pure (ForInStep.yield ((name,c) :: r))
   else pure (ForInStep.yield r):Sem (List (Str×Addr)))=pure (((names.filter fun n=>n.2 == .free).map fun n=>(n.1,(env.cells.lookup n.1).getD 0)).reverse++acc)
 | [],acc,_=>rfl
 | (n,k) :: r,acc,h=>by
  have ih:=fun acc=>closure_eq r acc fun m hm=>h m (List.mem_cons_of_mem _ hm)
  rw [List.forIn_cons];by_cases hk:k = .free
  ·subst hk;obtain ⟨c,hc⟩:=h (n,.free) List.mem_cons_self rfl;have e1:cellOf env n=pure c:=by unfold cellOf;rw [hc]
   simp only [beq_self_eq_true,if_true,e1,pure_bind,List.filter_cons,List.map_cons,List.reverse_cons,List.append_assoc,List.singleton_append];rw [hc];exact ih _
  ·have hb:(k == NameKind.free)=false:=beq_eq_false_iff_ne.mpr hk;simp only [hb,Bool.false_eq_true,if_false,pure_bind,List.filter_cons];exact ih _
theorem CompS.sc{X:Cx}{ys M:List Str}{scope:Scope}(c:CompS X.env.scope X.N M ys scope)(ok:X.Ok):CompSc X ys M scope (clOf scope X.env.cells):=by
 have hfc:∀n∈scope.names,n.2 = .free→∃a,X.env.cells.lookup n.1=some a:=fun n hn hk=>ok.has n.1 (.inl (c.free n hn hk))
 refine ⟨c.kind,c.nocell,c.names,c.own,?_,c.nd,c.len,c.same,c.apart,fun y a h=>?_,fun y h=>?_⟩
 ·have z:=closure_eq (env:=X.env) scope.names [] hfc;rw [List.append_nil] at z;exact (congrArg (fun m:Sem (List (Str×Addr))=>m >>= fun cs=>pure cs) z).trans rfl
 ·obtain ⟨h1,n,hn,e⟩:=lookup_const (g:=fun z=>(X.env.cells.lookup z).getD 0) (fun n hn=>by obtain ⟨m,_,_,rfl⟩:=clOf_mem.mp hn;rfl) h;obtain ⟨m,hm,hk,e2⟩:=clOf_mem.mp hn;have ey:m.1=y:=by rw [← e,e2]
  obtain ⟨a',ha'⟩:=hfc m hm hk;rw [ey] at ha';refine ⟨?_,.inl (by rw [← ey];exact c.free m hm hk)⟩;rw [h1,ha'];rfl
 ·have hm:∃m∈scope.names,m.1=y∧m.2 = .free:=by
   have go:∀names:List (Str×NameKind),(∀z∈names,z.2≠.cell)→((names.map fun (n,k)=>if (k == .free && X.env.scope.kind == .function && X.env.kindOf n == some .cell) then (n,NameKind.cell) else (n,k)).lookup y=some .cell∨(names.map fun (n,k)=>if (k == .free && X.env.scope.kind == .function && X.env.kindOf n == some .cell) then (n,NameKind.cell) else (n,k)).lookup y=some .free)→∃m∈names,m.1=y∧m.2 = .free:=by
    intro names
    induction names with
    | nil=>intro _ h;simp at h
    | cons a r ih =>
     intro nc h;obtain ⟨n,k⟩:=a;by_cases e:y=n
     ·subst e;refine ⟨_,List.mem_cons_self,rfl,?_⟩;have nk:k≠.cell:=nc (y,k) List.mem_cons_self;by_cases hk:k = .free
      ·exact hk
      ·have hb:(k == NameKind.free)=false:=beq_eq_false_iff_ne.mpr hk;simp only [List.map_cons,hb,Bool.false_and,Bool.false_eq_true,if_false,List.lookup_cons,beq_self_eq_true] at h;rcases h with z | z
       ·exact absurd (Option.some.inj z) nk
       ·exact absurd (Option.some.inj z) hk
     ·have e':(y == n)=false:=beq_eq_false_iff_ne.mpr e
      have h':(r.map fun (n,k)=>if (k == .free && X.env.scope.kind == .function && X.env.kindOf n == some .cell) then (n,NameKind.cell) else (n,k)).lookup y=some .cell∨(r.map fun (n,k)=>if (k == .free && X.env.scope.kind == .function && X.env.kindOf n == some .cell) then (n,NameKind.cell) else (n,k)).lookup y=some .free:=by
       by_cases hb:(k == .free && X.env.scope.kind == .function && X.env.kindOf n == some .cell)=true
       ·simpa only [List.map_cons,hb,if_true,List.lookup_cons,e'] using h
       ·simpa only [List.map_cons,hb,Bool.false_eq_true,if_false,List.lookup_cons,e'] using h
      obtain ⟨m,hm,r1⟩:=ih (fun z hz=>nc z (List.mem_cons_of_mem _ hz)) h';exact ⟨m,List.mem_cons_of_mem _ hm,r1⟩
   exact go scope.names c.nocell h
  obtain ⟨m,hm,e,hk⟩:=hm;exact lookup_mem ⟨_,clOf_mem.mpr ⟨m,hm,hk,rfl⟩,e⟩
section
variable{X:Cx}{x:Str}{ys M:List Str}{scope:Scope}
theorem pe_lcG{elt iter tg:Expr}{pos:Pos}{wi:TI}{g:TG}{te:TE}(c:CompS X.env.scope X.N M ys scope)(hc:X.calm=true)(hi:PI X tg iter wi)(hg:∀C s₀ H₀ fp pins,PG (compCx X ys M scope (clOf scope X.env.cells) C s₀ H₀ fp pins) tg g)(he:∀C s₀ H₀ fp pins,PE (compCx X ys M scope (clOf scope X.env.cells) C s₀ H₀ fp pins) elt te)
  (hs:∀v,foldedSetIterable iter X.env v=pure v:=by intro _;rfl):PE X (.ListComp elt [⟨tg,iter,[],0⟩] scope pos) (tCompG wi ys.length g te):=fun pins s σ H Q I h=>pe_compG (c.sc I.ok) hc hi hg he hs pins s σ H Q I h
theorem pe_lc{elt iter:Expr}{px pos:Pos}{wi:TI}{te:TE}(c:CompS X.env.scope X.N M [x] scope)(hN:X.N.Nodup)(hc:X.calm=true)(hi:PI X (.Name x px) iter wi)(he:∀C s₀ H₀ fp pins,PE (compCx X [x] M scope (clOf scope X.env.cells) C s₀ H₀ fp pins) elt te)
  (hs:∀v,foldedSetIterable iter X.env v=pure v:=by intro _;rfl):PE X (.ListComp elt [⟨.Name x px,iter,[],0⟩] scope pos) (tComp wi te):=by
 intro pins s σ H Q I h
 have hi':PI X (.Name x px) iter (fun σ H R=>∃R',(∀J H1,R' J H1→R J H1)∧wi σ H R'):=by
  intro pins s σ H R I ⟨R',hR,hw⟩;refine thn (hi pins s σ H R' I hw) fun v s1 h1=>thn h1 fun itv s2 ⟨it,fp,tn,J,H',e,I',T,t0,fk,r⟩=>⟨it,fp,tn,J,H',e,I',T,t0,fk,hR J H' r⟩
 exact pe_compG (c.sc I.ok) hc hi' (fun C s₀ H₀ fp pins=>own_pg (c.sc I.ok) C s₀ H₀ fp pins) he hs pins s σ H Q I ⟨_,fun J H1 q=>compG_of q,h⟩
theorem ps_lc{elt iter:Expr}{px pos py sp:Pos}{wi:TI}{te:TE}{i:Nat}{y:Str}(hN:X.N.Nodup)(hy:X.N[i]? = some y)(ly:X.env.scope.names.lookup y=some .local)(c:CompS X.env.scope X.N M [x] scope)(hc:X.calm=true)(hi:PI X (.Name x px) iter wi)(he:∀C s₀ H₀ fp pins,PE (compCx X [x] M scope (clOf scope X.env.cells) C s₀ H₀ fp pins) elt te)
  (hsw:swapsWith (.ListComp elt [⟨.Name x px,iter,[],0⟩] scope pos) (some (.Name y py)) sp.line X.env=pure true:=by rfl) (hs:∀v,foldedSetIterable iter X.env v=pure v:=by intro _;rfl) :
  PS X (.Assign [.Name y py] (.ListComp elt [⟨.Name x px,iter,[],0⟩] scope pos) sp) (tAsg (tComp wi te) (gName i)):=by
 intro pins s σ H D I h
 have hi':PI X (.Name x px) iter (fun σ H R=>∃R',(∀J H1,R' J H1→R J H1)∧wi σ H R'):=by
  intro pins s σ H R I ⟨R',hR,hw⟩;refine thn (hi pins s σ H R' I hw) fun v s1 h1=>thn h1 fun itv s2 ⟨it,fp,tn,J,H',e,I',T,t0,fk,r⟩=>⟨it,fp,tn,J,H',e,I',T,t0,fk,hR J H' r⟩
 exact ps_setCG hy ly (c.sc I.ok) hN hc hi' (fun C s₀ H₀ fp pins=>own_pg (c.sc I.ok) C s₀ H₀ fp pins) he hsw hs pins s σ H D I ⟨_,fun J H1 q=>compG_of q,h⟩
end
def Push(D:Addr)(Pv:Hp→Prop):VK:=fun y H2=>∃xs,H2 D=some (.lst xs)∧xs.length < sizeLine∧Pv (upd H2 D (.lst (xs++[y])))
section
variable{K:Fg}{te:TE}{σ : St}{Q:VK}{H:Hp}
def EltK(D:Addr)(n i:Nat)(Pv:Nat→Hp→Prop):VK:=fun y H2=>∃xs,H2 D=some (.lst xs)∧xs.length < sizeLine∧∃m',m' < n - i∧m'=n - (i+1)∧i+1≤n∧Pv (i+1) (upd H2 D (.lst (xs++[y])))
def Elt(te:TE)(σ : St)(v:V)(H:Hp)(D:Addr)(n i:Nat)(Pv:Nat→Hp→Prop):Prop:=te (some v :: σ) H (EltK D n i Pv)
theorem pushed{D:Addr}{n i:Nat}{Pv:Nat→Hp→Prop}{y:V}{H2:Hp}(hi:i < n)(h:Push D (Pv (i+1)) y H2):EltK D n i Pv y H2:=by
 obtain ⟨xs,h1,h2,h3⟩:=h;exact ⟨xs,h1,h2,n - (i+1),by omega,rfl,hi,h3⟩
theorem comp_range{lo:Int}{n:Nat}(h:∀D,H D=none→∃Pv:Nat→Hp→Prop,Pv 0 (upd H D (.lst []))∧(∀i H2,i < n→Pv i H2→Elt te σ (.int (lo+i)) H2 D n i Pv)∧∀H2,Pv n H2→Q (.ref D) H2):CompAt (Itr lo n) te σ Q H:=by
 intro D nD;obtain ⟨Pv,h0,hs,hd⟩:=h D nD;refine ⟨fun i m H=>m=n - i∧i≤n∧Pv i H,⟨n,by simp,Nat.zero_le _,h0⟩,?_⟩;rintro i m H ⟨rfl,hi,p⟩;by_cases hlt:i < n
 ·refine .inr ⟨hlt,fun v H' y=>?_⟩;obtain ⟨e,y⟩:=y;subst e y;exact hs i _ hlt p
 ·have e:i=n:=by omega
  subst e;exact .inl ⟨Nat.le_refl _,hd H p⟩
theorem comp_list{a:Addr}{xs:List V}(h:∀D,H D=none→∃Pv:Nat→Hp→Prop,Pv 0 (upd H D (.lst []))∧(∀i H2,i≤xs.length→Pv i H2→SqL K H2 a xs)∧(∀i x H2,xs[i]? = some x→Pv i H2→Elt te σ x H2 D xs.length i Pv)∧∀H2,Pv xs.length H2→Q (.ref D) H2):CompAt (Itl K a) te σ Q H:=by
 intro D nD;obtain ⟨Pv,h0,hl,hs,hd⟩:=h D nD;refine ⟨fun i m H=>m=xs.length - i∧i≤xs.length∧Pv i H,⟨xs.length,by simp,Nat.zero_le _,h0⟩,?_⟩;rintro i m H ⟨rfl,hi,p⟩;have q:=hl i H hi p;by_cases hlt:i < xs.length
 ·refine .inr ⟨⟨xs,xs[i],q,by simp [hlt]⟩,fun v H' y=>?_⟩;obtain ⟨e,y⟩:=y;subst e;exact hs i v _ (y xs q) p
 ·have e:i=xs.length:=by omega
  subst e;exact .inl ⟨⟨xs,q,Nat.le_refl _⟩,hd H p⟩
theorem comp_tup{a:Addr}{xs:List V}(h:∀D,H D=none→∃Pv:Nat→Hp→Prop,Pv 0 (upd H D (.lst []))∧(∀i H2,i≤xs.length→Pv i H2→SqT K H2 a xs)∧(∀i x H2,xs[i]? = some x→Pv i H2→Elt te σ x H2 D xs.length i Pv)∧∀H2,Pv xs.length H2→Q (.ref D) H2):CompAt (Itt K a) te σ Q H:=by
 intro D nD;obtain ⟨Pv,h0,hl,hs,hd⟩:=h D nD;refine ⟨fun i m H=>m=xs.length - i∧i≤xs.length∧Pv i H,⟨xs.length,by simp,Nat.zero_le _,h0⟩,?_⟩;rintro i m H ⟨rfl,hi,p⟩;have q:=hl i H hi p;by_cases hlt:i < xs.length
 ·refine .inr ⟨⟨xs,xs[i],q,by simp [hlt]⟩,fun v H' y=>?_⟩;obtain ⟨e,y⟩:=y;subst e;exact hs i v _ (y xs q) p
 ·have e:i=xs.length:=by omega
  subst e;exact .inl ⟨⟨xs,q,Nat.le_refl _⟩,hd H p⟩
end
end L2
namespace L2
open PySem PySem.Spec PyProof.Rows
open PySem.W (Dat kqdOk)
section
variable{K:Fg}{σ : St}{H:Hp}{Q:VK}{D:Ends}{ta tb tc te:TE}{t u:TS}{c:TT}{QB:Bool→Hp→Prop}{QA:List V→Hp→Prop}{QS:St→Hp→Prop}
theorem k_seq(h:t { D with nx:=u D } σ H):tSeq t u D σ H:=h
theorem k_next(h:D.nx σ H):tNext D σ H:=h
theorem k_drop(h:te σ H fun _ H1=>D.nx σ H1):tDrop te D σ H:=h
theorem k_ret(h:te σ H D.rt):tRet te D σ H:=h
theorem k_ifS(h:c σ H fun b H1=>if b=true then t D σ H1 else u D σ H1):tIfS c t u D σ H:=h
theorem k_asg{g:TG}(h:te σ H fun x H1=>g x σ H1 D.nx):tAsg te g D σ H:=h
theorem k_gName{i:Nat}{v:V}(h:QS (σ.set i (some v)) H):gName i v σ H QS:=h
theorem k_var{i:Nat}{v:V}(e : σ[i]? = some (some v))(h:Q v H):tVar i σ H Q:=⟨v,e,h⟩
theorem k_c{v:V}(h:Q v H):tC v σ H Q:=h
theorem k_op{r:R2}(h:ta σ H fun x H1=>tb σ H1 fun y H2=>r x y H2 Q):tOp r ta tb σ H Q:=h
theorem k_un{r:V→Hp→VK→Prop}(h:ta σ H fun x H1=>r x H1 Q):tUn r ta σ H Q:=h
theorem k_rU{g:Int→V}{i:Int}(h:Q (g i) H):rU g (.int i) H Q:=⟨i,rfl,h⟩
theorem k_rI0{g:Int→Int→V}{i j:Int}(h:Q (g i j) H):rI0 g (.int i) (.int j) H Q:=⟨i,j,rfl,rfl,h⟩
theorem k_rI{C:Int→Int→Prop}{g:Int→Int→V}{i j:Int}(hc:C i j)(h:Q (g i j) H):rI C g (.int i) (.int j) H Q:=⟨i,j,rfl,rfl,hc,h⟩
theorem k_eqI{i j:Int}(h:Q (.bl (decide (i=j))) H):rEq (.int i) (.int j) H Q:=⟨rfl,by
 have e:decide (V.int i=V.int j)=decide (i=j):=by
  by_cases z:i=j
  ·subst z;simp
  ·simp [z]
 rw [e];exact h⟩
theorem k_neI{i j:Int}(h:Q (.bl (!decide (i=j))) H):rNe (.int i) (.int j) H Q:=⟨rfl,by
 have e:decide (V.int i=V.int j)=decide (i=j):=by
  by_cases z:i=j
  ·subst z;simp
  ·simp [z]
 rw [e];exact h⟩
theorem k_isN{x:V}(h:Q (.bl (decide (x = .non))) H):rIsN x .non H Q:=⟨rfl,h⟩
theorem k_test(h:te σ H fun x H'=>∃k,x = .bl k∧QB k H'):tTest te σ H QB:=h
theorem k_tB(h:te σ H fun x H'=>∃k,x = .bl k∧QB k H'):tB te σ H QB:=h
theorem k_bl{P:Bool→Prop}{b:Bool}(h:P b):∃k,V.bl b = .bl k∧P k:=⟨b,rfl,h⟩
theorem k_not(h:c σ H fun b H1=>QB (!b) H1):tNot c σ H QB:=h
theorem k_and{c':TT}(h:c σ H fun b H1=>if b=true then c' σ H1 QB else QB false H1):tAnd c c' σ H QB:=h
theorem k_or{c':TT}(h:c σ H fun b H1=>if b=true then QB true H1 else c' σ H1 QB):tOr c c' σ H QB:=h
theorem k_andV(h:ta σ H fun x H1=>∃k,x = .bl k∧if k=true then tb σ H1 Q else Q (.bl false) H1):tAndV ta tb σ H Q:=h
theorem k_if(h:c σ H fun b H1=>if b=true then ta σ H1 Q else tb σ H1 Q):tIf c ta tb σ H Q:=h
theorem k_chain{r r':R2}(h:ta σ H fun x H1=>tb σ H1 fun y H2=>r x y H2 fun z H3=>∃k,z = .bl k∧(if k=true then tc σ H3 fun w' H4=>r' y w' H4 Q else Q (.bl false) H3)):tChain r r' ta tb tc σ H Q:=h
theorem k_nil(h:QA [] H):tNil σ H QA:=h
theorem k_cons{tr:TA}(h:ta σ H fun x H1=>tr σ H1 fun xs H2=>QA (x :: xs) H2):tCons ta tr σ H QA:=h
theorem k_call{sp:Sp}{dvs:List V}{E:XK}{ts:TA}(h:ts σ H fun vs H1=>sp (vs++dvs) H1 Q E):tCall sp dvs E ts σ H Q:=h
theorem k_cB{r:List V→Hp→VK→Prop}{ts:TA}(h:ts σ H fun vs H1=>r vs H1 Q):tCB r ts σ H Q:=h
theorem k_tup{ts:TA}(h:ts σ H fun xs H1=>xs.length≤sizeLine∧∀p,H1 p=none→Q (.ref p) (upd H1 p (.tup xs))):tTup ts σ H Q:=h
theorem k_lst{ts:TA}(h:ts σ H fun xs H1=>xs.length≤sizeLine∧∀p,H1 p=none→Q (.ref p) (upd H1 p (.lst xs))):tLst ts σ H Q:=h
theorem k_sl{r:V→Option Int→Option Int→Hp→VK→Prop}{tl th:TO}(h:te σ H fun x H1=>tl σ H1 fun l H2=>th σ H2 fun u H3=>r x l u H3 Q):tSl r te tl th σ H Q:=h
theorem k_noPart{QO:Option Int→Hp→Prop}(h:QO none H):tNoPart σ H QO:=h
theorem k_part{QO:Option Int→Hp→Prop}(h:te σ H fun x H1=>∃i,x = .int i∧QO (some i) H1):tPart te σ H QO:=h
theorem k_int{P:Int→Prop}{i:Int}(h:P i):∃j,V.int i = .int j∧P j:=⟨i,rfl,h⟩
theorem k_ite{p:Prop}[Decidable p]{A B:Prop}(h1:p→A)(h2 : ¬ p→B):if decide p=true then A else B:=iteD h1 h2
theorem k_iteN{p:Prop}[Decidable p]{A B:Prop}(h1 : ¬ p→A)(h2:p→B):if (!decide p)=true then A else B:=by
 by_cases h:p
 ·rw [decide_eq_true h];exact iteF (h2 h)
 ·rw [decide_eq_false h];exact iteT (h1 h)
theorem k_iteNT{A B:Prop}(h:B):if (!true)=true then A else B:=iteF h
def FAt(J:It)(g:TG)(tb:TS)(D:Ends)(σ : St)(H1:Hp):Prop:=∃W:Nat→Nat→St→Hp→Prop,(∃m,W 0 m σ H1)∧∀i m σ H,W i m σ H →
 (J.stop i H∧D.nx σ H)∨(J.go i H∧∃N:St→Hp→Prop,(∀σ' H',N σ' H'→∃m',m' < m∧W (i+1) m' σ' H')∧∀x H',J.yld i H x H'→g x σ H' fun σ2 H2=>tb { D with nx:=N,ct:=N,bk:=D.nx } σ2 H2)
theorem k_for{wi:TI}{g:TG}{tb:TS}(h:wi σ H fun J H1=>FAt J g tb D σ H1):tFor wi g tb D σ H:=h
theorem k_comp{wi:TI}(h:wi σ H fun J H1=>CompAt J te σ Q H1):tComp wi te σ H Q:=h
theorem k_rng1{ts:TA}{R:It→Hp→Prop}(h:ts σ H fun vs H1=>∃j:Int,vs=[.int j]∧-(2 ^ 62)≤j∧j < 2 ^ 62∧R (Itr 0 j.toNat) H1):iRng1 ts σ H R:=h
theorem k_r1F{g:TG}{tb:TS}{j:Int}(h0 : -(2 ^ 62)≤j∧j < 2 ^ 62)(h:FAt (Itr 0 j.toNat) g tb D σ H):∃i:Int,[V.int j]=[.int i]∧-(2 ^ 62)≤i∧i < 2 ^ 62∧FAt (Itr 0 i.toNat) g tb D σ H:=⟨j,rfl,h0.1,h0.2,h⟩
theorem k_r1C{j:Int}(h0 : -(2 ^ 62)≤j∧j < 2 ^ 62)(h:CompAt (Itr 0 j.toNat) te σ Q H):∃i:Int,[V.int j]=[.int i]∧-(2 ^ 62)≤i∧i < 2 ^ 62∧CompAt (Itr 0 i.toNat) te σ Q H:=⟨j,rfl,h0.1,h0.2,h⟩
theorem k_iList{R:It→Hp→Prop}(h:te σ H fun x H1=>∃a,x = .ref a∧(∃xs,SqL K H1 a xs)∧R (Itl K a) H1):iList K te σ H R:=h
theorem k_iTup{R:It→Hp→Prop}(h:te σ H fun x H1=>∃a,x = .ref a∧(∃xs,SqT K H1 a xs)∧R (Itt K a) H1):iTup K te σ H R:=h
theorem k_rlF{g:TG}{tb:TS}{a:Addr}{xs:List V}(e:SqL K H a xs)(h:FAt (Itl K a) g tb D σ H):∃b,V.ref a = .ref b∧(∃xs,SqL K H b xs)∧FAt (Itl K b) g tb D σ H:=⟨a,rfl,⟨xs,e⟩,h⟩
theorem k_rlC{a:Addr}{xs:List V}(e:SqL K H a xs)(h:CompAt (Itl K a) te σ Q H):∃b,V.ref a = .ref b∧(∃xs,SqL K H b xs)∧CompAt (Itl K b) te σ Q H:=⟨a,rfl,⟨xs,e⟩,h⟩
theorem k_rtF{g:TG}{tb:TS}{a:Addr}{xs:List V}(e:SqT K H a xs)(h:FAt (Itt K a) g tb D σ H):∃b,V.ref a = .ref b∧(∃xs,SqT K H b xs)∧FAt (Itt K b) g tb D σ H:=⟨a,rfl,⟨xs,e⟩,h⟩
theorem k_rtC{a:Addr}{xs:List V}(e:SqT K H a xs)(h:CompAt (Itt K a) te σ Q H):∃b,V.ref a = .ref b∧(∃xs,SqT K H b xs)∧CompAt (Itt K b) te σ Q H:=⟨a,rfl,⟨xs,e⟩,h⟩
theorem fat_range{lo:Int}{n:Nat}{g:TG}{tb:TS}(Pv:Nat→St→Hp→Prop)(h0:Pv 0 σ H)
  (hs:∀i σ H,i < n→Pv i σ H→g (.int (lo+i)) σ H fun σ2 H2=>tb { D with nx:=Pv (i+1),ct:=Pv (i+1),bk:=D.nx } σ2 H2) (hd:∀σ H,Pv n σ H→D.nx σ H):FAt (Itr lo n) g tb D σ H:=for_range Pv h0 hs hd
theorem fat_list{a:Addr}{xs:List V}{g:TG}{tb:TS}(Pv:Nat→St→Hp→Prop)(h0:Pv 0 σ H)(hl:∀i σ H,i≤xs.length→Pv i σ H→SqL K H a xs)
  (hs:∀i x σ H,xs[i]? = some x→Pv i σ H→g x σ H fun σ2 H2=>tb { D with nx:=Pv (i+1),ct:=Pv (i+1),bk:=D.nx } σ2 H2) (hd:∀σ H,Pv xs.length σ H→D.nx σ H):FAt (Itl K a) g tb D σ H:=for_list Pv h0 hl hs hd
theorem fat_tup{a:Addr}{xs:List V}{g:TG}{tb:TS}(Pv:Nat→St→Hp→Prop)(h0:Pv 0 σ H)(hl:∀i σ H,i≤xs.length→Pv i σ H→SqT K H a xs)
  (hs:∀i x σ H,xs[i]? = some x→Pv i σ H→g x σ H fun σ2 H2=>tb { D with nx:=Pv (i+1),ct:=Pv (i+1),bk:=D.nx } σ2 H2) (hd:∀σ H,Pv xs.length σ H→D.nx σ H):FAt (Itt K a) g tb D σ H:=for_tup Pv h0 hl hs hd
theorem k_elt{v:V}{D:Addr}{n i:Nat}{Pv:Nat→Hp→Prop}(h:te (some v :: σ) H (EltK D n i Pv)):Elt te σ v H D n i Pv:=h
theorem k_gTup{n:Nat}{ts:TGs}{a:Addr}{xs:List V}(e:SqT K H a xs)(l:xs.length=n)(h:ts xs σ H QS):gTup K n ts (.ref a) σ H QS:=⟨a,xs,rfl,e,l,h⟩
theorem k_gCons{tg:TG}{ts:TGs}{v:V}{r:List V}(h:tg v σ H fun σ' H'=>ts r σ' H' QS):gCons tg ts (v :: r) σ H QS:=⟨v,r,rfl,h⟩
theorem k_gNil(h:QS σ H):gNil [] σ H QS:=⟨rfl,h⟩
theorem k_lenL{p:Addr}{xs:List V}(e:SqL K H p xs)(h:Q (.int xs.length) H):rLenQ K [.ref p] H Q:=⟨p,xs,rfl,.inl e,h⟩
theorem k_lenT{p:Addr}{xs:List V}(e:SqT K H p xs)(h:Q (.int xs.length) H):rLenQ K [.ref p] H Q:=⟨p,xs,rfl,.inr e,h⟩
theorem k_ixL{p:Addr}{xs:List V}{i:Int}{v:V}(e:SqL K H p xs)(a:atI xs i=some v)(h:Q v H):rIxL K (.ref p) (.int i) H Q:=⟨p,xs,i,v,rfl,rfl,e,a,h⟩
theorem k_ixT{p:Addr}{xs:List V}{i:Int}{v:V}(e:SqT K H p xs)(a:atI xs i=some v)(h:Q v H):rIxT K (.ref p) (.int i) H Q:=⟨p,xs,i,v,rfl,rfl,e,a,h⟩
theorem k_ixS{z:Str}{i:Int}{c:Nat}(e:z.length≤sizeLine)(a:atI z.cps.toList i=some c)(h:Q (.str ⟨#[c]⟩) H):rIxS (.str z) (.int i) H Q:=⟨z,i,c,rfl,rfl,e,a,h⟩
theorem k_tupL{p:Addr}{xs:List V}(e:SqL K H p xs)(h:∀l,H l=none→Q (.ref l) (upd H l (.tup xs))):rTupOf K [.ref p] H Q:=⟨p,xs,rfl,.inl ⟨e,h⟩⟩
theorem k_listL{p:Addr}{xs:List V}(e:SqL K H p xs)(h:∀l,H l=none→Q (.ref l) (upd H l (.lst xs))):rListOf K [.ref p] H Q:=⟨p,xs,rfl,.inl e,h⟩
theorem k_listT{p:Addr}{xs:List V}(e:SqT K H p xs)(h:∀l,H l=none→Q (.ref l) (upd H l (.lst xs))):rListOf K [.ref p] H Q:=⟨p,xs,rfl,.inr e,h⟩
theorem k_bm{T:String}{r:V→List V→Hp→VK→Prop}{to:TE}{ts:TA}(h:to σ H fun x H1=>tyV K T x H1∧ts σ H1 fun xs H2=>r x xs H2 Q):tBM K T r to ts σ H Q:=h
theorem k_bm0{T:String}{r:V→List V→Hp→VK→Prop}{to:TE}(h:to σ H fun x H1=>tyV K T x H1∧r x [] H1 Q):tBM0 K T r to σ H Q:=h
theorem k_tyL {p:Addr} {xs:List V} (e:H p=some (.lst xs)):tyV K "list" (.ref p) H:=.inl ⟨rfl,xs,SqL.of e⟩
theorem k_append{l:Addr}{xs:List V}{y:V}(e:H l=some (.lst xs))(n:xs.length < sizeLine)(h:Q .non (upd H l (.lst (xs++[y])))):rAppend (.ref l) [y] H Q:=⟨l,xs,y,rfl,rfl,e,n,h⟩
theorem k_clear{l:Addr}{xs:List V}(e:H l=some (.lst xs))(h:Q .non (upd H l (.lst []))):rClear (.ref l) [] H Q:=⟨l,xs,rfl,rfl,e,h⟩
theorem k_intB{b:Bool}(h:Q (.int (if b then 1 else 0)) H):rInt1 [.bl b] H Q:=.inr ⟨b,rfl,h⟩
theorem k_abs{i:Int}(h:Q (.int (if i < 0 then -i else i)) H):rAbs [.int i] H Q:=⟨i,rfl,h⟩
theorem k_isi{x:V}{n:String}{ty:Value}{b:Bool}(e:TyOf K H x ty)(k:PySem.W.kitOne K ty (.type n)=some b)(h:Q (.bl b) H):rIsi K [x,.ty n] H Q:=⟨x,n,ty,b,rfl,e,k,h⟩
theorem k_addS{i j:Str}(n:i.length+j.length≤sizeLine)(h:Q (.str (i++j)) H):rAddS (.str i) (.str j) H Q:=⟨i,j,rfl,rfl,n,h⟩
end
mutual
inductive Rp (K:Fg) (S:Addr→Prop) (H:Hp):V→Dat→Prop
 | non:Rp K S H .non .none
 | bl (b:Bool):Rp K S H (.bl b) (.bool b)
 | int (i:Int):Rp K S H (.int i) (.int i)
 | str (x:Str):Rp K S H (.str x) (.str x)
 | tup {a:Addr} {xs:List V} {ds:List Dat}:H a=some (.tup xs)→RpL K S H xs ds→Rp K S H (.ref a) (.tuple ds)
 | lst {a:Addr} {xs:List V} {ds:List Dat}:S a→H a=some (.lst xs)→RpL K S H xs ds→Rp K S H (.ref a) (.list ds)
inductive RpL (K:Fg) (S:Addr→Prop) (H:Hp):List V→List Dat→Prop
 | nil:RpL K S H [] []
 | cons {v:V} {d:Dat} {vs:List V} {ds:List Dat}:Rp K S H v d→RpL K S H vs ds→RpL K S H (v :: vs) (d :: ds)
end
structure Agr (S:Addr→Prop) (H H':Hp):Prop where
 tup:∀a xs,H a=some (.tup xs)→H' a=some (.tup xs)
 lst:∀a xs,S a→H a=some (.lst xs)→H' a=some (.lst xs)
section
variable{K:Fg}{S S':Addr→Prop}{H H':Hp}
theorem Agr.of_same(e:Same H H'):Agr S H H':=⟨fun a xs h=>e _ _ h,fun a xs _ h=>e _ _ h⟩
theorem Agr.of_upd{l:Addr}{ys:List V}{o:HO}(hl:H l=some (.lst ys))(ns : ¬ S l):Agr S H (upd H l o):=by
 refine ⟨fun a xs h=>?_,fun a xs s h=>?_⟩
 ·have ne:a≠l:=by
   rintro rfl;rw [hl] at h;cases h
  rw [upd_ne ne];exact h
 ·have ne:a≠l:=by
   rintro rfl;exact ns s
  rw [upd_ne ne];exact h
mutual
theorem Rp.agr(e:Agr S H H'):∀{v:V} {d:Dat},Rp K S H v d→Rp K S H' v d
 | _,_,.non=>.non
 | _,_,.bl b=>.bl b
 | _,_,.int i=>.int i
 | _,_,.str x=>.str x
 | _,_,.tup h r=>.tup (e.tup _ _ h) (RpL.agr e r)
 | _,_,.lst s h r=>.lst s (e.lst _ _ s h) (RpL.agr e r)
theorem RpL.agr(e:Agr S H H'):∀{vs:List V} {ds:List Dat},RpL K S H vs ds→RpL K S H' vs ds
 | _,_,.nil=>.nil
 | _,_,.cons h r=>.cons (Rp.agr e h) (RpL.agr e r)
end
mutual
theorem Rp.mono(e:∀a,S a→S' a):∀{v:V} {d:Dat},Rp K S H v d→Rp K S' H v d
 | _,_,.non=>.non
 | _,_,.bl b=>.bl b
 | _,_,.int i=>.int i
 | _,_,.str x=>.str x
 | _,_,.tup h r=>.tup h (RpL.mono e r)
 | _,_,.lst s h r=>.lst (e _ s) h (RpL.mono e r)
theorem RpL.mono(e:∀a,S a→S' a):∀{vs:List V} {ds:List Dat},RpL K S H vs ds→RpL K S' H vs ds
 | _,_,.nil=>.nil
 | _,_,.cons h r=>.cons (Rp.mono e h) (RpL.mono e r)
end
mutual
theorem Rp.rep:∀{v:V} {d:Dat},Rp K S H v d→Rep K H v d
 | _,_,.non=>.non
 | _,_,.bl b=>.bl b
 | _,_,.int i=>.int i
 | _,_,.str x=>.str x
 | _,_,.tup h r=>.tup (SqT.of h) (RpL.rep r)
 | _,_,.lst _ h r=>.lst (SqL.of h) (RpL.rep r)
theorem RpL.rep:∀{vs:List V} {ds:List Dat},RpL K S H vs ds→RepL K H vs ds
 | _,_,.nil=>.nil
 | _,_,.cons h r=>.cons (Rp.rep h) (RpL.rep r)
end
theorem Rp.same(e:Same H H'){v:V}{d:Dat}(h:Rp K S H v d):Rp K S H' v d:=h.agr (Agr.of_same e)
theorem RpL.same(e:Same H H'){vs:List V}{ds:List Dat}(h:RpL K S H vs ds):RpL K S H' vs ds:=h.agr (Agr.of_same e)
theorem RpL.length:∀{vs:List V} {ds:List Dat},RpL K S H vs ds→vs.length=ds.length
 | _,_,.nil=>rfl
 | _,_,.cons _ r=>congrArg (· + 1) (RpL.length r)
theorem RpL.get:∀{vs:List V} {ds:List Dat} {i:Nat} {v:V},RpL K S H vs ds→vs[i]? = some v→∃d,ds[i]? = some d∧Rp K S H v d
 | _,_,_,_,.nil,e=>by simp at e
 | _,_,0,_,.cons h _,e=>by simp at e;subst e;exact ⟨_,rfl,h⟩
 | _,_,i+1,v,.cons _ r,e=>by
  obtain ⟨d,h1,h2⟩:=RpL.get (i:=i) (v:=v) r (by simpa using e);exact ⟨d,by simpa using h1,h2⟩
theorem RpL.get':∀{vs:List V} {ds:List Dat} {i:Nat} {d:Dat},RpL K S H vs ds→ds[i]? = some d→∃v,vs[i]? = some v∧Rp K S H v d
 | _,_,_,_,.nil,e=>by simp at e
 | _,_,0,_,.cons h _,e=>by simp at e;subst e;exact ⟨_,rfl,h⟩
 | _,_,i+1,v,.cons _ r,e=>by
  obtain ⟨d,h1,h2⟩:=RpL.get' (i:=i) (d:=v) r (by simpa using e);exact ⟨d,by simpa using h1,h2⟩
theorem RpL.append:∀{vs ws:List V} {ds es:List Dat},RpL K S H vs ds→RpL K S H ws es→RpL K S H (vs++ws) (ds++es)
 | _,_,_,_,.nil,s=>s
 | _,_,_,_,.cons h r,s=>.cons h (RpL.append r s)
theorem RpL.ints:∀ns:List Int,RpL K S H (ns.map V.int) (ns.map Dat.int)
 | []=>.nil
 | n :: ns=>.cons (.int n) (RpL.ints ns)
theorem RpL.strs:∀ns:List Str,RpL K S H (ns.map V.str) (ns.map Dat.str)
 | []=>.nil
 | n :: ns=>.cons (.str n) (RpL.strs ns)
theorem RpL.ints_of:∀{vs:List V} {ns:List Int},RpL K S H vs (ns.map Dat.int)→vs=ns.map V.int
 | _,[],.nil=>rfl
 | _,n :: ns,.cons h r=>by cases h;rw [RpL.ints_of r];rfl
theorem RpL.strs_of:∀{vs:List V} {ns:List Str},RpL K S H vs (ns.map Dat.str)→vs=ns.map V.str
 | _,[],.nil=>rfl
 | _,n :: ns,.cons h r=>by cases h;rw [RpL.strs_of r];rfl
theorem Rp.tup_of{v:V}{ds:List Dat}(h:Rp K S H v (.tuple ds)):∃a xs,v = .ref a∧SqT K H a xs∧RpL K S H xs ds:=by
 cases h with
 | tup h r=>exact ⟨_,_,rfl,SqT.of h,r⟩
theorem Rp.tup_at{v:V}{ds:List Dat}(h:Rp K S H v (.tuple ds)):∃a xs,v = .ref a∧H a=some (.tup xs)∧RpL K S H xs ds:=by
 cases h with
 | tup h r=>exact ⟨_,_,rfl,h,r⟩
theorem Rp.lst_at{v:V}{ds:List Dat}(h:Rp K S H v (.list ds)):∃a xs,v = .ref a∧S a∧H a=some (.lst xs)∧RpL K S H xs ds:=by
 cases h with
 | lst s h r=>exact ⟨_,_,rfl,s,h,r⟩
end
def F0:Addr→Prop:=fun _=>False
abbrev Rz(K:Fg)(H:Hp):V→Dat→Prop:=Rp K F0 H
abbrev RzL(K:Fg)(H:Hp):List V→List Dat→Prop:=RpL K F0 H
section
variable{K:Fg}{S:Addr→Prop}{H H':Hp}
theorem RpL.z{vs:List V}{ds:List Dat}(h:RzL K H vs ds):RpL K S H vs ds:=h.mono fun _ z=>z.elim
theorem Rz.upd{l:Addr}{ys:List V}{o:HO}{v:V}{d:Dat}(h:Rz K H v d)(hl:H l=some (.lst ys)):Rz K (L2.upd H l o) v d:=h.agr (Agr.of_upd hl fun z=>z)
theorem RzL.upd{l:Addr}{ys:List V}{o:HO}{v:List V}{d:List Dat}(h:RzL K H v d)(hl:H l=some (.lst ys)):RzL K (L2.upd H l o) v d:=h.agr (Agr.of_upd hl fun z=>z)
end
structure Acc (K:Fg) (H0:Hp) (l:Addr) (H:Hp) (ds:List Dat):Prop where
 same:Same H0 H
 new:H0 l=none
 at_:∃xs,H l=some (.lst xs)∧RpL K (fun a=>H0 a=none∧a≠l) H xs ds
section
variable{K:Fg}{H0 H H':Hp}{l:Addr}{ds:List Dat}
theorem Acc.start(n:H0 l=none):Acc K H0 l (upd H0 l (.lst [])) []:=⟨same_new n _,n,[],upd_same,.nil⟩
theorem Acc.on(A:Acc K H0 l H ds)(e:Same H H'):Acc K H0 l H' ds:=by
 obtain ⟨xs,h1,h2⟩:=A.at_;exact ⟨A.same.trans e,A.new,xs,e _ _ h1,h2.same e⟩
theorem Acc.ref(A:Acc K H0 l H ds):Rp K (fun a=>H0 a=none) H (.ref l) (.list ds):=by
 obtain ⟨xs,h1,h2⟩:=A.at_;exact .lst A.new h1 (h2.mono fun _ z=>z.1)
theorem Acc.rep(A:Acc K H0 l H ds):Rep K H (.ref l) (.list ds):=A.ref.rep
theorem Acc.push(A:Acc K H0 l H ds){S:Addr→Prop}{y:V}{d:Dat}(r:Rp K S H y d)(hS:∀a,S a→H0 a=none∧a≠l):∃xs,H l=some (.lst xs)∧xs.length=ds.length∧Acc K H0 l (upd H l (.lst (xs++[y]))) (ds++[d]):=by
 obtain ⟨xs,h1,h2⟩:=A.at_;refine ⟨xs,h1,h2.length,⟨fun b o q=>?_,A.new,xs++[y],upd_same,?_⟩⟩
 ·rw [upd_ne (ne_of_none q A.new)];exact A.same b o q
 ·exact (h2.append (.cons (r.mono hS) .nil)).agr (Agr.of_upd h1 fun z=>z.2 rfl)
theorem Acc.pushN(A:Acc K H0 l H ds)(e:Same H H'){y:V}{d:Dat}(r:Rp K (fun a=>H a=none) H' y d):∃xs,H' l=some (.lst xs)∧xs.length=ds.length∧Acc K H0 l (upd H' l (.lst (xs++[y]))) (ds++[d]) :=
 (A.on e).push r fun a z=>⟨A.same.free z,fun q=>by obtain ⟨xs,h1,_⟩:=A.at_;rw [q,h1] at z;cases z⟩
theorem Acc.pushK(A:Acc K H0 l H ds)(e:Same H H'){y:V}{d:Dat}(r:Rp K (fun a=>H a=none) H' y d)(n:ds.length < sizeLine){Pv:Hp→Prop}(h:∀H2,Acc K H0 l H2 (ds++[d])→Pv H2):Push l Pv y H':=by
 obtain ⟨xs,h1,h2,h3⟩:=A.pushN e r;exact ⟨xs,h1,by rw [h2];exact n,h _ h3⟩
end
theorem Acc.ty {K:Fg} {H0 H:Hp} {l:Addr} {ds:List Dat} (A:Acc K H0 l H ds):tyV K "list" (.ref l) H:=by
 obtain ⟨xs,h1,_⟩:=A.at_;exact k_tyL h1
structure AccZ (K:Fg) (H0:Hp) (l:Addr) (H:Hp) (ds:List Dat):Prop where
 same:Same H0 H
 new:H0 l=none
 at_:∃xs,H l=some (.lst xs)∧RzL K H xs ds
section
variable{K:Fg}{H0 H H':Hp}{l m:Addr}{ds:List Dat}
theorem AccZ.start(e:Same H0 H)(n:H l=none):AccZ K H0 l (upd H l (.lst [])) []:=⟨e.trans (same_new n _),e.free n,[],upd_same,.nil⟩
theorem AccZ.on(A:AccZ K H0 l H ds)(e:Same H H'):AccZ K H0 l H' ds:=by
 obtain ⟨xs,h1,h2⟩:=A.at_;exact ⟨A.same.trans e,A.new,xs,e _ _ h1,h2.same e⟩
theorem AccZ.ref(A:AccZ K H0 l H ds):Rp K (fun a=>H0 a=none) H (.ref l) (.list ds):=by
 obtain ⟨xs,h1,h2⟩:=A.at_;exact .lst A.new h1 h2.z
theorem AccZ.rep(A:AccZ K H0 l H ds):Rep K H (.ref l) (.list ds):=A.ref.rep
theorem AccZ.ty (A:AccZ K H0 l H ds):tyV K "list" (.ref l) H:=by
 obtain ⟨xs,h1,_⟩:=A.at_;exact k_tyL h1
theorem AccZ.sq(A:AccZ K H0 l H ds):∃xs,SqL K H l xs∧xs.length=ds.length∧RzL K H xs ds:=by
 obtain ⟨xs,h1,h2⟩:=A.at_;exact ⟨xs,SqL.of h1,h2.length,h2⟩
theorem AccZ.upd_same(A:AccZ K H0 l H ds){o:HO}:Same H0 (L2.upd H l o):=fun b u q=>by
 rw [L2.upd_ne (ne_of_none q A.new)];exact A.same b u q
theorem AccZ.other(A:AccZ K H0 l H ds){ys:List V}{o:HO}(ne:l≠m)(n:H0 m=none)(h:H m=some (.lst ys)):AccZ K H0 l (upd H m o) ds:=by
 obtain ⟨xs,h1,h2⟩:=A.at_;refine ⟨fun b u q=>?_,A.new,xs,by rw [upd_ne ne];exact h1,h2.upd h⟩;rw [upd_ne (ne_of_none q n)];exact A.same b u q
end
theorem k_appZ{K:Fg}{H0 H:Hp}{l:Addr}{ds:List Dat}{Q:VK}(A:AccZ K H0 l H ds){y:V}{d:Dat}(r:Rz K H y d)(n:ds.length < sizeLine)
  (h:∀H2,AccZ K H0 l H2 (ds++[d])→(∀{v:V} {e:Dat},Rz K H v e→Rz K H2 v e)→(∀b,b≠l→H2 b=H b)→(∀{m:Addr} {es:List Dat},m≠l→AccZ K H0 m H es→AccZ K H0 m H2 es)→Q .non H2):rAppend (.ref l) [y] H Q:=by
 obtain ⟨xs,h1,h2⟩:=A.at_;refine ⟨l,xs,y,rfl,rfl,h1,by rw [h2.length];exact n,h _ ⟨A.upd_same,A.new,xs++[y],upd_same,?_⟩ (fun q=>Rz.upd q h1) (fun b nb=>upd_ne nb) fun ne B=>B.other ne A.new h1⟩;exact RzL.upd (h2.append (.cons r .nil)) h1
section
variable{K:Fg}{H:Hp}{Q:VK}{x y:V}{d e:Dat}{ds:List Dat}
open Classical in
theorem k_notInD(hd:Rep K H x d)(he:Rep K H y (.list ds))(ka:∀e∈ds,kqdOk 8 e=true)(kd:kqdOk 8 d=true)(h1:d∉ds→Q (.bl true) H)(h2:d∈ds→Q (.bl false) H):rInD K true x y H Q:=by
 refine ⟨d,ds,hd,he,ka,kd,?_⟩;by_cases z:d∈ds
 ·have q:=h2 z;simpa [z] using q
 ·have q:=h1 z;simpa [z] using q
open Classical in
theorem k_inD(hd:Rep K H x d)(he:Rep K H y (.list ds))(ka:∀e∈ds,kqdOk 8 e=true)(kd:kqdOk 8 d=true)(h1:d∈ds→Q (.bl true) H)(h2:d∉ds→Q (.bl false) H):rInD K false x y H Q:=by
 refine ⟨d,ds,hd,he,ka,kd,?_⟩;by_cases z:d∈ds
 ·have q:=h1 z;simpa [z] using q
 ·have q:=h2 z;simpa [z] using q
open Classical in
theorem k_eqD(hd:Rep K H x d)(he:Rep K H y e)(kd:kqdOk 8 d=true)(ke:kqdOk 8 e=true)(h1:d=e→Q (.bl true) H)(h2:d≠e→Q (.bl false) H):rEqD K x y H Q:=by
 refine ⟨d,e,hd,he,kd,ke,?_⟩;by_cases z:d=e
 ·have q:=h1 z;rw [decide_eq_true z];exact q
 ·have q:=h2 z;rw [decide_eq_false z];exact q
end
end L2
namespace L2
open PySem PySem.Spec PyProof.Rows
def hiN(n:Nat):Option Int→Nat
 | none=>n
 | some j=>min j.toNat n
def hiL(l:List Nat):Option Int→List Nat
 | none=>l
 | some j=>l.take j.toNat
theorem hiN_le(n:Nat)(hi:Option Int):hiN n hi≤n:=by
 cases hi with
 | none=>exact Nat.le_refl _
 | some j=>exact Nat.min_le_right _ _
def scut(z:Str)(lo hi:Option Int):Str:=⟨((hiL z.cps.toList hi).drop (lo.getD 0).toNat).toArray⟩
def NN:Option Int→Prop
 | none=>True
 | some i=>0≤i
theorem sidx{lo hi:Option Int}(n:Nat)(hl:NN lo)(hh:NN hi):Builtin.Str.strSliceIndices lo hi 1 n=(List.range (hiN n hi - min (lo.getD 0).toNat n)).map (fun k=>min (lo.getD 0).toNat n+k):=by
 have core:∀(a b:Nat),a≤n→b≤n→sliceRange (a:Int) (b:Int) 1=(List.range (b - a)).map (fun k=>a+k):=by
  intro a b ha hb;simp only [sliceRange,show ((1:Int) > 0)=True from by simp,if_true];by_cases hlt:(a:Int) < b
  ·have e3:(((b:Int) - a+1 - 1) / 1).toNat=b - a:=by rw [Int.ediv_one];omega
   simp only [hlt,if_true,e3];refine List.map_congr_left fun k _=>?_
   omega
  ·have:b - a=0:=by omega
   simp [hlt,this]
 have clip:∀i:Int,0≤i→max (0:Int) (min (if i < 0 then i+n else i) n)=((min i.toNat n:Nat):Int):=by
  intro i hi;rw [if_neg (by omega)];omega
 cases lo with
 | none =>
  cases hi with
  | none =>
   have:=core 0 n (by omega) (by omega)
   simpa [Builtin.Str.strSliceIndices,hiN] using this
  | some j =>
   have:=core 0 (min j.toNat n) (by omega) (by omega)
   simp only [Builtin.Str.strSliceIndices,show ((1:Int) > 0)=True from by simp,if_true];rw [clip j hh];simpa [hiN] using this
 | some i =>
  cases hi with
  | none =>
   have:=core (min i.toNat n) n (by omega) (by omega)
   simp only [Builtin.Str.strSliceIndices,show ((1:Int) > 0)=True from by simp,if_true];rw [clip i hl];simpa [hiN] using this
  | some j =>
   have:=core (min i.toNat n) (min j.toNat n) (by omega) (by omega)
   simp only [Builtin.Str.strSliceIndices,show ((1:Int) > 0)=True from by simp,if_true];rw [clip i hl,clip j hh];simpa [hiN] using this
theorem scut_txt(z:Str){lo hi:Option Int}(hl:NN lo)(hh:NN hi):Txt.slice z lo hi=scut z lo hi:=by
 have len:z.cps.toList.length=z.length:=by simp [Str.length]
 have e:=sidx z.length hl hh;have p:=StrLaws.picks z.cps.toList (hiN z.length hi - min (lo.getD 0).toNat z.length) (min (lo.getD 0).toNat z.length) (by have:=hiN_le z.length hi;rw [len];omega)
 have q:(z.cps.toList.drop (min (lo.getD 0).toNat z.length)).take (hiN z.length hi - min (lo.getD 0).toNat z.length)=(hiL z.cps.toList hi).drop (lo.getD 0).toNat:=by
  generalize (lo.getD 0).toNat=a;cases hi with
  | none =>
   show List.take (z.length - min a z.length) (List.drop (min a z.length) z.cps.toList)=List.drop a z.cps.toList;by_cases ha:a≤z.length
   ·rw [Nat.min_eq_left ha,List.take_of_length_le (by rw [List.length_drop,len];exact Nat.le_refl _)]
   ·rw [Nat.min_eq_right (by omega),List.drop_of_length_le (by rw [len];exact Nat.le_refl _),List.drop_of_length_le (by rw [len];omega)];simp
  | some j =>
   show List.take (min j.toNat z.length - min a z.length) (List.drop (min a z.length) z.cps.toList)=List.drop a (z.cps.toList.take j.toNat);rw [List.drop_take];generalize j.toNat=b;by_cases ha:a≤z.length
   ·rw [Nat.min_eq_left ha];by_cases hb:b≤z.length
    ·rw [Nat.min_eq_left hb]
    ·rw [Nat.min_eq_right (by omega),List.take_of_length_le (by rw [List.length_drop,len];exact Nat.le_refl _),List.take_of_length_le (by rw [List.length_drop,len];omega)]
   ·rw [Nat.min_eq_right (by omega:z.length≤a),List.drop_of_length_le (by rw [len];exact Nat.le_refl _),List.drop_of_length_le (by rw [len];omega)];simp
 have r:(Builtin.Str.strSliceIndices lo hi 1 z.length).filterMap (z.cps[·]?)=(hiL z.cps.toList hi).drop (lo.getD 0).toNat:=by
  rw [← q,← p,e];simp
 unfold Txt.slice scut;split
 ·rename_i c;have c':(Builtin.Str.strSliceIndices lo hi 1 z.length).length=z.length:=by simpa using c
  rw [e,List.length_map,List.length_range] at c'
  have w:(z.cps.toList.drop (min (lo.getD 0).toNat z.length)).take (hiN z.length hi - min (lo.getD 0).toNat z.length)=z.cps.toList:=by
   have b:=hiN_le z.length hi;by_cases h0:z.length=0
   ·have:z.cps.toList=[]:=List.length_eq_zero_iff.mp (by rw [len];exact h0)
    rw [this];simp
   ·have a0:min (lo.getD 0).toNat z.length=0:=by omega
    rw [a0,List.drop_zero,List.take_of_length_le (by rw [len];omega)]
  rw [← q,w]
 ·rw [r]
def rSlS:V→Option Int→Option Int→Hp→VK→Prop:=fun x lo hi H Q=>∃z,x = .str z∧z.length≤sizeLine∧NN lo∧NN hi∧Q (.str (scut z lo hi)) H
def rMin2:List V→Hp→VK→Prop:=fun xs H Q=>∃i j,xs=[.int i,.int j]∧Q (.int (if j < i then j else i)) H
section
variable{X:Cx}
theorem sl_str:SlR X rSlS:=by
 intro pins s σ H x v vl vu lo hi sl Q I rx hs pl pu h;obtain ⟨z,rfl,hz,hl,hh,q⟩:=h;obtain ⟨t,rfl⟩:=rx;refine ⟨"str",_,F.slot_str_getitem.lookup,typeIs_str _ _ _,?_⟩
 have fin:∀(l u:Option (Int×Tok)),l.map (·.1)=lo→u.map (·.1)=hi→(sliceMade z t l u none).post (EP X pins σ Q) s:=by
  intro l u el eu
  have e:sliceMade z t l u none=if ((1:Int) == 1 && (Builtin.Str.strSliceIndices lo hi 1 z.length).length == z.length)=true then Made.val (.str z t) else .str ⟨((Builtin.Str.strSliceIndices lo hi 1 z.length).filterMap (z.cps[·]?)).toArray⟩:=by
   unfold sliceMade slicePicked;rw [el,eu];rfl
  rw [e];have lt:=Txt.slice_le z lo hi;have eq:=scut_txt z hl hh;unfold Txt.slice at lt eq;refine post_val_or_str ⟨Nat.le_trans lt hz,fun t' k=>⟨.str (scut z lo hi),H,I.tok k,⟨t',?_⟩,q⟩⟩;rw [eq]
 cases pl with
 | none =>
  cases pu with
  | none=>exact wpAny_getItem_str_slice (l:=none) (u:=none) (st:=none) hs rfl (fin none none rfl rfl)
  | int j tj=>exact wpAny_getItem_str_slice (l:=none) (u:=some (j,tj)) (st:=none) hs rfl (fin none (some (j,tj)) rfl rfl)
 | int i ti =>
  cases pu with
  | none=>exact wpAny_getItem_str_slice (l:=some (i,ti)) (u:=none) (st:=none) hs rfl (fin (some (i,ti)) none rfl rfl)
  | int j tj=>exact wpAny_getItem_str_slice (l:=some (i,ti)) (u:=some (j,tj)) (st:=none) hs rfl (fin (some (i,ti)) (some (j,tj)) rfl rfl)
end
def RawD(h:Heap)(d:Addr)(es:Array DictEntry)(ep:Nat):Prop:=∃o,h.get? d=some o∧o.ExactDict∧o.data = .dict es ep
section
variable{prog:Program}{w:World}{A:Around}{E:Value→Shared→Prop}{s:Shared}{d it:Addr}{es:Array DictEntry}{ep i:Nat}
theorem RawD.ty (m:RawD s.heap d es ep):s.TypeIs (.ref d) "dict":=by
 obtain ⟨o,a,b,_⟩:=m;exact ⟨o,a,b.1⟩
theorem RawD.at{h h':Heap}(m:RawD h d es ep)(k:∀o,h.get? d=some o→h'.get? d=some o):RawD h' d es ep:=by
 obtain ⟨o,a,b⟩:=m;exact ⟨o,k o a,b⟩
theorem raw_iter {Q:Value→Shared→Prop} (lo:(d == sysModules)=false) (m:RawD s.heap d es ep) (q:Q (.ref s.heap.objs.size) { s with heap:=s.heap.push { cls:=.type "dict_keyiterator",data:=.fields #[.ref d,.int 0 0,.int es.size 0,.int ep 0] } }) :
  wpAny (model prog w) A (pyIter (.ref d)) Q E s:=by
 have ty:=m.ty;obtain ⟨o,ho,_,dt⟩:=m;refine wpAny_pyIter_slot ty F.slot_dict_iter (wpAny_call_entry F.slot_dict_iter ty F.entry_dict_iter ?_ (F.args_dict_iter_1 _));unfold Builtin.«dict.__iter__» Builtin.Dict.dictSlotNone;refine wpAny_bind (wpAny_bind (wpAny_notOrdered_dict ty ?_));show wpAny _ _ (pure (Value.ref d)) _ _ s;refine wpAny_pure ?_;show wpAny _ _ (Builtin.Dict.showsAll d >>= _) _ _ s;unfold Builtin.Dict.showsAll;rw [if_neg (fun z=>by rw [lo] at z;cases z)];refine wpAny_bind (wpAny_pure (wpAny_bind (wpAny_dictEntries ho dt (wpAny_bind (wpAny_dictEpoch ho dt ?_)))));refine wpAny_bind (wpAny_newObj_type (wpAny_pure ⟨_,rfl,"dict_keyiterator",_,⟨_,Heap.get?_push_size _ rfl,rfl⟩,F.slot_dict_keyiterator_next.lookup,?_⟩));simpa [rawInt] using q
theorem raw_next{Q:Option Value→Shared→Prop}(ki:s.heap.IsKeyIter it d i es.size ep)(m:RawD s.heap d es ep) :
  (∀e,es[i]? = some e→(∀h',h'.IsKeyIter it d (i+1) es.size ep→Heap.SameBut it s.heap h'→Q (some e.key) { s with heap:=h' })→wpAny (model prog w) A (pyNext (.ref it)) Q E s) ∧
  (A.handled=none→es[i]? = none→(∀h',Heap.ExtBut it s.heap h'→Q none { s with heap:=h' })→wpAny (model prog w) A (pyNext (.ref it)) Q E s):=by
 obtain ⟨o,ho,oc,od⟩:=id ki;obtain ⟨dd,hd,_,dt⟩:=id m;have own:Builtin.Dict_items.ownsTuple "dict_keyiterator" = false:=by decide
 have nn : ¬ ((Value.ref d == Value.none)=true):=Bool.false_ne_true;constructor
 ·intro e he hq;unfold pyNext;refine wpAny_bind (wpAny_attempt (wpAny_callSpecial?_slot (name:=Str.ofString "__next__") ki.typeIs F.slot_dict_keyiterator_next (wpAny_call_entry F.slot_dict_keyiterator_next ki.typeIs F.entry_dict_keyiterator_next ?_ (F.args_dict_keyiterator_next_1 _))));refine wpAny_bind (wpAny_pure (wpAny_bind (wpAny_bind (wpAny_bind (wpAny_typeNameOfWhole_keyiter ki.typeIs (wpAny_pure (wpAny_bind (wpAny_fieldsOf ho od ?_))))))));simp only [own,Bool.false_eq_true,if_false];show wpAny _ _ (if (Value.ref d == Value.none)=true then _ else _) _ _ s;rw [if_neg nn];refine wpAny_bind (wpAny_pure (wpAny_bind (wpAny_dictEntries hd dt ?_)));rw [if_neg (by simp)];refine wpAny_bind (wpAny_pure (wpAny_bind (wpAny_dictEpoch hd dt ?_)));rw [if_neg (by simp)];refine wpAny_pure ?_;simp only [show ¬ ((i:Int) < 0) from by omega,if_false,Int.toNat_natCast,he];refine wpAny_bind (wpAny_bind (wpAny_typeNameOfWhole_keyiter ki.typeIs (wpAny_pure (wpAny_bind (wpAny_isOneOf_keyiter ki.typeIs ?_)))));show wpAny _ _ (setField (.ref it) 1 (rawInt ((i:Int)+1)) >>= _) _ _ s;refine wpAny_bind (wpAny_setField ho od (by simp) ?_);have k2:(s.heap.update it (Obj.mapFields (·.setIfInBounds 1 (rawInt ((i:Int)+1))))).IsKeyIter it d (i+1) es.size ep:=⟨_,Heap.get?_update_self _ ho (Obj.isFreed_of_fields (Obj.data_mapFields od _)),(Obj.cls_mapFields ..).trans oc,by rw [Obj.data_mapFields od];simp [rawInt]⟩
  refine wpAny_bind (wpAny_holding (wpAny_bind (wpAny_isOneOf_keyiter (s:={ s with heap:=s.heap.update it (Obj.mapFields (·.setIfInBounds 1 (rawInt ((i:Int)+1)))) }) k2.typeIs ?_)));show wpAny _ _ (pure e.key) _ _ _;exact wpAny_pure (wpAny_pure ⟨_,rfl,wpAny_pure (hq _ k2 (Heap.SameBut.update ..))⟩)
 ·intro hh he hq;unfold pyNext;refine wpAny_bind (wpAny_attempt (wpAny_callSpecial?_slot (name:=Str.ofString "__next__") ki.typeIs F.slot_dict_keyiterator_next (wpAny_call_entry F.slot_dict_keyiterator_next ki.typeIs F.entry_dict_keyiterator_next ?_ (F.args_dict_keyiterator_next_1 _))));refine wpAny_bind (wpAny_pure (wpAny_bind (wpAny_bind (wpAny_bind (wpAny_typeNameOfWhole_keyiter ki.typeIs (wpAny_pure (wpAny_bind (wpAny_fieldsOf ho od ?_))))))));simp only [own,Bool.false_eq_true,if_false];show wpAny _ _ (if (Value.ref d == Value.none)=true then _ else _) _ _ s;rw [if_neg nn];refine wpAny_bind (wpAny_pure (wpAny_bind (wpAny_dictEntries hd dt ?_)));rw [if_neg (by simp)];refine wpAny_bind (wpAny_pure (wpAny_bind (wpAny_dictEpoch hd dt ?_)));rw [if_neg (by simp)];refine wpAny_pure ?_;simp only [show ¬ ((i:Int) < 0) from by omega,if_false,Int.toNat_natCast,he];refine wpAny_bind (wpAny_bind (wpAny_typeNameOfWhole_keyiter ki.typeIs (wpAny_pure ?_)));show wpAny _ _ (setField (.ref it) 0 .none >>= _) _ _ s;refine wpAny_bind (wpAny_setField ho od (by simp) ?_);show wpAny _ _ (newExc (.type "StopIteration") [] >>= _) _ _ _;refine wpAny_bind ?_;simp only [newExc,newTuple];refine wpAny_bind (wpAny_newObj_type ?_ (by size_fits));refine wpAny_bind (m:=firstArgMember _ _) (wpAny_of_eq (a:=Value.none) (by simp only [firstArgMember];rfl) (wpAny_newObj_type ?_ (by size_fits)));simp only [raiseNew];refine wpAny_bind (wpAny_handled ?_);rw [show A.in1.handled=none from hh];refine wpAny_bind (wpAny_pure (wpAny_throw ?_));refine wpAny_bind (wpAny_isInstance (T:="StopIteration") (b:=true) ⟨_,Heap.get?_push_size _ rfl,rfl⟩ isSubtype_stop ?_);exact wpAny_pure (hq _ (((Heap.SameBut.update ..).extBut.push _).push _))
theorem raw_walks(hh:A.handled=none)(I d:Addr)(ne:d≠I)(es:Array DictEntry)(ep:Nat):Walks prog w A I [I,d] [I] es.size (fun i v=>∃e,es[i]? = some e∧v=e.key) (fun i h=>h.IsKeyIter I d i es.size ep∧RawD h d es ep) where
 sub:=fun b hb=>by rw [List.mem_singleton.mp hb];simp
 frame:=fun _ _ _ st hk=>⟨st.1.at fun o e=>hk I (by simp) o e,st.2.at fun o e=>hk d (by simp) o e⟩
 item:=fun i s Q E hi st hq=>by
  refine (raw_next st.1 st.2).1 es[i] (by simp [hi]) fun h' k1 k2=>?_
  exact hq _ h' s.toks ⟨es[i],by simp [hi],rfl⟩ ⟨k1,st.2.at fun o e=>k2.extBut d o ne e⟩ fun b o hb e=>k2.extBut b o (fun z=>hb (by simp [z])) e
 done:=fun s Q E st hq=>(raw_next st.1 st.2).2 hh (by simp) fun h' k=>hq h' s.toks fun b o hb e=>k b o (fun z=>hb (by simp [z])) e
 self:=fun _ _ _ _ st hq=>wpAny_pyIter_keyiter st.1 hq
theorem raw_src (lo:(d == sysModules)=false):PySem.W.KdlSrc prog w "dict" d d es.size (fun i v=>∃e,es[i]? = some e∧v=e.key) (fun h=>RawD h d es ep) where
 type:=fun _ m=>m.ty
 there:=fun _ ⟨_,e,_⟩=>⟨Heap.lt_size e,Heap.lt_size e⟩
 keep:=fun _ _ m hk=>m.at fun o e=>hk d (.inl rfl) o e
 notList:=by decide
 notTuple:=by decide
 hint:=fun _ _ _ _ m q=>PySem.W.kdl_hint_dict m.ty q
 iter:=fun _ _ hh m=>⟨_,_,(fun _ _ q=>raw_iter lo m q),raw_walks hh _ d (by obtain ⟨_,e,_⟩:=m;exact Nat.ne_of_lt (Heap.lt_size e)) es ep,⟨⟨_,Heap.get?_push_size _ rfl,rfl,rfl⟩,m.at fun _ e=>Heap.get?_push_of_some _ e⟩⟩
end
theorem refs_vals:∀ys:List (List Key×Addr×Value),Vals (ys.map (V.ref∘fun y=>y.2.1)) (ys.map fun y=>Value.ref y.2.1)
 | []=>.nil
 | _ :: ys=>.cons rfl (refs_vals ys)
theorem kt_refs{H:Hp}{kvs:List (List Key×V)}{ys:List (List Key×Addr×Value)}(r:KT H kvs ys):Paired (fun (p:List Key×V) b=>H b=some (.tup (p.1.map kV))) kvs (ys.map fun y=>y.2.1):=by
 induction r with
 | nil=>exact .nil
 | cons h t ih=>exact .cons h.2.1 ih
def rListD:List V→Hp→VK→Prop:=fun xs H Q=>∃a kvs,xs=[.ref a]∧H a=some (.dT kvs)∧∀(l:Addr) (bs:List Addr),H l=none→Paired (fun (p:List Key×V) b=>H b=some (.tup (p.1.map kV))) kvs bs→Q (.ref l) (upd H l (.lst (bs.map V.ref)))
theorem call_listD {X:Cx} (hc:X.calm=true):CallR X (.type "list") rListD:=by
 intro pins s σ H xs us Q I r h;obtain ⟨a,kvs,rfl,ha,q⟩:=h;obtain ⟨u,rfl,ru⟩:=vals1 r;cases ru;obtain ⟨z,lo,ys,kt,o,es,ep,ho,ex,dt,he,_,_⟩:=dt_of I.hok ha;have sz:es.size=kvs.length:=by rw [← Array.length_toList,he,List.length_map];exact (Paired.length kt).symm
 refine PySem.W.kdl_call (raw_src (es:=es) (ep:=ep) lo) (I.ok.hd hc) ⟨o,ho,ex,dt⟩ (by rw [sz];exact z) fun h' tk acc c kp hl hit=>?_
 have acc_eq:acc.toList=ys.map fun y=>Value.ref y.2.1:=by
  refine List.ext_getElem? fun j=>?_
  by_cases lt:j < es.size
  ·have hj:j < acc.toList.length:=by rw [Array.length_toList];rw [hit.1];exact lt
   have e1:acc.toList[j]? = some acc.toList[j]:=List.getElem?_eq_getElem hj;obtain ⟨e,ee,ev⟩:=hit.2 j acc.toList[j] (by rw [← Array.getElem?_toList];exact e1);rw [e1,ev];rw [← Array.getElem?_toList,he,List.getElem?_map] at ee;obtain ⟨y,hy1,hy2⟩:=Option.map_eq_some_iff.mp ee;rw [List.getElem?_map,hy1,← hy2];rfl
  ·rw [List.getElem?_eq_none (by rw [Array.length_toList,hit.1];omega),List.getElem?_eq_none];rw [List.length_map]
   have:=Paired.length kt
   omega
 have vals:Vals ((ys.map fun y=>y.2.1).map V.ref) acc.toList:=by
  rw [acc_eq,List.map_map];exact refs_vals ys
 have prd:Paired (fun (p:List Key×V) b=>H b=some (.tup (p.1.map kV))) kvs (ys.map fun y=>y.2.1):=by
  exact kt_refs kt
 refine ⟨.ref s.heap.objs.size,_,I.laid (t':=tk) kp (Nat.le_refl _) (show ObjOk X.prog X.w _ h' _ (.lst ((ys.map fun y=>y.2.1).map V.ref)) from ⟨?_,acc.toList,c,vals,by rw [Array.toArray_toList];exact hl⟩),rfl,q _ _ (I.hok.fresh (Nat.le_refl _)) prd⟩;rw [List.length_map,List.length_map,← Paired.length kt];exact z
section
variable{X:Cx}{pins:List (Addr×Obj)}{σ : St}{H:Hp}{s:Shared}{h':Heap}
theorem Inv.turnedL{t':Nat}{fp:List Addr}(I:Inv X pins σ H s)(k:∀b o,b∉fp→s.heap.get? b=some o→h'.get? b=some o)(hf:∀b∈fp,FpOk X pins H b):Inv X pins σ H { s with heap:=h',toks:=t' }:=by
 have nit:∀b u,H b=some u→b∉fp:=fun b u e z=>by
  have q:=(hf b z).1;rw [q] at e;cases e
 refine I.step (g':=s.gens) (d':=s.drawn) (ch:=fp) (fun b hb=>⟨(hf b hb).2.2.2.1,(hf b hb).2.1,(hf b hb).2.2.2.2.1,(hf b hb).2.2.2.2.2⟩) (fun b o _ _ hc e _=>k b o hc e) (fun b o _ _ hc e _=>⟨o.slots,k b o hc e⟩) (fun _ _ _ _ n=>n)
  (fun b o hc e=>⟨o,k b o hc e⟩) (fun _ _ e=>e) (fun _ _ _ e=>e) (fun b ps e=>⟨#[],by rw [e,Array.append_empty]⟩) (fun m hm=>?_) (fun b u e=>?_) I.bare
 ·obtain ⟨o,es,ep,ho,r⟩:=hm;exact ⟨o,es,ep,k _ o (fun z=>(hf _ z).2.1 rfl) ho,r⟩
 ·refine (I.hok b u e).stay (fun c v hc q=>k c v ?_ q) (fun _ q=>q) fun _ _ q=>q
  rcases hc with z | z
  ·rw [z];exact nit b u e
  ·exact nit c _ z
end
structure Drw (prog:Program) (w:World) (it l:Addr) (xs:Array Value) (St:Nat→Heap→Prop):Prop where
 keep:∀k h h',St k h→(∀b,b=it∨b=l→∀o,h.get? b=some o→h'.get? b=some o)→St k h'
 there:∀k h,St k h→it < h.objs.size∧∃o,h.get? it=some o∧∀v,o.data≠.cell v
 item:∀(A:Around) (E:Value→Shared→Prop) (s:Shared) (k:Nat) (x:Value) (Q:Value→Shared→Prop),St k s.heap→xs[k]? = some x→(∀h',St (k+1) h'→Heap.SameBut it s.heap h'→Q x { s with heap:=h' })→wpAny (model prog w) A (Builtin.SmallTypes.nextOf (.ref it)) Q E s
 fin:∀(A:Around) (E:Value→Shared→Prop) (s:Shared) (k:Nat) (Q:Value→Shared→Prop),A.handled=none→St k s.heap→xs[k]? = none →
  (∀h' e,Heap.ExtBut it s.heap h'→(∃o,h'.get? e=some o∧o.cls = .type "StopIteration")→E (.ref e) { s with heap:=h' })→wpAny (model prog w) A (Builtin.SmallTypes.nextOf (.ref it)) Q E s
section
variable{prog:Program}{w:World}{A:Around}{E:Value→Shared→Prop}{s:Shared}
theorem drw_list(it l:Addr)(ne:l≠it)(xs:Array Value):Drw prog w it l xs (fun k h=>h.IsListIter it l k∧h.IsList l xs) where
 keep:=fun k h h' st hk=>⟨st.1.at fun o e=>hk it (.inl rfl) o e,st.2.at fun o e=>hk l (.inr rfl) o e⟩
 there:=fun k h ⟨⟨o,e,_,d⟩,_⟩=>⟨Heap.lt_size e,o,e,fun v z=>by rw [d] at z;cases z⟩
 item:=fun A E s k x Q st hx q=>wpAny_nextOf_list_item st.1 st.2 hx fun h' a b=>q h' ⟨a,st.2.at fun o e=>b.extBut l o ne e⟩ b
 fin:=fun A E s k Q hh st hx q=>wpAny_nextOf_list_end hh st.1 st.2 hx q
theorem drw_tup(it l:Addr)(ne:l≠it)(xs:Array Value):Drw prog w it l xs (fun k h=>h.IsTupleIter it l k∧h.IsTuple l xs) where
 keep:=fun k h h' st hk=>⟨st.1.at fun o e=>hk it (.inl rfl) o e,by obtain ⟨o,e,r⟩:=st.2;exact ⟨o,hk l (.inr rfl) o e,r⟩⟩
 there:=fun k h ⟨⟨o,e,_,d⟩,_⟩=>⟨Heap.lt_size e,o,e,fun v z=>by rw [d] at z;cases z⟩
 item:=fun A E s k x Q st hx q=>by
  obtain ⟨o,ho,oc,od⟩:=id st.1;obtain ⟨ol,hl,_,nl,dl⟩:=id st.2;unfold Builtin.SmallTypes.nextOf;refine wpAny_bind (wpAny_callSpecial?_slot (name:=Str.ofString "__next__") st.1.typeIs F.slot_tuple_iterator_next (wpAny_call_entry F.slot_tuple_iterator_next st.1.typeIs F.entry_tuple_iterator_next ?_ (F.args_tuple_iterator_next_1 _)));show wpAny _ _ (field (.ref it) 0 >>= _) _ _ s;refine wpAny_bind (wpAny_field ho od (x:=.ref l) rfl ?_);show wpAny _ _ (if (Value.ref l == Value.none)=true then _ else _) _ _ s;rw [if_neg (show ¬ ((Value.ref l == Value.none)=true) from Bool.false_ne_true)];show wpAny _ _ (field (.ref it) 1 >>= _) _ _ s;refine wpAny_bind (wpAny_field ho od (x:=.int k 0) rfl ?_);show wpAny _ _ (seqItems? (.ref l) >>= _) _ _ s;refine wpAny_bind (wpAny_seqItems hl dl ?_);simp only [Int.toNat_natCast,hx];have k2:(s.heap.update it (Obj.mapFields (·.setIfInBounds 1 (rawInt ((k:Int)+1))))).IsTupleIter it l (k+1):=⟨_,Heap.get?_update_self _ ho (Obj.isFreed_of_fields (Obj.data_mapFields od _)),(Obj.cls_mapFields ..).trans oc,by rw [Obj.data_mapFields od];simp [rawInt]⟩
  exact wpAny_bind (wpAny_setField ho od (by simp) (wpAny_pure ⟨x,rfl,wpAny_pure (q _ ⟨k2,⟨ol,(Heap.SameBut.update ..).extBut l ol ne hl,by assumption,nl,dl⟩⟩ (Heap.SameBut.update ..))⟩))
 fin:=fun A E s k Q hh st hx q=>by
  obtain ⟨o,ho,oc,od⟩:=id st.1;obtain ⟨ol,hl,_,nl,dl⟩:=id st.2;unfold Builtin.SmallTypes.nextOf;refine wpAny_bind (wpAny_callSpecial?_slot (name:=Str.ofString "__next__") st.1.typeIs F.slot_tuple_iterator_next (wpAny_call_entry F.slot_tuple_iterator_next st.1.typeIs F.entry_tuple_iterator_next ?_ (F.args_tuple_iterator_next_1 _)));show wpAny _ _ (field (.ref it) 0 >>= _) _ _ s;refine wpAny_bind (wpAny_field ho od (x:=.ref l) rfl ?_);show wpAny _ _ (if (Value.ref l == Value.none)=true then _ else _) _ _ s;rw [if_neg (show ¬ ((Value.ref l == Value.none)=true) from Bool.false_ne_true)];show wpAny _ _ (field (.ref it) 1 >>= _) _ _ s;refine wpAny_bind (wpAny_field ho od (x:=.int k 0) rfl ?_);show wpAny _ _ (seqItems? (.ref l) >>= _) _ _ s;refine wpAny_bind (wpAny_seqItems hl dl ?_);simp only [Int.toNat_natCast,hx];refine wpAny_bind (wpAny_rule (wpAny_bind (wpAny_setField ho od (by simp) ?_)));show wpAny _ _ (newExc (.type "StopIteration") [] >>= _) _ _ _;refine wpAny_bind ?_;simp only [newExc,newTuple];refine wpAny_bind (wpAny_newObj_type ?_ (by size_fits));refine wpAny_bind (m:=firstArgMember _ _) (wpAny_of_eq (a:=Value.none) (by simp only [firstArgMember];rfl) ?_);refine wpAny_newObj_type ?_ (by size_fits);simp only [raiseNew];refine wpAny_bind (wpAny_handled ?_);rw [show A.in1.handled=none from hh];exact wpAny_bind (wpAny_pure (wpAny_throw (q _ _ (((Heap.SameBut.update ..).extBut.push _).push _) ⟨_,Heap.get?_push_size _ rfl,rfl⟩)))
end
structure ZAp (z TI TO i1 i2 l1 l2:Addr):Prop where
 a:i1 < i2
 b:i2 < TI
 c:TI < TO
 d:TO < z
 e:l1 < i1
 f:l2 < i1
theorem zap_nat{z TI TO i1 i2 l1 l2:Nat}(a:i1 < i2)(b:i2 < TI)(c:TI < TO)(d:TO < z)(e:l1 < i1)(f:l2 < i1) :
  i1≠z∧i2≠z∧TO≠i1∧TO≠i2∧TO≠z∧TI≠z∧TI≠TO∧TI≠i1∧TI≠i2∧i1≠i2∧l1≠z∧l1≠TO∧l1≠i2∧l2≠z∧l2≠TO∧l2≠i1:=by
 have iT:=Nat.lt_trans b c;have iz:=Nat.lt_trans iT d;have jI:=Nat.lt_trans a b;have jT:=Nat.lt_trans a iT;have jz:=Nat.lt_trans a iz;have tz:=Nat.lt_trans c d;exact ⟨Nat.ne_of_lt jz,Nat.ne_of_lt iz,Nat.ne_of_gt jT,Nat.ne_of_gt iT,Nat.ne_of_lt d,Nat.ne_of_lt tz,Nat.ne_of_lt c,Nat.ne_of_gt jI,Nat.ne_of_gt b,Nat.ne_of_lt a,Nat.ne_of_lt (Nat.lt_trans e jz),Nat.ne_of_lt (Nat.lt_trans e jT),Nat.ne_of_lt (Nat.lt_trans e a),Nat.ne_of_lt (Nat.lt_trans f jz),Nat.ne_of_lt (Nat.lt_trans f jT),Nat.ne_of_lt f⟩
section
variable{prog:Program}{w:World}{A:Around}{E:Value→Shared→Prop}{s:Shared}{z TI TO i1 i2 l1 l2:Addr}{xs ys:Array Value}{S1 S2:Nat→Heap→Prop}{k:Nat}
structure ZAt (z TI TO i1 i2:Addr) (S1 S2:Nat→Heap→Prop) (k:Nat) (h:Heap):Prop where
 z:IsZip h z TI TO .none
 i:IsPair h TI (.ref i1) (.ref i2)
 o:∃a b,IsPair h TO a b
 s1:S1 k h
 s2:S2 k h
theorem up_pair {T:Addr} {a b x:Value} {j:Nat} {Q:Unit→Shared→Prop} (hT:IsPair s.heap T a b) (q:∀h',h'.get? T=some { cls:=.type "tuple",data:=.seq ((#[a,b]:Array Value).setIfInBounds j x) }→Heap.SameBut T s.heap h'→Q () { s with heap:=h' }) :
  wpAny (model prog w) A (updateSeq T (·.setIfInBounds j x)) Q E s:=wpAny_updateSeq_pair hT q
theorem z_next(D:ZAp z TI TO i1 i2 l1 l2)(W1:Drw prog w i1 l1 xs S1)(W2:Drw prog w i2 l2 ys S2)(st:ZAt z TI TO i1 i2 S1 S2 k s.heap){Q:Option Value→Shared→Prop} :
  (∀x y,xs[k]? = some x→ys[k]? = some y→(∀h',IsZip h' z TI TO (rawInt s.heap.objs.size)→IsPair h' TI (.ref i1) (.ref i2)→(∃a b,IsPair h' TO a b)→S1 (k+1) h'→S2 (k+1) h'→IsPair h' s.heap.objs.size x y →
   (∀c o,c∉[z,TI,TO,i1,i2]→s.heap.get? c=some o→h'.get? c=some o)→Q (some (.ref s.heap.objs.size)) { s with heap:=h' })→wpAny (model prog w) A (pyNext (.ref z)) Q E s) ∧
  (A.handled=none→(xs[k]? = none∨ys[k]? = none)→(∀h',(∀c o,c∉[z,TI,TO,i1,i2]→s.heap.get? c=some o→h'.get? c=some o)→Q none { s with heap:=h' })→wpAny (model prog w) A (pyNext (.ref z)) Q E s):=by
 obtain ⟨d1,d2,d3,d4,d5,d6⟩:=D;obtain ⟨hz,hI,⟨a,b,hO⟩,t1,t2⟩:=st;have ty:s.TypeIs (.ref z) "zip":=⟨_,hz,rfl⟩
 obtain ⟨n1,n2,nO1,nO2,nOz,nIz,nIO,nI1,nI2,n12,q1,q2,q3,q4,q5,q6⟩:=zap_nat d1 d2 d3 d4 d5 d6
 have m1:∀{c h h':_},c∈[z,TO,i2]→Heap.ExtBut c h h'→∀k,S1 k h→S1 k h':=fun {c h h'} hc x k t=>W1.keep k h h' t fun b hb o e=>x b o (by
  rcases hb with rfl | rfl <;> (simp only [List.mem_cons,List.not_mem_nil,or_false] at hc;rcases hc with rfl | rfl | rfl <;> first | assumption | (apply Ne.symm;assumption))) e
 have m2:∀{c h h':_},c∈[z,TO,i1]→Heap.ExtBut c h h'→∀k,S2 k h→S2 k h':=fun {c h h'} hc x k t=>W2.keep k h h' t fun b hb o e=>x b o (by
  rcases hb with rfl | rfl <;> (simp only [List.mem_cons,List.not_mem_nil,or_false] at hc;rcases hc with rfl | rfl | rfl <;> first | assumption | (apply Ne.symm;assumption))) e
 constructor
 ·intro x y hx hy q;unfold pyNext;refine wpAny_bind (wpAny_attempt (wpAny_callSpecial?_slot (name:=Str.ofString "__next__") ty F.slot_zip_next (wpAny_call_entry F.slot_zip_next ty F.entry_zip_next ?_ (F.args_zip_next_1 _))));show wpAny _ _ (field (.ref z) 2 >>= _) _ _ _;refine wpAny_bind (wpAny_field hz rfl (x:=.bool false) rfl ?_);show wpAny _ _ (field (.ref z) 3 >>= _) _ _ _;refine wpAny_bind (wpAny_field hz rfl (x:=.ref TI) rfl (wpAny_bind (wpAny_seqItems hI rfl ?_)));show wpAny _ _ (Builtin.SmallTypes.ownedTupleIsFree (.ref z) >>= _) _ _ _;refine wpAny_bind ?_;unfold Builtin.SmallTypes.ownedTupleIsFree;refine wpAny_bind (wpAny_field hz rfl (x:=.none) rfl (wpAny_pure ?_));simp only [if_true];refine wpAny_bind (wpAny_rule (wpAny_bind (wpAny_field hz rfl (x:=.ref TO) rfl (wpAny_bind (wpAny_setField_rec hz (by simp) fun h1 hz1 hs1=>?_)))));replace hz1:IsZip h1 z TI TO .ellipsis:=hz1;refine wpAny_bind ?_;simp only [List.zipIdx_cons,List.zipIdx_nil,List.forIn_cons,List.forIn_nil];refine wpAny_bind (wpAny_bind (wpAny_onRaise ?_));show wpAny _ _ (Builtin.SmallTypes.nextOf (.ref i1) >>= _) _ _ _;refine wpAny_bind (W1.item _ _ _ k x _ (m1 (by simp) hs1.extBut k t1) hx fun h2 t12 hs2=>wpAny_pure ?_);have hO2:IsPair h2 TO a b:=hs2.extBut _ _ nO1 (hs1.extBut _ _ nOz hO);refine wpAny_bind (wpAny_seqItems hO2 rfl (wpAny_bind (up_pair hO2 fun h3 hO3 hs3=>?_)));replace hO3:IsPair h3 TO x b:=hO3;refine wpAny_bind (wpAny_letGo (wpAny_pure (wpAny_bind (wpAny_bind (wpAny_onRaise ?_)))));show wpAny _ _ (Builtin.SmallTypes.nextOf (.ref i2) >>= _) _ _ _;refine wpAny_bind (W2.item _ _ _ k y _ (m2 (by simp) hs3.extBut k (m2 (by simp) hs2.extBut k (m2 (by simp) hs1.extBut k t2))) hy fun h4 t24 hs4=>wpAny_pure ?_);have hO4:IsPair h4 TO x b:=hs4.extBut _ _ nO2 hO3;refine wpAny_bind (wpAny_seqItems hO4 rfl (wpAny_bind (up_pair hO4 fun h5 hO5 hs5=>?_)));replace hO5:IsPair h5 TO x y:=hO5;refine wpAny_bind (wpAny_letGo (wpAny_pure (wpAny_pure (wpAny_bind (wpAny_seqItems hO5 rfl (wpAny_bind (wpAny_newTuple ?_)))))));have sz:h5.objs.size=s.heap.objs.size:=by rw [hs5.1,hs4.1,hs3.1,hs2.1,hs1.1]
  have hz5:IsZip h5 z TI TO .ellipsis:=hs5.extBut _ _ nOz.symm (hs4.extBut _ _ n2.symm (hs3.extBut _ _ nOz.symm (hs2.extBut _ _ n1.symm hz1)))
  have all5:∀c o,c∉[z,TI,TO,i1,i2]→s.heap.get? c=some o→h5.get? c=some o:=fun c o hc e=>by
   simp only [List.mem_cons,List.not_mem_nil,or_false,not_or] at hc;exact hs5.extBut _ _ hc.2.2.1 (hs4.extBut _ _ hc.2.2.2.2 (hs3.extBut _ _ hc.2.2.1 (hs2.extBut _ _ hc.2.2.2.1 (hs1.extBut _ _ hc.1 e))))
  have hI5:IsPair h5 TI (.ref i1) (.ref i2):=hs5.extBut _ _ nIO (hs4.extBut _ _ nI2 (hs3.extBut _ _ nIO (hs2.extBut _ _ nI1 (hs1.extBut _ _ nIz hI))));have zlt:z < h5.objs.size:=Heap.lt_size hz5;show wpAny _ _ (Builtin.SmallTypes.ownedTupleHandOut (.ref z) (.ref h5.objs.size) >>= _) _ _ _;refine wpAny_bind ?_;unfold Builtin.SmallTypes.ownedTupleHandOut;have hz6:IsZip (h5.push { cls:=.type "tuple",data:=.seq #[x,y] }) z TI TO .ellipsis:=Heap.get?_push_of_some _ hz5;refine wpAny_bind (wpAny_setField_rec hz6 (by simp) fun h7 hz7 hs7=>?_);replace hz7:IsZip h7 z TI TO (rawInt h5.objs.size):=hz7;refine wpAny_setField_rec hz7 (by simp) fun h8 hz8 hs8=>?_;replace hz8:IsZip h8 z TI TO (rawInt h5.objs.size):=hz8
  have up:∀c o,c≠z→h5.get? c=some o→h8.get? c=some o:=fun c o c1 e=>hs8.extBut _ _ c1 (hs7.extBut _ _ c1 (Heap.get?_push_of_some _ e))
  have hT:IsPair h8 h5.objs.size x y:=hs8.extBut _ _ (Nat.ne_of_gt zlt) (hs7.extBut _ _ (Nat.ne_of_gt zlt) (Heap.get?_push_size _ rfl));have t1':S1 (k+1) h8:=W1.keep _ _ _ (m1 (by simp) hs5.extBut _ (m1 (by simp) hs4.extBut _ (m1 (by simp) hs3.extBut _ t12))) fun c hc o e=>up c o (by rcases hc with rfl | rfl <;> first | assumption | (apply Ne.symm;assumption)) e
  have t2':S2 (k+1) h8:=W2.keep _ _ _ (m2 (by simp) hs5.extBut _ t24) fun c hc o e=>up c o (by rcases hc with rfl | rfl <;> first | assumption | (apply Ne.symm;assumption)) e
  rw [sz] at hz8 hT;refine wpAny_pure ⟨_,rfl,?_⟩;show wpAny _ _ (pure (some (Value.ref h5.objs.size))) _ _ _;rw [sz];exact wpAny_pure (q h8 hz8 (up _ _ nIz hI5) ⟨_,_,up _ _ nOz hO5⟩ t1' t2' hT fun c o hc e=>up c o (fun x=>hc (by simp [x])) (all5 c o hc e))
 ·intro hh hend q
  have stop:∀(h9:Heap) (e:Addr),(∀c o,c∉[z,TI,TO,i1,i2]→s.heap.get? c=some o→h9.get? c=some o)→(∃o,h9.get? e=some o∧o.cls = .type "StopIteration") →
    wpAny (model prog w) A (isInstance (.ref e) (.type "StopIteration") >>= fun b=>if b=true then pure none else throw (.ref e)) Q E { s with heap:=h9 }:=fun h9 e kp ⟨o,ho,oc⟩ =>
   wpAny_bind (wpAny_isInstance (T:="StopIteration") (b:=true) ⟨o,ho,oc⟩ isSubtype_stop (wpAny_pure (q _ kp)))
  unfold pyNext;refine wpAny_bind (wpAny_attempt (wpAny_callSpecial?_slot (name:=Str.ofString "__next__") ty F.slot_zip_next (wpAny_call_entry F.slot_zip_next ty F.entry_zip_next ?_ (F.args_zip_next_1 _))));show wpAny _ _ (field (.ref z) 2 >>= _) _ _ _;refine wpAny_bind (wpAny_field hz rfl (x:=.bool false) rfl ?_);show wpAny _ _ (field (.ref z) 3 >>= _) _ _ _;refine wpAny_bind (wpAny_field hz rfl (x:=.ref TI) rfl (wpAny_bind (wpAny_seqItems hI rfl ?_)));show wpAny _ _ (Builtin.SmallTypes.ownedTupleIsFree (.ref z) >>= _) _ _ _;refine wpAny_bind ?_;unfold Builtin.SmallTypes.ownedTupleIsFree;refine wpAny_bind (wpAny_field hz rfl (x:=.none) rfl (wpAny_pure ?_));simp only [if_true];refine wpAny_bind (wpAny_rule (wpAny_bind (wpAny_field hz rfl (x:=.ref TO) rfl (wpAny_bind (wpAny_setField_rec hz (by simp) fun h1 hz1 hs1=>?_)))));replace hz1:IsZip h1 z TI TO .ellipsis:=hz1;refine wpAny_bind ?_;simp only [List.zipIdx_cons,List.zipIdx_nil,List.forIn_cons,List.forIn_nil];refine wpAny_bind (wpAny_bind (wpAny_onRaise ?_));show wpAny _ _ (Builtin.SmallTypes.nextOf (.ref i1) >>= _) _ _ _;cases hx:xs[k]? with
  | none =>
   refine wpAny_bind (W1.fin _ _ _ k _ hh (m1 (by simp) hs1.extBut k t1) hx fun h2 e hs2 ⟨oe,hoe,hce⟩=>?_);have hz2:IsZip h2 z TI TO .ellipsis:=hs2 _ _ n1.symm hz1;have ez:e≠z:=fun x=>by subst x;rw [hz2] at hoe;cases hoe;simp at hce
   refine wpAny_setField_rec hz2 (by simp) fun h3 _ hs3=>stop h3 e (fun c o hc u=>?_) ⟨oe,hs3.extBut _ _ ez hoe,hce⟩
   simp only [List.mem_cons,List.not_mem_nil,or_false,not_or] at hc;exact hs3.extBut _ _ hc.1 (hs2 _ _ hc.2.2.2.1 (hs1.extBut _ _ hc.1 u))
  | some x =>
   have hy:ys[k]? = none:=by rcases hend with u | u;rw [hx] at u;cases u;exact u
   refine wpAny_bind (W1.item _ _ _ k x _ (m1 (by simp) hs1.extBut k t1) hx fun h2 t12 hs2=>wpAny_pure ?_);have hO2:IsPair h2 TO a b:=hs2.extBut _ _ nO1 (hs1.extBut _ _ nOz hO);refine wpAny_bind (wpAny_seqItems hO2 rfl (wpAny_bind (up_pair hO2 fun h3 hO3 hs3=>?_)));refine wpAny_bind (wpAny_letGo (wpAny_pure (wpAny_bind (wpAny_bind (wpAny_onRaise ?_)))));show wpAny _ _ (Builtin.SmallTypes.nextOf (.ref i2) >>= _) _ _ _;refine wpAny_bind (W2.fin _ _ _ k _ hh (m2 (by simp) hs3.extBut k (m2 (by simp) hs2.extBut k (m2 (by simp) hs1.extBut k t2))) hy fun h4 e hs4 ⟨oe,hoe,hce⟩=>?_);have hz4:IsZip h4 z TI TO .ellipsis:=hs4 _ _ n2.symm (hs3.extBut _ _ nOz.symm (hs2.extBut _ _ n1.symm hz1));have ez:e≠z:=fun x=>by subst x;rw [hz4] at hoe;cases hoe;simp at hce
   refine wpAny_setField_rec hz4 (by simp) fun h5 _ hs5=>stop h5 e (fun c o hc u=>?_) ⟨oe,hs5.extBut _ _ ez hoe,hce⟩
   simp only [List.mem_cons,List.not_mem_nil,or_false,not_or] at hc;exact hs5.extBut _ _ hc.1 (hs4 _ _ hc.2.2.2.2 (hs3.extBut _ _ hc.2.2.1 (hs2.extBut _ _ hc.2.2.2.1 (hs1.extBut _ _ hc.1 u))))
end
inductive Kn | L | T
def Kn.sq(k:Kn)(K:Fg)(H:Hp)(a:Addr)(xs:List V):Prop:=match k with
 | .L=>SqL K H a xs
 | .T=>SqT K H a xs
def Kn.it(k:Kn)(h:Heap)(i l:Addr)(j:Nat):Prop:=match k with
 | .L=>h.IsListIter i l j
 | .T=>h.IsTupleIter i l j
def Kn.seq(k:Kn)(h:Heap)(l:Addr)(xs:Array Value):Prop:=match k with
 | .L=>h.IsList l xs
 | .T=>h.IsTuple l xs
def Kn.obj(k:Kn)(l:Addr):Obj:=match k with
 | .L=>{ cls:=.type "list_iterator",data:=.fields #[.ref l,.int 0 0] }
 | .T=>{ cls:=.type "tuple_iterator",data:=.fields #[.ref l,.int 0 0] }
section
variable{prog:Program}{w:World}{A:Around}{E:Value→Shared→Prop}{s:Shared}
theorem Kn.drw(k:Kn)(it l:Addr)(ne:l≠it)(xs:Array Value):Drw prog w it l xs (fun j h=>k.it h it l j∧k.seq h l xs):=by
 cases k
 ·exact drw_list it l ne xs
 ·exact drw_tup it l ne xs
theorem Kn.itAt(k:Kn){h h':Heap}{it l:Addr}{j:Nat}(t:k.it h it l j)(e:∀o,h.get? it=some o→h'.get? it=some o):k.it h' it l j:=by
 cases k
 ·exact Heap.IsListIter.at t e
 ·exact Heap.IsTupleIter.at t e
theorem Kn.itObj(k:Kn){h:Heap}{it l:Addr}{j:Nat}(t:k.it h it l j):∃o,h.get? it=some o∧∀v,o.data≠.cell v:=by
 cases k <;> (obtain ⟨o,e,_,d⟩:=t;exact ⟨o,e,fun v z=>by rw [d] at z;cases z⟩)
theorem Kn.seqAt(k:Kn){h h':Heap}{l:Addr}{xs:Array Value}(t:k.seq h l xs)(e:∀o,h.get? l=some o→h'.get? l=some o):k.seq h' l xs:=by
 cases k
 ·exact Heap.IsList.at t e
 ·obtain ⟨o,a,b⟩:=t;exact ⟨o,e o a,b⟩
theorem Kn.lt(k:Kn){h:Heap}{l:Addr}{xs:Array Value}(t:k.seq h l xs):l < h.objs.size:=by
 cases k <;> (obtain ⟨o,a,_⟩:=t;exact Heap.lt_size a)
theorem Kn.inv{X:Cx}{pins:List (Addr×Obj)}{σ : St}{H:Hp}{s:Shared}(k:Kn)(I:Inv X pins σ H s){a:Addr}{xs:List V}(q:k.sq X.K H a xs):∃its:List Value,Vals xs its∧k.seq s.heap a its.toArray:=by
 cases k
 ·obtain ⟨its,r,p,_⟩:=I.list q;exact ⟨its,r,p.isList⟩
 ·obtain ⟨its,r,p,_⟩:=I.tuple q;exact ⟨its,r,p⟩
theorem Kn.inj{X:Cx}{pins:List (Addr×Obj)}{σ : St}{H:Hp}{s:Shared}(k:Kn)(I:Inv X pins σ H s){a:Addr}{xs ys:List V}(q:k.sq X.K H a xs)(r:k.sq X.K H a ys):xs=ys:=by
 cases k
 ·exact I.list_inj q r
 ·exact I.tuple_inj q r
theorem Kn.iter(k:Kn){l:Addr}{xs:Array Value}{Q:Value→Shared→Prop}(t:k.seq s.heap l xs)(q:Q (.ref s.heap.objs.size) { s with heap:=s.heap.push (k.obj l) }):wpAny (model prog w) A (pyIter (.ref l)) Q E s:=by
 cases k
 ·exact wpAny_pyIter_list t q
 ·exact wpAny_pyIter_tuple t q
theorem Kn.it0(k:Kn)(h:Heap)(l:Addr):k.it (h.push (k.obj l)) h.objs.size l 0:=by
 cases k <;> exact ⟨_,Heap.get?_push_size _ rfl,rfl,rfl⟩
def zh (h:Heap) (k1 k2:Kn) (l1 l2:Addr):Heap:=(((((h.push (k1.obj l1)).push (k2.obj l2)).push { cls:=.type "tuple",data:=.seq #[.ref h.objs.size,.ref (h.push (k1.obj l1)).objs.size] }).push { cls:=.type "tuple",data:=.seq #[.none,.none] }).push
 { cls:=.type "zip",data:=.fields #[.none,.bool false,.bool false,.ref ((h.push (k1.obj l1)).push (k2.obj l2)).objs.size,.ref (((h.push (k1.obj l1)).push (k2.obj l2)).push { cls:=.type "tuple",data:=.seq #[.ref h.objs.size,.ref (h.push (k1.obj l1)).objs.size] }).objs.size] })
theorem z_meets (k1 k2:Kn) (l1 l2:Addr) (xs ys:Array Value):Meets (Builtin.«zip.__new__» ⟨[.type "zip",.ref l1,.ref l2],[]⟩) (fun _ R s=>k1.seq s.heap l1 xs∧k2.seq s.heap l2 ys ∧
  R (.ok (.ret (.ref ((((s.heap.push (k1.obj l1)).push (k2.obj l2)).push { cls:=.type "tuple",data:=.seq #[.ref s.heap.objs.size,.ref (s.heap.push (k1.obj l1)).objs.size] }).push { cls:=.type "tuple",data:=.seq #[.none,.none] }).objs.size))) { s with heap:=zh s.heap k1 k2 l1 l2 }) :=
 .of_wp fun prog w A R s h=>by
  obtain ⟨hp,g,d,tk,os⟩:=s;obtain ⟨a1,a2,h⟩:=h;have hsub:=sub_zip;have b2:k2.seq (hp.push (k1.obj l1)) l2 ys:=k2.seqAt a2 fun o e=>Heap.get?_push_of_some _ e
  cases k1 with
  | L =>
   have c1:Heap.IsList (Shared.heap ⟨hp,g,d,tk,os⟩) l1 xs:=a1;cases k2 with
   | L =>
    have c2:Heap.IsList (Shared.heap ⟨hp.push { cls:=.type "list_iterator",data:=.fields #[.ref l1,.int 0 0] },g,d,tk,os⟩) l2 ys:=b2;wp_walk using wpAny_pyIter_list c1,wpAny_pyIter_list c2;exact ⟨_,rfl,h⟩
   | T =>
    have c2:Heap.IsTuple (Shared.heap ⟨hp.push { cls:=.type "list_iterator",data:=.fields #[.ref l1,.int 0 0] },g,d,tk,os⟩) l2 ys:=b2;wp_walk using wpAny_pyIter_list c1,wpAny_pyIter_tuple c2;exact ⟨_,rfl,h⟩
  | T =>
   have c1:Heap.IsTuple (Shared.heap ⟨hp,g,d,tk,os⟩) l1 xs:=a1;cases k2 with
   | L =>
    have c2:Heap.IsList (Shared.heap ⟨hp.push { cls:=.type "tuple_iterator",data:=.fields #[.ref l1,.int 0 0] },g,d,tk,os⟩) l2 ys:=b2;wp_walk using wpAny_pyIter_tuple c1,wpAny_pyIter_list c2;exact ⟨_,rfl,h⟩
   | T =>
    have c2:Heap.IsTuple (Shared.heap ⟨hp.push { cls:=.type "tuple_iterator",data:=.fields #[.ref l1,.int 0 0] },g,d,tk,os⟩) l2 ys:=b2;wp_walk using wpAny_pyIter_tuple c1,wpAny_pyIter_tuple c2;exact ⟨_,rfl,h⟩
theorem z_call{k1 k2:Kn}{l1 l2:Addr}{xs ys:Array Value}{Q:Value→Shared→Prop}(a1:k1.seq s.heap l1 xs)(a2:k2.seq s.heap l2 ys)
  (q:∀h' (z TI TO i1 i2:Addr),ZAp z TI TO i1 i2 l1 l2→s.heap.objs.size≤i1→IsZip h' z TI TO .none→IsPair h' TI (.ref i1) (.ref i2)→(∃a b,IsPair h' TO a b)→k1.it h' i1 l1 0→k2.it h' i2 l2 0→(∀c o,s.heap.get? c=some o→h'.get? c=some o)→Q (.ref z) { s with heap:=h' }) :
  wpAny (model prog w) A (call (.type "zip") [.ref l1,.ref l2]) Q E s:=by
 refine callType_new F.called_zip (by decide) (F.typeCall_zip_2 _ _) (F.newCall_zip_2 _ _) (fun obj=>F.args_object_init_3 obj _ _) F.entry_zip_new (z_meets k1 k2 l1 l2 xs ys) ⟨a1,a2,?_⟩;have lt1:=k1.lt a1;have lt2:=k2.lt a2;have g5:(zh s.heap k1 k2 l1 l2).get? _=some _:=Heap.get?_push_size ((((s.heap.push (k1.obj l1)).push (k2.obj l2)).push { cls:=.type "tuple",data:=.seq #[.ref s.heap.objs.size,.ref (s.heap.push (k1.obj l1)).objs.size] }).push { cls:=.type "tuple",data:=.seq #[.none,.none] }) (o:={ cls:=.type "zip",data:=.fields #[.none,.bool false,.bool false,.ref ((s.heap.push (k1.obj l1)).push (k2.obj l2)).objs.size,.ref (((s.heap.push (k1.obj l1)).push (k2.obj l2)).push { cls:=.type "tuple",data:=.seq #[.ref s.heap.objs.size,.ref (s.heap.push (k1.obj l1)).objs.size] }).objs.size] }) rfl;have g4:(zh s.heap k1 k2 l1 l2).get? _=some _:=Heap.get?_push_of_some _ (Heap.get?_push_size (((s.heap.push (k1.obj l1)).push (k2.obj l2)).push { cls:=.type "tuple",data:=.seq #[.ref s.heap.objs.size,.ref (s.heap.push (k1.obj l1)).objs.size] }) (o:={ cls:=.type "tuple",data:=.seq #[.none,.none] }) rfl);have g3:(zh s.heap k1 k2 l1 l2).get? _=some _:=Heap.get?_push_of_some _ (Heap.get?_push_of_some _ (Heap.get?_push_size ((s.heap.push (k1.obj l1)).push (k2.obj l2)) (o:={ cls:=.type "tuple",data:=.seq #[.ref s.heap.objs.size,.ref (s.heap.push (k1.obj l1)).objs.size] }) rfl));have g2:k2.it (zh s.heap k1 k2 l1 l2) (s.heap.push (k1.obj l1)).objs.size l2 0:=k2.itAt (k2.it0 _ l2) fun o e=>Heap.get?_push_of_some _ (Heap.get?_push_of_some _ (Heap.get?_push_of_some _ e))
 have g1:k1.it (zh s.heap k1 k2 l1 l2) s.heap.objs.size l1 0:=k1.itAt (k1.it0 _ l1) fun o e=>Heap.get?_push_of_some _ (Heap.get?_push_of_some _ (Heap.get?_push_of_some _ (Heap.get?_push_of_some _ e)))
 show _∧_;refine ⟨⟨_,g5,rfl⟩,q _ _ _ _ _ _ ⟨?_,?_,?_,?_,lt1,lt2⟩ (Nat.le_refl _) g5 g3 ⟨_,_,g4⟩ g1 g2 fun c o x=>Heap.get?_push_of_some _ (Heap.get?_push_of_some _ (Heap.get?_push_of_some _ (Heap.get?_push_of_some _ (Heap.get?_push_of_some _ x))))⟩ <;>
 ·simp only [Heap.size_push];exact Nat.lt_succ_self _
end
def Itz(K:Fg)(k1 k2:Kn)(a b:Addr):It :=
 ⟨fun i H=>∃xs ys,k1.sq K H a xs∧k2.sq K H b ys∧i < xs.length∧i < ys.length,fun i H v H'=>∃T x y,H T=none∧v = .ref T∧H'=upd H T (.tup [x,y])∧(∀xs,k1.sq K H a xs→xs[i]? = some x)∧(∀ys,k2.sq K H b ys→ys[i]? = some y),
  fun i H=>∃xs ys,k1.sq K H a xs∧k2.sq K H b ys∧(xs.length≤i∨ys.length≤i)⟩
theorem turn_zip{P:Program}{w:World}{K:Fg}{elts:List Expr}{x1}{pos:Pos}{k1 k2:Kn}{a b z TI TO i1 i2:Addr}(D:ZAp z TI TO i1 i2 a b) :
  Turn P w K (.Tuple elts x1 pos) (Itz K k1 k2 a b) [z,TI,TO,i1,i2] z (fun i h=>IsZip h z TI TO .none∧IsPair h TI (.ref i1) (.ref i2)∧(∃x y,IsPair h TO x y)∧k1.it h i1 a i∧k2.it h i2 b i) where
 mem:=by simp
 obj:=fun i h ⟨hz,hI,⟨x,y,hO⟩,t1,t2⟩ c hc=>by
  simp only [List.mem_cons,List.not_mem_nil,or_false] at hc;rcases hc with rfl | rfl | rfl | rfl | rfl
  ·exact ⟨_,hz,fun v q=>by cases (show Data.fields _=Data.cell v from q)⟩
  ·exact ⟨_,hI,fun v q=>by cases (show Data.seq _ _=Data.cell v from q)⟩
  ·exact ⟨_,hO,fun v q=>by cases (show Data.seq _ _=Data.cell v from q)⟩
  ·exact k1.itObj t1
  ·exact k2.itObj t2
 keep:=fun i h h' ⟨hz,hI,⟨x,y,hO⟩,t1,t2⟩ kp=>⟨kp z (by simp) _ hz,kp TI (by simp) _ hI,⟨x,y,kp TO (by simp) _ hO⟩,k1.itAt t1 fun o e=>kp i1 (by simp) o e,k2.itAt t2 fun o e=>kp i2 (by simp) o e⟩
 item:=by
  intro X hP hw hK hc i pins s σ H E I hf ⟨hz,hI,hO,t1,t2⟩ hg;subst hP hw hK;obtain ⟨xs,ys,q1,q2,l1,l2⟩:=hg;obtain ⟨v1,r1,p1⟩:=k1.inv I q1;obtain ⟨v2,r2,p2⟩:=k2.inv I q2;obtain ⟨u1,e1,ru1⟩:=r1.get (List.getElem?_eq_getElem l1);obtain ⟨u2,e2,ru2⟩:=r2.get (List.getElem?_eq_getElem l2);obtain ⟨n1,n2,nO1,nO2,nOz,nIz,nIO,nI1,nI2,n12,c1,c2,c3,c4,c5,c6⟩:=zap_nat D.a D.b D.c D.d D.e D.f;refine (z_next D (k1.drw i1 a (Nat.ne_of_lt D.e) v1.toArray) (k2.drw i2 b (Nat.ne_of_lt (Nat.lt_trans D.f D.a)) v2.toArray) ⟨hz,hI,hO,⟨t1,p1⟩,⟨t2,p2⟩⟩).1 u1 u2 (by simpa using e1) (by simpa using e2) fun h' hz' hI' hO' s1' s2' hT all=>⟨_,rfl,?_⟩
  refine wpAny_letOwnedTupleGo_zip hz' fun h2 hz2 sb=>?_
  have nT:∀c∈[z,TI,TO,i1,i2],c≠s.heap.objs.size:=fun c hc'=>by
   simp only [List.mem_cons,List.not_mem_nil,or_false] at hc';rcases hc' with rfl | rfl | rfl | rfl | rfl
   ·exact Nat.ne_of_lt (Heap.lt_size hz)
   ·exact Nat.ne_of_lt (Heap.lt_size hI)
   ·obtain ⟨_,_,q⟩:=hO;exact Nat.ne_of_lt (Heap.lt_size q)
   ·obtain ⟨_,q,_⟩:=k1.itObj t1;exact Nat.ne_of_lt (Heap.lt_size q)
   ·obtain ⟨_,q,_⟩:=k2.itObj t2;exact Nat.ne_of_lt (Heap.lt_size q)
  have hfr:H s.heap.objs.size=none:=I.hok.fresh (Nat.le_refl _)
  have I1:Inv X pins σ (upd H s.heap.objs.size (.tup [xs[i],ys[i]])) { s with heap:=s.heap.push { cls:=.type "tuple",data:=.seq #[u1,u2] } } :=
   I.laid (t':=s.toks) (fun b u e=>Heap.get?_push_of_some _ e) (Nat.le_refl _) ⟨by show 2≤sizeLine;decide,[u1,u2],.cons ru1 (.cons ru2 .nil),⟨_,Heap.get?_push_size _ rfl,rfl,_,rfl⟩⟩
  have zT:s.heap.objs.size≠z:=(nT z (by simp)).symm
  have I2:Inv X pins σ (upd H s.heap.objs.size (.tup [xs[i],ys[i]])) { s with heap:=h2 }:=Inv.turnedL (s:={ s with heap:=s.heap.push { cls:=.type "tuple",data:=.seq #[u1,u2] } }) (t':=s.toks) (fp:=[z,TI,TO,i1,i2]) I1 (fun c o hc' e=>by
   have hcz:c≠z:=fun x=>hc' (by simp [x])
   rcases Heap.get?_push_cases e with ⟨ec,eo⟩ | e
   ·rw [ec,eo];exact sb.extBut _ _ zT hT
   ·exact sb.extBut _ _ hcz (all c o hc' e)) fun c hc'=>⟨by rw [upd_ne (nT c hc')];exact (hf c hc').1,(hf c hc').2⟩
  refine ⟨.ref s.heap.objs.size,_,I2,rfl,⟨s.heap.objs.size,xs[i],ys[i],hfr,rfl,rfl,fun zs hz=>?_,fun zs hz=>?_⟩,⟨hz2,sb.extBut _ _ nIz hI',?_,k1.itAt s1'.1 fun o e=>sb.extBut _ _ n1 e,k2.itAt s2'.1 fun o e=>sb.extBut _ _ n2 e⟩,fun c hc'=>by rw [upd_ne (nT c hc')];exact (hf c hc').1⟩
  ·rw [k1.inj I hz q1,List.getElem?_eq_getElem l1]
  ·rw [k2.inj I hz q2,List.getElem?_eq_getElem l2]
  ·obtain ⟨x,y,q⟩:=hO';exact ⟨x,y,sb.extBut _ _ nOz q⟩
 done:=by
  intro X hP hw hK hc i pins s σ H E I hf ⟨hz,hI,hO,t1,t2⟩ hg;subst hP hw hK;obtain ⟨xs,ys,q1,q2,le⟩:=hg;obtain ⟨v1,r1,p1⟩:=k1.inv I q1;obtain ⟨v2,r2,p2⟩:=k2.inv I q2;have e1:=r1.length;have e2:=r2.length
  refine (z_next D (k1.drw i1 a (Nat.ne_of_lt D.e) v1.toArray) (k2.drw i2 b (Nat.ne_of_lt (Nat.lt_trans D.f D.a)) v2.toArray) ⟨hz,hI,hO,⟨t1,p1⟩,⟨t2,p2⟩⟩).2 (I.ok.hd hc) (by
   rcases le with q | q
   ·exact .inl (by simp;omega)
   ·exact .inr (by simp;omega)) fun h' all=>⟨rfl,I.turnedL (t':=s.toks) (fun c o hc' e=>all c o hc' e) hf⟩
 self:=fun _ _ _ _ _ st q=>wpAny_pyIter_zip st.1 q
section
variable{X:Cx}
def iZip(K:Fg)(k1 k2:Kn)(ta:TA):TI:=fun σ H R=>ta σ H fun vs H1=>∃a b xs ys,vs=[.ref a,.ref b]∧k1.sq K H1 a xs∧k2.sq K H1 b ys∧R (Itz K k1 k2 a b) H1
theorem bb_zip:bootBuiltins "zip" = some (.type "zip"):=by decide +kernel
theorem pi_zip {k1 k2:Kn} {x y:Expr} {ta:TA} {elts:List Expr} {x1} {p pos tp:Pos} (hg:Gl X "zip") (hm:X.mg "zip" = none) (ha:PA X [x,y] ta) (hs:starEach [x,y] X.env=[(false,eval x X.env),(false,eval y X.env)]:=by rfl) (hs2:starEach [y] X.env=[(false,eval y X.env)]:=by rfl) :
  PI X (.Tuple elts x1 tp) (.Call (.Name "zip" p) [x,y] [] pos) (iZip X.K k1 k2 ta):=by
 intro pins s σ H R I h;refine Call_ (ld_blt I hg hm bb_zip (PyProof.Rows.callWith_type1 (thn (ha pos pins s σ H _ I h) fun us s1 ⟨vs,H1,I1,r1,q1⟩=>?_) (by rw [hs,hs2]) (by rw [hs2];rfl)));obtain ⟨a,b,xs,ys,e,s1q,s2q,q⟩:=q1;subst e;obtain ⟨u1,u2,rfl,ra,rb⟩:=vals2 r1;cases ra;cases rb;obtain ⟨v1,w1,p1⟩:=k1.inv I1 s1q;obtain ⟨v2,w2,p2⟩:=k2.inv I1 s2q;refine z_call p1 p2 fun h' z TI TO i1 i2 D le hz hI hO t1 t2 kp=>?_
 refine wpAny_pyIter_zip (s:={ s1 with heap:=h' }) hz ?_;refine ⟨z,[z,TI,TO,i1,i2],_,_,H1,rfl,I1.kept (t':=s1.toks) kp,turn_zip D,⟨hz,hI,hO,t1,t2⟩,fun c hc=>?_,q⟩
 have le2:s1.heap.objs.size≤c:=by
  have d1:=D.a;have d2:=D.b;have d3:=D.c;have d4:=D.d;simp only [List.mem_cons,List.not_mem_nil,or_false] at hc;rcases hc with rfl | rfl | rfl | rfl | rfl
  ·exact Nat.le_of_lt (Nat.lt_of_le_of_lt le (Nat.lt_trans d1 (Nat.lt_trans d2 (Nat.lt_trans d3 d4))))
  ·exact Nat.le_of_lt (Nat.lt_of_le_of_lt le (Nat.lt_trans d1 d2))
  ·exact Nat.le_of_lt (Nat.lt_of_le_of_lt le (Nat.lt_trans d1 (Nat.lt_trans d2 d3)))
  ·exact le
  ·exact Nat.le_of_lt (Nat.lt_of_le_of_lt le d1)
 exact I1.fpOk le2 (I1.hok.fresh le2)
end
section
variable{K:Fg}{te:TE}{σ : St}{Q:VK}{H:Hp}
def EltG(g:TG)(n:Nat)(te:TE)(σ : St)(v:V)(H:Hp)(D:Addr)(m i:Nat)(Pv:Nat→Hp→Prop):Prop:=∀us:St,us.length=n→g v (us ++ σ) H fun σ2 H2=>(∃us':St,us'.length=n∧σ2=us' ++ σ)∧te σ2 H2 (EltK D m i Pv)
theorem comp_zip{k1 k2:Kn}{a b:Addr}{xs ys:List V}{n:Nat}{g:TG}(h:∀D,H D=none→∃Pv:Nat→Hp→Prop,Pv 0 (upd H D (.lst []))∧(∀i H2,i≤min xs.length ys.length→Pv i H2→k1.sq K H2 a xs∧k2.sq K H2 b ys) ∧
  (∀i x y H2 T,xs[i]? = some x→ys[i]? = some y→Pv i H2→H2 T=none→EltG g n te σ (.ref T) (upd H2 T (.tup [x,y])) D (min xs.length ys.length) i Pv)∧∀H2,Pv (min xs.length ys.length) H2→Q (.ref D) H2):CompG (Itz K k1 k2 a b) n g te σ Q H:=by
 intro D nD;obtain ⟨Pv,h0,hl,hs,hd⟩:=h D nD;refine ⟨fun i m H=>m=min xs.length ys.length - i∧i≤min xs.length ys.length∧Pv i H,⟨_,rfl,Nat.zero_le _,h0⟩,?_⟩;rintro i m H ⟨rfl,hi,p⟩;obtain ⟨q1,q2⟩:=hl i H hi p;by_cases hlt:i < min xs.length ys.length
 ·refine .inr ⟨⟨xs,ys,q1,q2,by omega,by omega⟩,fun v H' y us hu=>?_⟩;obtain ⟨T,x,y,nT,rfl,rfl,z1,z2⟩:=y;exact hs i x y H T (z1 xs q1) (z2 ys q2) p nT us hu
 ·have e:i=min xs.length ys.length:=by omega
  subst e;refine .inl ⟨⟨xs,ys,q1,q2,?_⟩,hd H p⟩;rcases Nat.le_total xs.length ys.length with q | q
  ·exact .inl (by rw [Nat.min_eq_left q];exact Nat.le_refl _)
  ·exact .inr (by rw [Nat.min_eq_right q];exact Nat.le_refl _)
end
section
variable{prog:Program}{w:World}{A:Around}{E:Value→Shared→Prop}{s:Shared}
end
section
variable{X:Cx}{e k:Expr}{te tk:TE}{p2 pos:Pos}
end
end L2
namespace L2
open PySem PySem.Spec PyProof.Rows
open PySem.W (Dat kqdOk)
theorem AccZ.pushK{K:Fg}{H0 H:Hp}{l:Addr}{ds:List Dat}(A:AccZ K H0 l H ds){y:V}{d:Dat}(r:Rz K H y d)(n:ds.length < sizeLine){Pv:Hp→Prop}(h:∀H2,AccZ K H0 l H2 (ds++[d])→Pv H2):Push l Pv y H:=by
 obtain ⟨xs,h1,h2⟩:=A.at_;refine ⟨xs,h1,by rw [h2.length];exact n,h _ ⟨A.upd_same,A.new,xs++[y],L2.upd_same,?_⟩⟩;exact RzL.upd (h2.append (.cons r .nil)) h1
end L2
namespace L2
open PySem
section
variable{K:Fg}{σ : St}{H:Hp}{Q:VK}{te:TE}
theorem k_compG{wi:TI}{n:Nat}{g:TG}(h:wi σ H fun J H1=>CompG J n g te σ Q H1):tCompG wi n g te σ H Q:=h
theorem k_zip{k1 k2:Kn}{ta:TA}{R:It→Hp→Prop}(h:ta σ H fun vs H1=>∃a b xs ys,vs=[.ref a,.ref b]∧k1.sq K H1 a xs∧k2.sq K H1 b ys∧R (Itz K k1 k2 a b) H1):iZip K k1 k2 ta σ H R:=h
end
end L2
namespace L2
open PySem
section
variable{K:Fg}{σ : St}{H:Hp}{Q:VK}{D:Ends}{td ty tv te tk:TE}
theorem k_dput(h:tv σ H fun v H1=>td σ H1 fun x H2=>ty σ H2 fun y H3=>∃a H4,x = .ref a∧DPut H3 a y v H4∧D.nx σ H4):sDPut td ty tv D σ H:=h
end
end L2
namespace L2
open PySem PySem.Spec PyProof.Rows
section
variable{X:Cx}{scope:Scope}
theorem pe_lcN{elt iter tg:Expr}{pos:Pos}{wi:TI}{g:TG}{te:TE}{n:Nat}(ys M:List Str)(c:CompS X.env.scope X.N M ys scope)(hc:X.calm=true)(hi:PI X tg iter wi)(hg:∀C s₀ H₀ fp pins,PG (compCx X ys M scope (clOf scope X.env.cells) C s₀ H₀ fp pins) tg g)(he:∀C s₀ H₀ fp pins,PE (compCx X ys M scope (clOf scope X.env.cells) C s₀ H₀ fp pins) elt te)
  (hn:ys.length=n:=by rfl) (hs:∀v,foldedSetIterable iter X.env v=pure v:=by intro _;rfl):PE X (.ListComp elt [⟨tg,iter,[],0⟩] scope pos) (tCompG wi n g te):=by
 subst hn;exact pe_lcG c hc hi hg he hs
end
section
variable{X:Cx}
def rAll(K:Fg):List V→Hp→VK→Prop:=fun xs H Q=>∃(a:Addr) (bs:List Bool),xs=[.ref a]∧SqL K H a (bs.map V.bl)∧Q (.bl (bs.all id)) H
theorem bls_bools:∀{bs:List Bool} {us:List Value},Vals (bs.map V.bl) us→LSm.BoolsAre us bs
 | [],_,.nil=>.nil
 | b :: bs,_,.cons r rr=>by
  cases (show _=Value.bool b from r);exact .cons b (bls_bools rr)
theorem walk_bools{M:Model}{A:Around}{E:Value→Shared→Prop}{s:Shared}{pins:List (Addr×Obj)}{σ : St}{H:Hp}{a:Addr}{bs:List Bool}(d:Bool)(I:Inv X pins σ H s)(q1:SqL X.K H a (bs.map V.bl))(hh:A.handled=none)(hM:M=model X.prog X.w)
  {Qr:Bool→Value→Shared→Prop} {f:(Nat→Bool)→Nat→Bool} {r:Bool} (hf:f (fun i=>(bs[i]?).getD d) bs.length=r) (q:∀h' tk,Inv X pins σ H { s with heap:=h',toks:=tk }→Qr r (.bool r) { s with heap:=h',toks:=tk }) :
  wpAny M A (pyIter (.ref a)) (fun it s₂=>∃I fp wr n P St tr,it = .ref I∧Walks X.prog X.w A I fp wr n P St∧St 0 s₂.heap∧TruthOf X.prog X.w A P tr∧∀h' tk,(∀b o,b∉wr→s₂.heap.get? b=some o→h'.get? b=some o)→Qr r (.bool (f tr n)) { s₂ with heap:=h',toks:=tk }) E s:=by
 subst hM;obtain ⟨its,rv,p,_⟩:=I.list q1;have hl:s.heap.IsList a its.toArray:=p.isList;have hb:=bls_bools rv;have hlt:a < s.heap.objs.size:=by obtain ⟨_,e,_⟩:=hl;exact Heap.lt_size e
 refine wpAny_pyIter_list hl ⟨s.heap.objs.size,[s.heap.objs.size,a],[s.heap.objs.size],its.toArray.size,_,_,fun i=>(bs[i]?).getD d,rfl,Walks.list hh _ a (Nat.ne_of_lt hlt) its.toArray,⟨⟨_,Heap.get?_push_size _ rfl,rfl,rfl⟩,hl.push _⟩,fun i v s' Q' E' hP hQ=>?_,fun h' tk hk=>?_⟩
 ·obtain ⟨b,e,rfl⟩:=hb.get i v (by simpa using hP);dsimp only at hQ;rw [e] at hQ;exact wpAny_truthy_bool hQ
 ·rw [List.size_toArray,hb.length,hf];exact q h' tk (I.kept (t':=tk) fun b o e=>hk b o (fun z=>absurd (Heap.lt_size e) (by rw [List.mem_singleton.mp z];exact Nat.lt_irrefl _)) (Heap.get?_push_of_some _ e))
theorem call_all (hc:X.calm=true):CallR X (.builtin "all") (rAll X.K):=by
 intro pins s σ H xs us Q I r h;obtain ⟨a,bs,rfl,q1,q⟩:=h;obtain ⟨u,rfl,ru⟩:=vals1 r;cases ru;refine call_all_walk (walk_bools (f:=fun tr n=>(List.range n).all tr) (r:=bs.all id) true I q1 (by have:=I.ok.hd hc;simpa using this) rfl (LSm.range_all bs) (Qr:=fun _ v s'=>EP X pins σ Q v s') fun h' tk I2=>⟨.bl _,H,I2,rfl,q⟩)
theorem bb_all:bootBuiltins "all" = some (.builtin "all"):=by decide +kernel
end
def CompF(J:It)(n:Nat)(g:TG)(tc:TT)(te:TE)(σ : St)(Q:VK)(H1:Hp):Prop:=∀D,H1 D=none→∃W:Nat→Nat→Hp→Prop,(∃m,W 0 m (upd H1 D (.lst [])))∧∀i m H,W i m H →
 (J.stop i H∧Q (.ref D) H)∨(J.go i H∧∀v H',J.yld i H v H'→∀us:St,us.length=n→g v (us ++ σ) H' fun σ2 H2=>(∃us':St,us'.length=n∧σ2=us' ++ σ)∧tc σ2 H2 fun b H3 =>
  if b=true then te σ2 H3 fun y H4=>∃xs,H4 D=some (.lst xs)∧xs.length < sizeLine∧∃m',m' < m∧W (i+1) m' (upd H4 D (.lst (xs++[y]))) else ∃m',m' < m∧W (i+1) m' H3)
def tCompF(wi:TI)(n:Nat)(g:TG)(tc:TT)(te:TE):TE:=fun σ H Q=>wi σ H fun J H1=>CompF J n g tc te σ Q H1
section
variable{X:Cx}{ys M:List Str}{scope:Scope}{cl:List (Str×Addr)}{C:Addr}{s:Shared}{H:Hp}{fp:List Addr}{pins:List (Addr×Obj)}{σ : St}
theorem comp_loopF{prog:Program}{w:World}{A:Around}{R:Result→Shared→Prop}{s:Shared}{elt target iter c:Expr}{scope:Scope}{pos:Pos}{it acc:Value}{env:Env}(I:Nat→Shared→Prop)
  (turn:∀n s,I n s→wpAny (model prog w) A (pyNext it) (fun r s1=>match r with
   | none=>R (.ok .next) s1
   | some v=>wpAny (model prog w) A (letOwnedTupleGo target it v) (fun _ s2=>wpAny (model prog w) A (assign target env v) (fun _ s3=>wpAny (model prog w) A (isTrue c env (eval c env)) (fun ok s4 =>
     if ok=true then wpAny (model prog w) A (eval elt env) (fun x s5=>wpAny (model prog w) A (call (.builtin "list.append") [acc,x]) (fun _ s6=>∃m,m < n∧I m s6) (fun _ _=>False) s5) (fun _ _=>False) s4
     else ∃m,m < n∧I m s4) (fun _ _=>False) s3) (fun _ _=>False) s2) (fun _ _=>False) s1) (fun _ _=>False) s) (n:Nat) (h:I n s) :
  codeAny (model prog w) A (.compLoop (.ListComp elt [⟨target,iter,[c],0⟩] scope pos) 0 it acc env) R s:=by
 refine codeAny_loop rfl I (fun k s1 hI=>?_) n h;have no:∀{α : Type} {t:Sem α} {P : α→Shared→Prop} {E:Value→Shared→Prop} {z:Shared},wpAny (model prog w) A t P (fun _ _=>False) z→wpAny (model prog w) A t P E z:=fun q=>wpAny_mono q (fun _ _ z=>z) fun _ _ z=>z.elim
 show wpAny _ _ ((compTurn (.ListComp elt [⟨target,iter,[c],0⟩] scope pos) 0 it acc env).onRaise _) _ _ s1;refine wpAny_noted ?_;rw [compTurn_list];refine wpAny_bind (wpAny_standAt (wpAny_bind (no (wpAny_mono (turn k s1 hI) (fun r s2 h2=>?_) fun _ _ z=>z))));cases r with
 | none=>exact wpAny_pure h2
 | some v =>
  refine wpAny_bind (no (wpAny_mono h2 (fun _ s3 h3=>?_) fun _ _ z=>z));refine wpAny_bind (no (wpAny_mono h3 (fun _ s4 h4=>?_) fun _ _ z=>z));refine wpAny_bind (wpAny_tests_one (no (wpAny_mono h4 (fun ok s5 h5=>?_) fun _ _ z=>z)));cases ok with
  | true =>
   rw [if_pos rfl] at h5;refine wpAny_bind (wpAny_bind (no (wpAny_mono h5 (fun x s6 h6=>?_) fun _ _ z=>z)));exact wpAny_bind (no (wpAny_mono h6 (fun _ s7 h7=>wpAny_pure (wpAny_pure ⟨rfl,h7⟩)) fun _ _ z=>z))
  | false =>
   rw [if_neg Bool.false_ne_true] at h5;exact wpAny_pure ⟨rfl,h5⟩
theorem comp_coreF{elt iter tg cn:Expr}{pos:Pos}{g:TG}{tc:TT}{te:TE}{tn:Nat→Heap→Prop}{it:Addr}{J:It}{E:Value→Shared→Prop}{QQ:Addr→Hp→Prop}{RR:Value→Addr→Result→Shared→Prop}(I:Inv X pins σ H s)(c:CompSc X ys M scope cl)(hc:X.calm=true)
  (hg:∀C s₀ H₀ fp pins,PG (compCx X ys M scope cl C s₀ H₀ fp pins) tg g) (ht:∀C s₀ H₀ fp pins,PT (compCx X ys M scope cl C s₀ H₀ fp pins) cn tc) (he:∀C s₀ H₀ fp pins,PE (compCx X ys M scope cl C s₀ H₀ fp pins) elt te) (T:Turn X.prog X.w X.K tg J fp it tn) (st:tn 0 s.heap) (fk:∀b∈fp,FpOk X pins H b)
  (h:CompF J ys.length g tc te σ (fun v H'=>∃D,v = .ref D∧QQ D H') H)
  (fin:∀D C H' s',s.heap.objs.size≤C→s'.heap.get? C≠none→(∃m,s'.heap.Ns C m)→H' C=none→Inv X pins σ H' s'→QQ D H'→RR (.ref D) C (.ok .next) s') :
  wpAny (model X.prog X.w) X.A (newList []) (fun acc s₃=>wpAny (model X.prog X.w) X.A (newFunctionEnv scope X.env.globals cl [] X.env.qual none .none (some X.env)) (fun cenv s₄ =>
   codeAny (model X.prog X.w) X.A (.compStart (.ListComp elt [⟨tg,iter,[cn],0⟩] scope pos) 0 (.ref it) acc { cenv with scope:=relabel scope X.env }) (RR acc cenv.locals) s₄) E s₃) E s:=by
 refine wpAny_newObj_type (wpAny_newFunctionEnv c.nocell (by intro y hy;simp at hy) (fun h1 hns hsb=>?_) c.kind);dsimp only at hns hsb ⊢;have hf:H s.heap.objs.size=none:=I.hok.fresh (Nat.le_refl _)
 have I3:Inv X pins σ (upd H s.heap.objs.size (.lst [])) { s with heap:=s.heap.push { cls:=.type "list",dict:=none,data:=.seq ([]:List Value).toArray } } :=
  I.laid (t':=s.toks) (fun b u e=>Heap.get?_push_of_some _ e) (Nat.le_refl _) ⟨by decide,[],_,.nil,Heap.get?_push_size _ rfl⟩
 have eD:∀b u,s.heap.get? b=some u→b≠s.heap.objs.size:=fun b u e=>Nat.ne_of_lt (Heap.lt_size e)
 have fk3:∀b∈fp,FpOk X pins (upd H s.heap.objs.size (.lst [])) b∧∃o,(s.heap.push { cls:=.type "list",dict:=none,data:=.seq ([]:List Value).toArray }).get? b=some o:=fun b hb=>by
  obtain ⟨o,eo,_⟩:=T.obj 0 _ st b hb;obtain ⟨f1,f2⟩:=fk b hb;exact ⟨⟨by rw [upd_ne (eD b o eo)];exact f1,f2⟩,o,Heap.get?_push_of_some _ eo⟩
 have I4:=inv_comp (tk:=s.toks+([]:List (Str×Value)).length) I3 c rfl hns hsb fk3;obtain ⟨W,⟨m0,w0⟩,turn⟩:=h _ hf
 have st4:tn 0 h1:=T.keep 0 _ _ st fun b hb o e=>by
  have e2:=Heap.get?_push_of_some { cls:=.type "list",dict:=none,data:=.seq ([]:List Value).toArray } e;exact hsb.extBut b o (Nat.ne_of_lt (Heap.lt_size e2)) (Heap.get?_push_of_some _ e2)
 have stat:∀{H':Hp},(∀b∈fp,H' b=none)→∀b∈fp,FpOk (compCx X ys M scope cl (s.heap.push { cls:=.type "list",dict:=none,data:=.seq ([]:List Value).toArray }).objs.size { s with heap:=s.heap.push { cls:=.type "list",dict:=none,data:=.seq ([]:List Value).toArray } } (upd H s.heap.objs.size (.lst [])) fp pins) [] H' b :=
  fun hn b hb=>⟨hn b hb,(I4.ok.exf b hb).1,I4.ok.exfs b hb,.inl hb,(I4.ok.exf b hb).2,fun p hp=>(fk3 b hb).1.2.2.2.2.2 p (by simpa [compCx] using hp)⟩
 have loop:∀s4:Shared,s4 = { s with heap:=h1,toks:=s.toks+([]:List (Str×Value)).length } →
   codeAny (model X.prog X.w) X.A (.compLoop (.ListComp elt [⟨tg,iter,[cn],0⟩] scope pos) 0 (.ref it) (.ref s.heap.objs.size) (compEnvC scope cl (s.heap.push { cls:=.type "list",dict:=none,data:=.seq ([]:List Value).toArray }).objs.size X.env))
    (RR (.ref s.heap.objs.size) (s.heap.push { cls:=.type "list",dict:=none,data:=.seq ([]:List Value).toArray }).objs.size) s4:=by
  rintro s4 rfl
  refine comp_loopF (fun n s'=>∃(i:Nat) (us:St) (H':Hp),us.length=ys.length∧Inv (compCx X ys M scope cl (s.heap.push { cls:=.type "list",dict:=none,data:=.seq ([]:List Value).toArray }).objs.size { s with heap:=s.heap.push { cls:=.type "list",dict:=none,data:=.seq ([]:List Value).toArray } } (upd H s.heap.objs.size (.lst [])) fp pins) [] (us ++ σ) H' s'∧tn i s'.heap∧(∀b∈fp,H' b=none)∧W i n H')
   ?_ m0 ⟨0,_,_,List.length_replicate,I4,st4,fun b hb=>(fk3 b hb).1.1,w0⟩
  rintro n s5 ⟨i,us,H5,lu,I5,st5,fr5,w5⟩;rcases turn i n H5 w5 with ⟨stop,Dq,eDq,q⟩ | ⟨go,step⟩
  ·cases eDq;refine thn (T.done (compCx X ys M scope cl _ _ _ _ _) rfl rfl rfl hc i [] s5 _ H5 _ I5 (stat fr5) st5 stop) fun r s6 ⟨er,I6⟩=>?_
   subst er;obtain ⟨m,hn6,_⟩:=id I6.loc;obtain ⟨o6,_,_,ho6,_⟩:=id hn6;exact fin _ _ H5 s6 (by rw [Heap.size_push];exact Nat.le_succ _) (fun z=>by have z':=ho6.symm.trans z;cases z') ⟨m,hn6⟩ I6.free (inv_uncomp I3 fk3 I6) q
  ·refine thn (T.item (compCx X ys M scope cl _ _ _ _ _) rfl rfl rfl hc i [] s5 _ H5 _ I5 (stat fr5) st5 go) fun r s6 ⟨u,er,h6⟩=>?_
   subst er;refine thn h6 fun _ s7 ⟨v',H7,I7,r7,y7,st7,fr7⟩=>?_
   have I7':=I7.pinned (stat fr7) (T.obj _ _ st7);refine wpAny_mono (hg _ _ _ _ _ _ s7 _ H7 v' u _ I7' r7 (step v' H7 y7 us lu)) (fun _ s8 ⟨σ8,H8,I8,⟨us',lu',e8⟩,q8⟩=>?_) fun _ _ z=>z.elim
   refine wpAny_mono (ht _ _ _ _ _ _ s8 _ H8 _ I8 q8) (fun ok s9 ⟨H9,I9,q9⟩=>?_) fun _ _ z=>z.elim
   subst e8;cases ok with
   | true =>
    rw [if_pos rfl] at q9 ⊢;refine wpAny_mono (he _ _ _ _ _ _ s9 _ H9 _ I9 q9) (fun y s10 ⟨yv,H10,I10,ry,xs,hxs,hlen,m',hm,w10⟩=>?_) fun _ _ z=>z.elim
    refine wpAny_mono (mt_append (X:=compCx X ys M scope cl _ _ _ _ _) _ s10 _ H10 (.ref s.heap.objs.size) [yv] (.ref s.heap.objs.size) [y] (fun _ H11=>H11=upd H10 s.heap.objs.size (.lst (xs++[yv]))) I10 rfl (.cons ry .nil) ⟨_,xs,yv,rfl,rfl,hxs,hlen,rfl⟩) (fun _ s11 ⟨z,H11,I11,rz,q11⟩=>?_) fun _ _ z=>z.elim
    subst q11;refine ⟨m',hm,i+1,us',_,lu',I11.unpinned (pins:=[]),T.keep _ _ _ st7 fun b hb o e=>(I11.pin (b,o) (List.mem_append_right _ (List.mem_append_right _ (mem_pinsAt hb e)))).1,fun b hb=>?_,w10⟩;obtain ⟨o,e,_⟩:=T.obj _ _ st7 b hb;exact (I11.pin (b,o) (List.mem_append_right _ (List.mem_append_right _ (mem_pinsAt hb e)))).2.1
   | false =>
    rw [if_neg Bool.false_ne_true] at q9 ⊢;obtain ⟨m',hm,w9⟩:=q9;refine ⟨m',hm,i+1,us',_,lu',I9.unpinned (pins:=[]),T.keep _ _ _ st7 fun b hb o e=>(I9.pin (b,o) (List.mem_append_right _ (List.mem_append_right _ (mem_pinsAt hb e)))).1,fun b hb=>?_,w9⟩;obtain ⟨o,e,_⟩:=T.obj _ _ st7 b hb;exact (I9.pin (b,o) (List.mem_append_right _ (List.mem_append_right _ (mem_pinsAt hb e)))).2.1
 exact codeAny_compStart_list (loop _ rfl) (T.self _ 0 _ _ _ st4 (loop _ rfl))
theorem pe_lcF{elt iter tg cn:Expr}{pos:Pos}{wi:TI}{g:TG}{tc:TT}{te:TE}{n:Nat}(ys M:List Str)(c0:CompS X.env.scope X.N M ys scope)(hc:X.calm=true)(hi:PI X tg iter wi)(hg:∀C s₀ H₀ fp pins,PG (compCx X ys M scope (clOf scope X.env.cells) C s₀ H₀ fp pins) tg g)
  (ht:∀C s₀ H₀ fp pins,PT (compCx X ys M scope (clOf scope X.env.cells) C s₀ H₀ fp pins) cn tc) (he:∀C s₀ H₀ fp pins,PE (compCx X ys M scope (clOf scope X.env.cells) C s₀ H₀ fp pins) elt te)
  (hn:ys.length=n:=by rfl) (hs:∀v,foldedSetIterable iter X.env v=pure v:=by intro _;rfl):PE X (.ListComp elt [⟨tg,iter,[cn],0⟩] scope pos) (tCompF wi n g tc te):=by
 subst hn;intro pins s σ H Q I h;have c:=c0.sc I.ok
 have hi':PI X tg iter (fun σ H R=>∃R',(∀J H1,R' J H1→R J H1)∧wi σ H R'):=by
  intro pins s σ H R I ⟨R',hR,hw⟩;refine thn (hi pins s σ H R' I hw) fun v s1 h1=>thn h1 fun itv s2 ⟨it,fp,tn,J,H',e,I',T,t0,fk,r⟩=>⟨it,fp,tn,J,H',e,I',T,t0,fk,hR J H' r⟩
 rw [eval_ListComp];refine wpAny_comprehension_free (use:=none) rfl hs c.clos c.kind c.names (thn (hi' pins s σ H (fun J H1=>CompF J ys.length g tc te σ (fun v H'=>∃D,v = .ref D∧Q (.ref D) H') H1) I ⟨_,fun J H1 q D nD=>?_,h⟩) fun v s1 h1=>thn h1 fun itv s2 h2=>?_)
 ·obtain ⟨W,w0,t⟩:=q D nD;exact ⟨W,w0,fun i m H w=>(t i m H w).imp (fun z=>⟨z.1,D,rfl,z.2⟩) id⟩
 obtain ⟨it,fp,tn,J,H2,rfl,I2,T,st2,fk2,h3⟩:=h2;refine comp_coreF (E:=X.xe) (QQ:=fun D H'=>Q (.ref D) H') I2 c hc hg ht he T st2 fk2 h3 fun D C H' s' hC hl ns fr I' q=>?_
 obtain ⟨m,hn⟩:=ns;refine ⟨m,hn,fun h' hs'=>?_⟩;have sz:=I2.sz;exact ⟨.ref D,H',I'.turned (t':=s'.toks) (fun b o hb e=>(hs'.2 b hb).trans e) fr (I2.fpOk hC fr).2.1 (I2.fpOk hC fr).2.2.2.1 (I2.fpOk hC fr).2.2.2.2.1 (I2.fpOk hC fr).2.2.2.2.2,rfl,q⟩
theorem ps_lcF{elt iter tg cn:Expr}{pos py sp:Pos}{wi:TI}{g:TG}{tc:TT}{te:TE}{i n:Nat}{y:Str}(ys M:List Str)(hN:X.N.Nodup)(hy:X.N[i]? = some y)(ly:X.env.scope.names.lookup y=some .local)(c0:CompS X.env.scope X.N M ys scope)(hc:X.calm=true)(hi:PI X tg iter wi)
  (hg:∀C s₀ H₀ fp pins,PG (compCx X ys M scope (clOf scope X.env.cells) C s₀ H₀ fp pins) tg g) (ht:∀C s₀ H₀ fp pins,PT (compCx X ys M scope (clOf scope X.env.cells) C s₀ H₀ fp pins) cn tc) (he:∀C s₀ H₀ fp pins,PE (compCx X ys M scope (clOf scope X.env.cells) C s₀ H₀ fp pins) elt te) (hn:ys.length=n:=by rfl)
  (hsw:swapsWith (.ListComp elt [⟨tg,iter,[cn],0⟩] scope pos) (some (.Name y py)) sp.line X.env=pure true:=by rfl) (hs:∀v,foldedSetIterable iter X.env v=pure v:=by intro _;rfl) :
  PS X (.Assign [.Name y py] (.ListComp elt [⟨tg,iter,[cn],0⟩] scope pos) sp) (tAsg (tCompF wi n g tc te) (gName i)):=by
 subst hn;intro pins s σ H D I h;have c:=c0.sc I.ok
 have hi':PI X tg iter (fun σ H R=>∃R',(∀J H1,R' J H1→R J H1)∧wi σ H R'):=by
  intro pins s σ H R I ⟨R',hR,hw⟩;refine thn (hi pins s σ H R' I hw) fun v s1 h1=>thn h1 fun itv s2 ⟨it,fp,tn,J,H',e,I',T,t0,fk,r⟩=>⟨it,fp,tn,J,H',e,I',T,t0,fk,hR J H' r⟩
 rw [exec_Assign_Name_used _ _ _ _ hsw];refine wpAny_bind (wpAny_standAt (wpAny_bind ?_));show wpAny _ X.A (do let _ ← comprehension (.ListComp elt [⟨tg,iter,[cn],0⟩] scope pos) scope X.env _ (newList []) false (eval iter X.env) (some (assign (.Name y py) X.env))) _ _ s;refine wpAny_bind (wpAny_mono (wpAny_comprehension_free (use:=some (assign (.Name y py) X.env)) (Q:=fun _ s'=>SP X pins D .next s') rfl hs c.clos c.kind c.names (thn (hi' pins s σ H (fun J H1=>CompF J ys.length g tc te σ (fun v H'=>∃Da,v = .ref Da∧D.nx (σ.set i (some (.ref Da))) H') H1) I ⟨_,fun J H1 q Da nD=>?_,h⟩) fun v s1 h1=>thn h1 fun itv s2 h2=>?_)) (fun _ s' hq=>wpAny_pure (wpAny_pure hq)) fun _ _ z=>z)
 ·obtain ⟨W,w0,t⟩:=q Da nD;exact ⟨W,w0,fun i m H w=>(t i m H w).imp (fun z=>⟨z.1,Da,rfl,z.2⟩) id⟩
 obtain ⟨it,fp,tn,J,H2,rfl,I2,T,st2,fk2,h3⟩:=h2;refine comp_coreF (E:=X.xe) (QQ:=fun Da H'=>D.nx (σ.set i (some (.ref Da))) H') I2 c hc hg ht he T st2 fk2 h3 fun Da C H' s' hC hl ns fr I' q=>?_
 obtain ⟨m,hn⟩:=ns;refine wpAny_assign_Name (store_ok2 I' hN hy (.inl ly) (v:=.ref Da) rfl (fun s3 I3 ⟨a,hsa,ha⟩=>?_) (.inr ly))
 have nC:C≠a:=by
  rcases ha with z | z
  ·rw [z];exact (I2.fpOk hC fr).2.1
  ·exact fun w'=>(I2.fpOk hC fr).2.2.2.2.1 y a z w'.symm
 refine ⟨m,hn.sameBut hsa nC,fun h' hs'=>⟨_,H',I3.turned (t':=s3.toks) (fun b o hb e=>(hs'.2 b hb).trans e) fr (I2.fpOk hC fr).2.1 (I2.fpOk hC fr).2.2.2.1 (I2.fpOk hC fr).2.2.2.2.1 (I2.fpOk hC fr).2.2.2.2.2,q⟩⟩
end
section
variable{K:Fg}{tc:TT}{te:TE}{σ : St}{Q:VK}{H:Hp}
theorem k_compF{wi:TI}{n:Nat}{g:TG}(h:wi σ H fun J H1=>CompF J n g tc te σ Q H1):tCompF wi n g tc te σ H Q:=h
def SkK(n i:Nat)(Pv:Nat→Hp→Prop):Hp→Prop:=fun H2=>∃m',m' < n - i∧m'=n - (i+1)∧i+1≤n∧Pv (i+1) H2
def EltF(g:TG)(n:Nat)(tc:TT)(te:TE)(σ : St)(v:V)(H:Hp)(D:Addr)(m i:Nat)(Pv:Nat→Hp→Prop):Prop:=∀us:St,us.length=n→g v (us ++ σ) H fun σ2 H2=>(∃us':St,us'.length=n∧σ2=us' ++ σ)∧tc σ2 H2 fun b H3=>if b=true then te σ2 H3 (EltK D m i Pv) else SkK m i Pv H3
theorem skipped{n i:Nat}{Pv:Nat→Hp→Prop}{H2:Hp}(hi:i < n)(h:Pv (i+1) H2):SkK n i Pv H2:=⟨n - (i+1),by omega,rfl,hi,h⟩
end
section
variable{X:Cx}{pos:Pos}
end
section
variable{K:Fg}{σ : St}{H:Hp}{Q:VK}{te:TE}
end
section
variable{X:Cx}{tg:Expr}
end
section
variable{X:Cx}{tg:Expr}
end
section
variable{K:Fg}{te:TE}{σ : St}{Q:VK}{H:Hp}
theorem k_all{a:Addr}{bs:List Bool}(e:SqL K H a (bs.map V.bl))(h:Q (.bl (bs.all id)) H):rAll K [.ref a] H Q:=⟨a,bs,rfl,e,h⟩
theorem comp_bls{b:Bool}{D:Addr}{n i:Nat}{H0 H2:Hp}{Pv:Nat→Hp→Prop}(hn:n≤1000)(hi:i < n)(hP:∀j H3,Pv j H3↔AccZ K H0 D H3 ((List.replicate j b).map PySem.W.Dat.bool))(A:Pv i H2){H3:Hp}(S:Same H2 H3):EltK D n i Pv (.bl b) H3:=by
 have A2:=((hP i H2).mp A).on S;refine pushed hi (A2.pushK (.bl b) (by rw [List.length_map,List.length_replicate,show sizeLine=16777216 by decide];omega) fun H4 A4=>?_);rw [hP,List.replicate_succ',List.map_append];exact A4
theorem AccZ.bls{H0:Hp}{l:Addr}{bs:List Bool}(A:AccZ K H0 l H (bs.map PySem.W.Dat.bool)):SqL K H l (bs.map V.bl):=by
 obtain ⟨xs,h1,h2⟩:=A.at_
 have:∀{vs:List V} {bs:List Bool},RzL K H vs (bs.map PySem.W.Dat.bool)→vs=bs.map V.bl:=by
  intro vs bs
  induction bs generalizing vs with
  | nil=>intro h;cases h;rfl
  | cons b bs ih =>
   intro h;cases h with
   | cons h1 h2 =>
    cases h1;rw [ih h2];rfl
 rw [this h2] at h1;exact SqL.of h1
end
end L2
namespace Gd
def gd(a b:Int):Int:=(Int.gcd a b:Nat)
theorem gd_turn(a b:Int):gd b (Int.fmod a b)=gd a b:=by
 unfold gd
 have e:Int.fmod a b=a+b*(-(Int.fdiv a b)):=by
  rw [Int.fmod_def,Int.mul_neg];omega
 rw [e,Int.gcd_add_mul_left_right,Int.gcd_comm]
theorem gd_less{a b:Int}(h:b≠0):(Int.fmod a b).natAbs < b.natAbs:=by
 rcases (by omega:0 < b∨b < 0) with p | p
 ·have h1:=Int.fmod_nonneg_of_pos a p;have h2:=Int.fmod_lt_of_pos a p;omega
 ·have e:Int.fmod a b = -(Int.fmod (-a) (-b)):=by
   rw [Int.fmod_def,Int.fmod_def,Int.neg_fdiv_neg];rw [Int.neg_mul];omega
  have h1:=Int.fmod_nonneg_of_pos (-a) (b:=-b) (by omega);have h2:=Int.fmod_lt_of_pos (-a) (b:=-b) (by omega);omega
theorem gd_zero(a:Int):gd a 0=(a.natAbs:Int):=by
 unfold gd;rw [Int.gcd_zero_right]
theorem gd_out(a:Int):(if a < 0 then -a else a)=gd a 0:=by
 rw [gd_zero];split <;> omega
theorem gd_pos{a b:Int}(h:b≠0):0 < gd a b:=by
 unfold gd
 have:Int.gcd a b≠0:=fun e=>h (Int.gcd_eq_zero_iff.mp e).2
 omega
theorem gd_nonneg(a b:Int):0≤gd a b:=Int.natCast_nonneg _
theorem gd_le{a b:Int}(h:b≠0):gd a b≤(b.natAbs:Int):=by
 unfold gd
 have:=Int.gcd_le_natAbs_right a h
 omega
structure Low (top bottom q p:Int):Prop where
 pos:0 < p
 low:gd q p=1
 worth:q*bottom=top*p
theorem low_of{t b d:Int}(hb:b≠0)(hd:d=gd t b∧0 < b∨d = - gd t b∧b < 0):Low t b (Int.fdiv t d) (Int.fdiv b d):=by
 have gp:=gd_pos (a:=t) hb;have d1:gd t b∣t:=Int.gcd_dvd_left t b;have d2:gd t b∣b:=Int.gcd_dvd_right t b;have e1:d∣t:=by rcases hd with ⟨e,_⟩ | ⟨e,_⟩ <;> rw [e];exact d1;exact Int.neg_dvd.mpr d1
 have e2:d∣b:=by rcases hd with ⟨e,_⟩ | ⟨e,_⟩ <;> rw [e];exact d2;exact Int.neg_dvd.mpr d2
 have d0:d≠0:=by rcases hd with ⟨e,_⟩ | ⟨e,_⟩ <;> omega
 obtain ⟨q,rfl⟩:=e1;obtain ⟨p,rfl⟩:=e2;rw [Int.mul_fdiv_cancel_left _ d0,Int.mul_fdiv_cancel_left _ d0];refine ⟨?_,?_,?_⟩
 ·rcases hd with ⟨e,z⟩ | ⟨e,z⟩
  ·exact Int.pos_of_mul_pos_right z (by omega) |> fun h=>h
  ·have z':0 < (-d)*p:=by rw [Int.neg_mul];omega
   exact Int.pos_of_mul_pos_right z' (by omega)
 ·have m:gd (d*q) (d*p)=(d.natAbs:Int)*gd q p:=by
   unfold gd;rw [Int.gcd_mul_left];simp
  have n:gd (d*q) (d*p)=(d.natAbs:Int):=by
   rcases hd with ⟨e,z⟩ | ⟨e,z⟩ <;> omega
  rw [n] at m;have k:(d.natAbs:Int)*gd q p=(d.natAbs:Int)*1:=by omega
  exact Int.eq_of_mul_eq_mul_left (by omega) k
 ·rw [← Int.mul_assoc,Int.mul_comm q d]
theorem fdiv_abs{t d:Int}(h:d≠0)(hd:d∣t):(Int.fdiv t d).natAbs≤t.natAbs:=by
 obtain ⟨q,rfl⟩:=hd;rw [Int.mul_fdiv_cancel_left _ h,Int.natAbs_mul];exact Nat.le_mul_of_pos_left _ (by omega)
theorem low_abs{t b d:Int}(hb:b≠0)(hd:d=gd t b∧0 < b∨d = - gd t b∧b < 0):(Int.fdiv t d).natAbs≤t.natAbs∧(Int.fdiv b d).natAbs≤b.natAbs:=by
 have gp:=gd_pos (a:=t) hb;have d1:gd t b∣t:=Int.gcd_dvd_left t b;have d2:gd t b∣b:=Int.gcd_dvd_right t b;have d0:d≠0:=by rcases hd with ⟨e,_⟩ | ⟨e,_⟩ <;> omega
 refine ⟨fdiv_abs d0 ?_,fdiv_abs d0 ?_⟩
 ·rcases hd with ⟨e,_⟩ | ⟨e,_⟩ <;> rw [e];exact d1;exact Int.neg_dvd.mpr d1
 ·rcases hd with ⟨e,_⟩ | ⟨e,_⟩ <;> rw [e];exact d2;exact Int.neg_dvd.mpr d2
theorem wide{i:Int}(h:i.natAbs < 10000000000000000000000000000000000000001):i.natAbs < 2 ^ 9000 :=
 Nat.lt_of_lt_of_le h (by
  have:10000000000000000000000000000000000000001≤2 ^ 133:=by decide
  exact Nat.le_trans this (Nat.pow_le_pow_right (by decide) (by decide)))
end Gd
namespace Fr
open PySem L2
def spDiv:Sp:=fun vs H Q _=>∃a b:Int,vs=[.int a,.int b]∧Q (.int (Gd.gd a b)) H
theorem len_div{vs:List V}{H:Hp}{Q:VK}{E:XK}{y z:Str}(h:spDiv vs H Q E):vs.length=[y,z].length:=by
 obtain ⟨a,b,rfl,_⟩:=h;rfl
def tDiv:TS:=(tSeq (tWhile (tTest (tOp rNe (tVar 1) (tC (.int 0))))
 (tSeq (tAsg (tOp rModN (tVar 0) (tVar 1)) (gName 2))
 (tSeq (tAsg (tVar 1) (gName 0))
 (tAsg (tVar 2) (gName 1)))))
 (tRet (tCB rAbs (tCons (tVar 0) tNil))))
theorem rd_div(a b:Int)(H:Hp)(D:Ends)(k:D.rt (.int (Gd.gd a b)) H):tDiv D [some (.int a),some (.int b),none] H:=by
 refine while_by (fun σ H'=>H'=H∧∃(i j:Int) (v:Option V),σ = [some (.int i),some (.int j),v]∧Gd.gd i j=Gd.gd a b)
  (fun σ _=>match σ with | [_,some (.int j),_]=>j.natAbs | _=>0) ⟨rfl,a,b,none,rfl,rfl⟩ ?_ ?_
 ·rintro σ H' ⟨rfl,i,j,v,rfl,e⟩;refine ⟨_,rfl,rfl,_,rfl,iteNE (fun hj=>?_) (fun hj=>?_)⟩
  ·refine ⟨_,rfl,_,rfl,_,_,rfl,rfl,hj,_,rfl,_,rfl,⟨rfl,j,i.fmod j,_,rfl,(Gd.gd_turn i j).trans e⟩,?_⟩;exact Gd.gd_less hj
  ·subst hj;refine ⟨_,rfl,_,rfl,?_⟩;rw [Gd.gd_out,e];exact k
 ·rintro σ H' R R' h ⟨v,e,sc,c,ec,q⟩;exact ⟨v,e,sc,c,ec,h _ _ q⟩
end Fr
namespace Fr
open PySem L2
open PySem.W (Dat kqdOk)
def cellOf(ns:List Int)(k:Int):Int:=(ns[k.toNat]?).getD 0
def spCell(K:Fg):Sp:=fun vs H Q _=>∃(a:Addr) (ns:List Int) (k:Int),vs=[.ref a,.int k]∧SqL K H a (ns.map V.int)∧0≤k∧Q (.int (cellOf ns k)) H
theorem len_cell{K:Fg}{vs:List V}{H:Hp}{Q:VK}{E:XK}{y z:Str}(h:spCell K vs H Q E):vs.length=[y,z].length:=by
 obtain ⟨a,ns,k,rfl,_⟩:=h;rfl
def tCell(K:Fg):TS:=(tSeq (tIfS (tTest (tOp rLt (tVar 1) (tCB (rLenQ K) (tCons (tVar 0) tNil))))
 (tRet (tOp (rIxL K) (tVar 0) (tVar 1)))
 tNext)
 (tRet (tC (.int 0))))
theorem rd_cell{K:Fg}{a:Addr}{ns:List Int}{k:Int}{H:Hp}{D:Ends}(hS:SqL K H a (ns.map V.int))(h0:0≤k)(q:D.rt (.int (cellOf ns k)) H):tCell K D [some (.ref a),some (.int k)] H:=by
 have el:(ns.map V.int).length=ns.length:=List.length_map _;refine ⟨_,rfl,_,rfl,a,_,rfl,.inl hS,_,_,rfl,rfl,_,rfl,iteD (fun c=>?_) (fun c=>?_)⟩
 ·rw [el] at c;have hk:k.toNat < ns.length:=by omega
  have e:k=((k.toNat:Nat):Int):=by omega
  have z:cellOf ns k=ns[k.toNat]:=by
   unfold cellOf;rw [List.getElem?_eq_getElem hk];rfl
  have w:atI (ns.map V.int) ((k.toNat:Nat):Int)=some (.int ns[k.toNat]):=atI_nat (by rw [List.getElem?_map];simp [hk]);rw [← e] at w;rw [z] at q;exact ⟨_,rfl,_,rfl,a,_,_,_,rfl,rfl,hS,w,q⟩
 ·rw [el] at c
  have z:cellOf ns k=0:=by
   unfold cellOf;rw [List.getElem?_eq_none (by omega)];rfl
  rw [z] at q;exact q
def spWhole:Sp:=fun vs H Q _=>∃i:Int,vs=[.int i]∧Q (.bl true) H
theorem len_whole{vs:List V}{H:Hp}{Q:VK}{E:XK}{y:Str}(h:spWhole vs H Q E):vs.length=[y].length:=by
 obtain ⟨i,rfl,_⟩:=h;rfl
def tWhole (K:Fg):TS:=(tRet (tAndV (tCB (rIsi K) (tCons (tVar 0) (tCons (tC (.ty "int")) tNil))) (tNotV (tCB (rIsi K) (tCons (tVar 0) (tCons (tC (.ty "bool")) tNil))))))
theorem rd_whole{K:Fg}{i:Int}{H:Hp}{D:Ends}(q:D.rt (.bl true) H):tWhole K D [some (.int i)] H :=
 ⟨_,rfl,_,_,_,_,rfl,TyOf.int i,kit_ii,_,rfl,iteT ⟨_,rfl,_,_,_,_,rfl,TyOf.int i,kit_ib,_,rfl,q⟩⟩
end Fr
namespace Kd
open PySem L2
end Kd
namespace Ex0
open PySem L2 Fr Kd
end Ex0
namespace L2
open PySem PySem.SetTable
end L2
namespace L2
open PySem PySem.SetTable
theorem insertAt_list{α : Type}(l:List α)(p:Nat)(x : α)(_hp:p≤l.length):insertAt l.toArray p x=(l.take p++x :: l.drop p).toArray:=by
 unfold insertAt;apply Array.ext';simp [List.extract_eq_take_drop];rw [List.take_of_length_le (by simp)]
theorem slot_empty{t:SetTable}{l:List Nat}(hp:t.place=l.toArray)(hd:t.dummies = #[]){j:Nat}(h:j∉l):t.slot j = .empty:=by
 unfold SetTable.slot;rw [hp,hd];show (if l.toArray[below l.toArray j]? == some j then _ else _)=_;rw [if_neg,if_neg]
 ·simp [has,below,below.go]
 ·intro e;exact h (List.mem_of_getElem? (by simpa using e))
end L2
namespace L2
open PySem PySem.SetTable
theorem get_ins{α : Type}{l:List α}{p:Nat}(hp:p≤l.length)(x : α)(i:Nat):(l.take p++x :: l.drop p)[i]? = if i < p then l[i]? else if i=p then some x else l[i - 1]?:=by
 have ht:(l.take p).length=p:=by rw [List.length_take];omega
 by_cases h1:i < p
 ·rw [if_pos h1,List.getElem?_append_left (by omega),List.getElem?_take,if_pos h1]
 ·rw [if_neg h1,List.getElem?_append_right (by omega),ht];by_cases h2:i=p
  ·rw [if_pos h2,h2,Nat.sub_self];rfl
  ·rw [if_neg h2,show i - p=(i - p - 1)+1 by omega,List.getElem?_cons_succ,List.getElem?_drop];congr 1;omega
end L2
namespace L2
open PySem PySem.SetTable
end L2
namespace L2
open PySem PySem.Spec PyProof.Rows
section
variable{prog:Program}{w:World}{E:Value→Shared→Prop}
end
section
variable{prog:Program}{w:World}{A:Around}{E:Value→Shared→Prop}
end
end L2
namespace L2
open PySem PySem.Spec PyProof.Rows
open PySem.W (Dat kqdP kqdOk)
section
variable{prog:Program}{w:World}{A:Around}{E:Value→Shared→Prop}{s:Shared}
end
end L2
namespace L2
open PySem PySem.Spec PyProof.Rows
open PySem.W (Dat kqdP kqdOk)
section
variable{prog:Program}{w:World}{A:Around}{E:Value→Shared→Prop}{s:Shared}
end
end L2
namespace L2
open PySem PySem.Spec PyProof.Rows
open PySem.W (Dat kqdP kqdOk)
section
variable{prog:Program}{w:World}{A:Around}{R:Result→Shared→Prop}{I:Addr}{fp wr:List Addr}{n:Nat}{P:Nat→Value→Prop}{St:Nat→Heap→Prop}
theorem set_loop(W:Walks prog w A.in1 I fp wr n P St)(S:Addr)(nS:S∉fp)(Z:Nat→Heap→Prop)(zk:∀i h h',Z i h→(∀b o,b∉wr→h.get? b=some o→h'.get? b=some o)→Z i h')
  (za:∀i v (s:Shared) (Q:Bool→Shared→Prop) (E:Value→Shared→Prop),i < n→P i v→Z i s.heap→(∀r h' tk,Z (i+1) h'→(∀b,b≠S→h'.get? b=s.heap.get? b)→Q r { s with heap:=h',toks:=tk })→wpAny (model prog w) A.in1 (setAdd S v) Q E s) :
  ∀(k i:Nat) (s:Shared),n - i=k→i≤n→St i s.heap→Z i s.heap→(∀h' tk,Z n h'→(∀b o,b∉S :: wr→s.heap.get? b=some o→h'.get? b=some o)→R (.ok (.ret .none)) { s with heap:=h',toks:=tk }) →
   codeAny (model prog w) A (.builtin "set.update.loop" ⟨[.ref S,.ref I],[]⟩) R s:=by
 have nw:S∉wr:=fun h=>nS (W.sub _ h)
 intro k
 induction k with
 | zero =>
  intro i s hk hi hst hz hR;obtain rfl:i=n:=by omega
  refine codeAny_builtin F.entry_set_update_loop ?_;rw [Around.under_plainId F.plain_set_update_loop _];refine (show wpAny _ A.in1 (pyNext (.ref I) >>= _) _ _ s from wpAny_bind (W.done s _ _ hst fun h' tk hm=>?_));refine (show wpAny _ A.in1 (ret Value.none) _ _ _ from wpAny_pure (hR h' tk (zk _ _ _ hz hm) fun b o hb e=>hm b o (fun z=>hb (List.mem_cons_of_mem _ z)) e))
 | succ k ih =>
  intro i s hk hi hst hz hR;have hlt:i < n:=by omega
  refine codeAny_builtin F.entry_set_update_loop ?_;rw [Around.under_plainId F.plain_set_update_loop _];refine (show wpAny _ A.in1 (pyNext (.ref I) >>= _) _ _ s from wpAny_bind (W.item i s _ _ hlt hst fun v h' tk hP hst' hm=>?_));refine (show wpAny _ A.in1 (holding [v] (setAdd S v) >>= _) _ _ _ from wpAny_bind (wpAny_holding (za i v _ _ _ hlt hP (zk _ _ _ hz hm) fun r h2 tk2 z2 k2=>?_)));refine wpAny_pure ⟨plainId_quiet F.plain_set_update_loop _,ih (i+1) _ (by omega) hlt (W.frame _ _ _ hst' fun b hb o e=>?_) z2 fun h3 tk3 z3 k3=>hR h3 tk3 z3 fun b o hb e=>?_⟩
  ·exact (k2 b fun z=>nS (z ▸ hb)).trans e
  ·refine k3 b o hb ((k2 b fun z=>hb (z ▸ List.mem_cons_self)).trans (hm b o (fun z=>hb (List.mem_cons_of_mem _ z)) e))
end
namespace F
theorem sub_tuple_set:isSubtype (.type "tuple") (.type "set")=pure false:=by rw [isSubtype_type];kernel_rfl
theorem sub_tuple_frozenset:isSubtype (.type "tuple") (.type "frozenset")=pure false:=by rw [isSubtype_type];kernel_rfl
end F
section
variable{prog:Program}{w:World}{A:Around}{E:Value→Shared→Prop}{s:Shared}
theorem Kn.walks(k:Kn)(hh:A.handled=none)(I ax:Addr)(hne:ax≠I)(items:Array Value):Walks prog w A I [I,ax] [I] items.size (fun i v=>items[i]? = some v) (fun i h=>k.it h I ax i∧k.seq h ax items):=by
 cases k
 ·exact Walks.list hh I ax hne items
 ·exact Walks.tuple hh I ax hne items
def sob (led:Bool):Obj:={ cls:=.type "set",dict:=none,data:=.set #[] 0 (.fresh 0 0 led) }
end
end L2
namespace L2
open PySem PySem.Spec PyProof.Rows
open PySem.W (Dat kqdP kqdOk)
theorem bb_set:bootBuiltins "set" = some (.type "set"):=by decide +kernel
end L2
namespace L2
open PySem PySem.Spec PyProof.Rows
def Ite(K:Fg)(a:Addr):It :=
 ⟨fun i H=>∃xs,SqL K H a xs∧i < xs.length,fun i H v H'=>∃T x,H T=none∧v = .ref T∧H'=upd H T (.tup [.int i,x])∧∀xs,SqL K H a xs→xs[i]? = some x,fun i H=>∃xs,SqL K H a xs∧xs.length≤i⟩
theorem turn_enum{P:Program}{w:World}{K:Fg}{elts:List Expr}{x1}{pos:Pos}{a e it:Addr}(n1:e≠it)(n2:a≠it) :
  Turn P w K (.Tuple elts x1 pos) (Ite K a) [e,it] e (fun i h=>(∃old,IsEnum h e it (i:Int) old)∧h.IsListIter it a i) where
 mem:=by simp
 obj:=fun i h ⟨⟨old,he⟩,t⟩ c hc=>by
  simp only [List.mem_cons,List.not_mem_nil,or_false] at hc;rcases hc with rfl | rfl
  ·exact ⟨_,he,fun v q=>by cases (show Data.fields _=Data.cell v from q)⟩
  ·obtain ⟨o,ho,_,d⟩:=t;exact ⟨o,ho,fun v q=>by rw [d] at q;cases q⟩
 keep:=fun i h h' ⟨⟨old,he⟩,t⟩ kp=>⟨⟨old,kp e (by simp) _ he⟩,t.at fun o z=>kp it (by simp) o z⟩
 item:=by
  intro X hP hw hK hc i pins s σ H E I hf ⟨⟨old,he⟩,t⟩ hg;subst hP hw hK;obtain ⟨xs,q1,l1⟩:=hg;obtain ⟨its,r1,p,_⟩:=I.list q1;obtain ⟨u1,e1,ru1⟩:=r1.get (List.getElem?_eq_getElem l1);refine wpAny_pyNext_enum_item he t p.isList (x:=u1) (by simpa using e1) n1 fun h' he' t' hT sz all=>⟨_,rfl,?_⟩
  refine wpAny_letOwnedTupleGo_enum (s:={ s with heap:=h',toks:=s.toks+1 }) he' fun h2 he2 sb=>?_
  have hfr:H s.heap.objs.size=none:=I.hok.fresh (Nat.le_refl _)
  have nT:∀c∈[e,it],c≠s.heap.objs.size:=fun c hc'=>by
   simp only [List.mem_cons,List.not_mem_nil,or_false] at hc';rcases hc' with rfl | rfl
   ·exact Nat.ne_of_lt (Heap.lt_size he)
   ·obtain ⟨o,ho,_⟩:=t;exact Nat.ne_of_lt (Heap.lt_size ho)
  have I1:Inv X pins σ (upd H s.heap.objs.size (.tup [.int i,xs[i]])) { s with heap:=s.heap.push { cls:=.type "tuple",data:=.seq #[.int i s.toks,u1] } } :=
   I.laid (t':=s.toks) (fun b u z=>Heap.get?_push_of_some _ z) (Nat.le_refl _) ⟨by show 2≤sizeLine;decide,[.int i s.toks,u1],.cons ⟨_,rfl⟩ (.cons ru1 .nil),⟨_,Heap.get?_push_size _ rfl,rfl,_,rfl⟩⟩
  have I2:Inv X pins σ (upd H s.heap.objs.size (.tup [.int i,xs[i]])) { s with heap:=h2,toks:=s.toks+1 }:=Inv.turnedL (s:={ s with heap:=s.heap.push { cls:=.type "tuple",data:=.seq #[.int i s.toks,u1] } }) (t':=s.toks+1) (fp:=[e,it]) I1 (fun c o hc' z=>by
   have c1:c≠e:=fun x=>hc' (by simp [x])
   have c2:c≠it:=fun x=>hc' (by simp [x])
   rcases Heap.get?_push_cases z with ⟨ec,eo⟩ | z
   ·rw [ec,eo];exact sb.extBut _ _ (nT e (by simp)).symm hT
   ·exact sb.extBut _ _ c1 (all c o c1 c2 z)) fun c hc'=>⟨by rw [upd_ne (nT c hc')];exact (hf c hc').1,(hf c hc').2⟩
  exact ⟨.ref s.heap.objs.size,_,I2,rfl,⟨s.heap.objs.size,xs[i],hfr,rfl,rfl,fun zs hz=>by rw [I.list_inj hz q1,List.getElem?_eq_getElem l1]⟩,⟨⟨_,he2⟩,t'.at fun o z=>sb.extBut _ _ n1.symm z⟩,fun c hc'=>by rw [upd_ne (nT c hc')];exact (hf c hc').1⟩
 done:=by
  intro X hP hw hK hc i pins s σ H E I hf ⟨⟨old,he⟩,t⟩ hg;subst hP hw hK;obtain ⟨xs,q1,le⟩:=hg;obtain ⟨its,r1,p,_⟩:=I.list q1;have e1:=r1.length;exact wpAny_pyNext_enum_end (I.ok.hd hc) he t p.isList (by simp;omega) fun h' all=>⟨rfl,I.turnedL (t':=s.toks) (fun c o hc' z=>all c o (fun x=>hc' (by simp [x])) z) hf⟩
 self:=fun _ _ _ _ _ st q=>let ⟨⟨_,he⟩,_⟩:=st;wpAny_pyIter_enum he q
def iEnum(K:Fg)(ta:TA):TI:=fun σ H R=>ta σ H fun vs H1=>∃a xs,vs=[.ref a]∧SqL K H1 a xs∧R (Ite K a) H1
theorem bb_enumerate:bootBuiltins "enumerate" = some (.type "enumerate"):=by decide +kernel
section
variable{X:Cx}
theorem pi_enum {x:Expr} {ta:TA} {elts:List Expr} {x1} {p pos tp:Pos} (hg:Gl X "enumerate") (hm:X.mg "enumerate" = none) (ha:PA X [x] ta) (hs:starEach [x] X.env=[(false,eval x X.env)]:=by rfl) :
  PI X (.Tuple elts x1 tp) (.Call (.Name "enumerate" p) [x] [] pos) (iEnum X.K ta):=by
 intro pins s σ H R I h;refine Call_ (ld_blt I hg hm bb_enumerate (PyProof.Rows.callWith_type1 (thn (ha pos pins s σ H _ I h) fun us s1 ⟨vs,H1,I1,r1,q1⟩=>?_) (by rw [hs];rfl) (by rfl)));obtain ⟨a,xs,e,sq,q⟩:=q1;subst e;obtain ⟨u1,rfl,ra⟩:=vals1 r1;cases ra;obtain ⟨its,rv,p1,_⟩:=I1.list sq;have lt:a < s1.heap.objs.size:=by obtain ⟨_,z,_⟩:=p1.isList;exact Heap.lt_size z
 refine call_enumerate_list p1.isList fun h' he t sz kp=>?_
 refine wpAny_pyIter_enum (s:={ s1 with heap:=h' }) he ?_;refine ⟨s1.heap.objs.size+1,[s1.heap.objs.size+1,s1.heap.objs.size],_,_,H1,rfl,I1.kept (t':=s1.toks) kp,turn_enum (Nat.succ_ne_self _) (Nat.ne_of_lt lt),⟨⟨_,he⟩,t⟩,fun c hc=>?_,q⟩
 have le2:s1.heap.objs.size≤c:=by
  simp only [List.mem_cons,List.not_mem_nil,or_false] at hc;rcases hc with rfl | rfl
  ·exact Nat.le_succ _
  ·exact Nat.le_refl _
 exact I1.fpOk le2 (I1.hok.fresh le2)
end
section
variable{K:Fg}{te:TE}{tc:TT}{σ : St}{Q:VK}{H:Hp}{D:Ends}
theorem k_enum{ta:TA}{R:It→Hp→Prop}(h:ta σ H fun vs H1=>∃a xs,vs=[.ref a]∧SqL K H1 a xs∧R (Ite K a) H1):iEnum K ta σ H R:=h
theorem fat_enum{a:Addr}{xs:List V}{g:TG}{tb:TS}(Pv:Nat→St→Hp→Prop)(h0:Pv 0 σ H)(hl:∀i σ H,i≤xs.length→Pv i σ H→SqL K H a xs)
  (hs:∀i x σ H T,xs[i]? = some x→Pv i σ H→H T=none→g (.ref T) σ (upd H T (.tup [.int i,x])) fun σ2 H2=>tb { D with nx:=Pv (i+1),ct:=Pv (i+1),bk:=D.nx } σ2 H2) (hd:∀σ H,Pv xs.length σ H→D.nx σ H):FAt (Ite K a) g tb D σ H:=by
 refine ⟨fun i m σ H=>m=xs.length - i∧i≤xs.length∧Pv i σ H,⟨_,rfl,Nat.zero_le _,h0⟩,?_⟩;rintro i m σ H ⟨rfl,hi,p⟩;have q:=hl i σ H hi p;by_cases hlt:i < xs.length
 ·refine .inr ⟨⟨xs,q,hlt⟩,Pv (i+1),fun σ' H' p'=>⟨xs.length - (i+1),by omega,rfl,hlt,p'⟩,fun v H' y=>?_⟩;obtain ⟨T,x,nT,rfl,rfl,z⟩:=y;exact hs i x σ H T (z xs q) p nT
 ·have e:i=xs.length:=by omega
  subst e;exact .inl ⟨⟨xs,q,Nat.le_refl _⟩,hd σ H p⟩
end
def rRepS:R2:=fun x y H Q=>∃z i,x = .str z∧y = .int i∧(i=0∨i=1)∧Q (.str (if i=0 then Str.empty else z)) H
section
variable{X:Cx}
theorem op_repS:OpR X (binaryOp .Mult) rRepS:=by
 intro pins s σ H x y v u Q I rx ry h;obtain ⟨z,i,rfl,rfl,hi,q⟩:=h;obtain ⟨t,rfl⟩:=rx;obtain ⟨t',rfl⟩:=ry;rcases hi with rfl | rfl
 ·exact P.mul_str_none (by decide) (by decide) ⟨.str Str.empty,H,I.tok _,⟨_,rfl⟩,q⟩
 ·refine P.mul_str (by decide) (fun _ e=>by simp at e) (fun _ e=>by simp at e) ?_;rw [if_neg (by decide),if_pos (by simp)];exact ⟨.str z,H,I,⟨_,rfl⟩,q⟩
theorem k_repS{H:Hp}{Q:VK}{z:Str}{i:Int}(hi:i=0∨i=1)(q:Q (.str (if i=0 then Str.empty else z)) H):rRepS (.str z) (.int i) H Q:=⟨z,i,rfl,rfl,hi,q⟩
end
section
variable{prog:Program}{w:World}{A:Around}{E:Value→Shared→Prop}{s:Shared}
end
section
variable{X:Cx}{tg:Expr}
end
section
variable{K:Fg}{σ : St}{Q:VK}{H:Hp}{D:Ends}
end
open PySem.W (Dat kqdOk kqdP kqdPs)
def rIndex(K:Fg):V→List V→Hp→VK→Prop:=fun x xs H Q=>∃(a:Addr) (y:V) (ds:List Dat) (d:Dat) (j:Nat),x = .ref a∧xs=[y]∧Rep K H y d∧Rep K H (.ref a) (.list ds)∧(∀e∈ds,kqdOk 8 e=true)∧kqdOk 8 d=true∧ds[j]? = some d∧(∀m,m < j→ds[m]?≠some d)∧ds.length≤1000∧Q (.int j) H
open Classical in
theorem eqv_dec2{d e:Dat}(he:kqdOk 8 e=true)(hd:kqdOk 8 d=true):PyData.eqv (kqdP e) (kqdP d)=decide (d=e):=by
 have h:=any_dec (ds:=[e]) (d:=d) (fun x hx=>by rw [List.mem_singleton.mp hx];exact he) hd;rw [kqdPs,kqdPs,List.any_cons,List.any_nil,Bool.or_false] at h;rw [h];by_cases z:d=e
 ·simp [z]
 ·simp [z]
theorem kqdPs_get:∀{ds:List Dat} {i:Nat},(kqdPs ds)[i]? = (ds[i]?).map kqdP
 | [],i=>by rw [kqdPs];simp
 | d :: ds,0=>by rw [kqdPs];rfl
 | d :: ds,i+1=>by rw [kqdPs,List.getElem?_cons_succ,List.getElem?_cons_succ,kqdPs_get]
theorem kqdPs_len:∀ds:List Dat,(kqdPs ds).length=ds.length
 | []=>by rw [kqdPs];rfl
 | d :: ds=>by rw [kqdPs,List.length_cons,List.length_cons,kqdPs_len]
open Classical in
theorem mt_index {X:Cx} (hu:X.A.units+64 < cLine):MtR X "list.index" (rIndex X.K):=by
 intro pins s σ H x xs v us Q I rx rv h;obtain ⟨a,y,ds,d,j,rfl,rfl,hd,he,ka,kd,e1,e2,ln,q⟩:=h;obtain ⟨u,rfl,ru⟩:=vals1 rv;obtain ⟨as,ra⟩:=Rep.reads I hd ru;obtain ⟨bs,rb⟩:=Rep.reads I he rx;rw [kqdP] at rb;cases rx;generalize hp:kqdPs ds=ps at rb;cases rb with
 | @list _ o its n _ _ h1 h2 h3 h4 =>
  obtain ⟨c,dct,dt,sl⟩:=o;replace h2:c = .type "list":=h2;replace h3:dt = .seq its n:=h3;subst h2 h3;have hxs:PyData.canLayAll0 ps=true:=by rw [← hp];exact (PySem.W.kqd_layL ka).1
  have hmap:=SeqAt.readsAll_map ps _ _ hxs h4;have lj:j < ds.length:=(List.getElem?_eq_some_iff.mp e1).1
  have at_:∀m (hm:m < its.size),PyData.eqv (SeqAt.readOf s.heap its[m]) (kqdP d)=decide (ds[m]? = some d):=by
   intro m hm;have g:(its.toList.map (SeqAt.readOf s.heap))[m]? = some (SeqAt.readOf s.heap its[m]):=by rw [List.getElem?_map,Array.getElem?_toList,Array.getElem?_eq_getElem hm];rfl
   rw [hmap,← hp,kqdPs_get] at g;obtain ⟨e,ge,gp⟩:=Option.map_eq_some_iff.mp g;rw [← gp,eqv_dec2 (ka e (List.mem_of_getElem? ge)) kd,ge];by_cases z:d=e
   ·simp [z]
   ·have:e≠d:=fun w=>z w.symm
    simp [z,this]
  have szl:its.size=ds.length:=by
   have:=congrArg List.length hmap
   rw [List.length_map,Array.length_toList,← hp] at this;rw [this,kqdPs_len]
  have hm:wpAny (model X.prog X.w) X.A (call (.builtin "list.index") [.ref a,u]) (EP X pins σ Q) X.xe s:=by
   refine call_meets F.slot_list_index ⟨_,h1,rfl⟩ F.entry_list_index (F.args_list_index_2 _ _) (SeqAt.list_indexAt a its n dct sl u (fun y=>PyData.eqv (SeqAt.readOf s.heap y) (kqdP d)) j (by omega) (by omega) ?_ ?_) ⟨h1,SeqAt.items_eqAt h4 ra hxs (PySem.W.kqd_lay 8 d kd).1 ?_,⟨.int j,H,I.tok _,⟨_,rfl⟩,q⟩⟩
   ·rw [at_ j (by omega),e1];simp
   ·intro m hm hmj;rw [at_ m hm];exact decide_eq_false (e2 m hmj)
   ·have l:=(PySem.W.kqd_lay 8 d kd).2
    have:=Nat.min_le_right (PyData.depthAll ps) (kqdP d).depth
    omega
  exact hm
theorem k_index{K:Fg}{H:Hp}{Q:VK}{a:Addr}{y:V}{ds:List Dat}{d:Dat}{j:Nat}(hd:Rep K H y d)(he:Rep K H (.ref a) (.list ds))(ka:∀e∈ds,kqdOk 8 e=true)(kd:kqdOk 8 d=true)(e1:ds[j]? = some d)(e2:∀m,m < j→ds[m]?≠some d)(l:ds.length≤1000)(q:Q (.int j) H):rIndex K (.ref a) [y] H Q :=
 ⟨a,y,ds,d,j,rfl,rfl,hd,he,ka,kd,e1,e2,l,q⟩
section
variable{K:Fg}{σ : St}{Q:VK}{H:Hp}{td ty:TE}{D:Ends}
theorem k_dget(h:td σ H fun x H1=>ty σ H1 fun y H2=>∃a v,x = .ref a∧DGet H2 a y (some v)∧Q v H2):tDGet td ty σ H Q:=h
end
end L2
namespace L2
open PySem PySem.Spec PyProof.Rows
open PySem.W (Dat kqdOk kqdP kqdPs)
section
variable{K:Fg}{te:TE}{tc:TT}{σ : St}{Q:VK}{H:Hp}
theorem comp_listG{a:Addr}{xs:List V}{n:Nat}{g:TG}(h:∀D,H D=none→∃Pv:Nat→Hp→Prop,Pv 0 (upd H D (.lst []))∧(∀i H2,i≤xs.length→Pv i H2→SqL K H2 a xs)∧(∀i x H2,xs[i]? = some x→Pv i H2→EltG g n te σ x H2 D xs.length i Pv)∧∀H2,Pv xs.length H2→Q (.ref D) H2):CompG (Itl K a) n g te σ Q H:=by
 intro D nD;obtain ⟨Pv,h0,hl,hs,hd⟩:=h D nD;refine ⟨fun i m H=>m=xs.length - i∧i≤xs.length∧Pv i H,⟨_,rfl,Nat.zero_le _,h0⟩,?_⟩;rintro i m H ⟨rfl,hi,p⟩;have q:=hl i H hi p;by_cases hlt:i < xs.length
 ·refine .inr ⟨⟨xs,xs[i],q,List.getElem?_eq_getElem hlt⟩,fun v H' y us hu=>?_⟩;obtain ⟨rfl,z⟩:=y;exact hs i v _ (z xs q) p us hu
 ·have e:i=xs.length:=by omega
  subst e;exact .inl ⟨⟨xs,q,Nat.le_refl _⟩,hd H p⟩
theorem compF_list{a:Addr}{xs:List V}{n:Nat}{g:TG}(h:∀D,H D=none→∃Pv:Nat→Hp→Prop,Pv 0 (upd H D (.lst []))∧(∀i H2,i≤xs.length→Pv i H2→SqL K H2 a xs)∧(∀i x H2,xs[i]? = some x→Pv i H2→EltF g n tc te σ x H2 D xs.length i Pv)∧∀H2,Pv xs.length H2→Q (.ref D) H2):CompF (Itl K a) n g tc te σ Q H:=by
 intro D nD;obtain ⟨Pv,h0,hl,hs,hd⟩:=h D nD;refine ⟨fun i m H=>m=xs.length - i∧i≤xs.length∧Pv i H,⟨_,rfl,Nat.zero_le _,h0⟩,?_⟩;rintro i m H ⟨rfl,hi,p⟩;have q:=hl i H hi p;by_cases hlt:i < xs.length
 ·refine .inr ⟨⟨xs,xs[i],q,List.getElem?_eq_getElem hlt⟩,fun v H' y us hu=>?_⟩;obtain ⟨rfl,z⟩:=y;exact hs i v _ (z xs q) p us hu
 ·have e:i=xs.length:=by omega
  subst e;exact .inl ⟨⟨xs,q,Nat.le_refl _⟩,hd H p⟩
theorem compF_enum{a:Addr}{xs:List V}{n:Nat}{g:TG}(h:∀D,H D=none→∃Pv:Nat→Hp→Prop,Pv 0 (upd H D (.lst []))∧(∀i H2,i≤xs.length→Pv i H2→SqL K H2 a xs) ∧
  (∀i x H2 T,xs[i]? = some x→Pv i H2→H2 T=none→EltF g n tc te σ (.ref T) (upd H2 T (.tup [.int i,x])) D xs.length i Pv)∧∀H2,Pv xs.length H2→Q (.ref D) H2):CompF (Ite K a) n g tc te σ Q H:=by
 intro D nD;obtain ⟨Pv,h0,hl,hs,hd⟩:=h D nD;refine ⟨fun i m H=>m=xs.length - i∧i≤xs.length∧Pv i H,⟨_,rfl,Nat.zero_le _,h0⟩,?_⟩;rintro i m H ⟨rfl,hi,p⟩;have q:=hl i H hi p;by_cases hlt:i < xs.length
 ·refine .inr ⟨⟨xs,q,hlt⟩,fun v H' y us hu=>?_⟩;obtain ⟨T,x,nT,rfl,rfl,z⟩:=y;exact hs i x H T (z xs q) p nT us hu
 ·have e:i=xs.length:=by omega
  subst e;exact .inl ⟨⟨xs,q,Nat.le_refl _⟩,hd H p⟩
end
theorem vals_erase:∀{xs:List V} {us:List Value} (j:Nat),Vals xs us→Vals (xs.eraseIdx j) (us.eraseIdx j)
 | _,_,_,.nil=>.nil
 | _,_,0,.cons _ r=>r
 | _,_,j+1,.cons h r=>.cons h (vals_erase j r)
theorem rem_loop(l:Addr)(items:Array Value)(n:Nat)(x:Value)(e:Value→Bool)(j:Nat)(hj:j < items.size)(hit:e items[j]=true)(hs1:items.size≤sizeLine)(k:Nat) :
  ∀i:Nat,j - i=k→i≤j→(∀m (hm:m < items.size),i≤m→m < j→e items[m]=false)→Meets (Builtin.«list.remove.loop» ⟨[.ref l,x,rawInt i],[]⟩)
   (fun A R s=>s.heap.get? l=some { cls:=.type "list",dict:=none,data:=.seq items n,slots:=#[] }∧(∀y,y∈items→SeqAt.EqAt A.in1 s y x (e y))∧R (.ok (.ret .none)) { s with heap:=s.heap.update l (Obj.mapSeq fun xs=>xs.eraseIdxIfInBounds j) }):=by
 induction k with
 | zero =>
  intro i hk hij hno prog w A R s h;obtain ⟨hp,g,d,tk,os⟩:=s;obtain ⟨hl,he,h⟩:=h;have hij':i=j:=by omega
  subst hij';wp_walk using AutoSeq1.wpAny_loadPart' hl;have hi:items[((i:Nat):Int).toNat]? = some items[i]:=by simp [hj]
  rw [hi];refine wpAny_bind (he _ (Array.getElem_mem hj) prog w _ _ ?_);rw [hit];have hz':(items.eraseIdxIfInBounds i).size≤sizeLine+1:=Nat.le_trans (MeetsSeq.size_erased items _) (Nat.le_succ_of_le hs1);wp_walk using (wpAny_updateSeq hl rfl (hz:=hs1) (_hz':=hz')),AutoSeq1.wpAny_loadPart' hl;simpa using h
 | succ k ih =>
  intro i hk hij hno prog w A R s h;obtain ⟨hp,g,d,tk,os⟩:=s;obtain ⟨hl,he,h⟩:=h;have hlt:i < items.size:=by omega
  wp_walk using AutoSeq1.wpAny_loadPart' hl;have hi:items[((i:Nat):Int).toNat]? = some items[i]:=by simp [hlt]
  have hc:((i:Int)+1)=((i+1:Nat):Int):=by omega
  rw [hi];refine wpAny_bind (he _ (Array.getElem_mem hlt) prog w _ _ ?_);rw [hno i hlt (Nat.le_refl _) (by omega)];wp_walk;rw [hc];exact ⟨plainId_quiet MeetsSeq.plain_remove_loop _,codeAny_builtin MeetsSeq.entry_remove_loop (by rw [Around.under_plainId MeetsSeq.plain_remove_loop _];exact ih (i+1) (by omega) (by omega) (fun m hm h1 h2=>hno m hm (by omega) h2) prog w A R _ ⟨hl,he,h⟩)⟩
def rRemove(K:Fg):V→List V→Hp→VK→Prop:=fun x ys H Q=>∃(l:Addr) (xs:List V) (y:V) (ds:List Dat) (d:Dat) (j:Nat),x = .ref l∧ys=[y]∧H l=some (.lst xs)∧RepL K H xs ds∧Rep K H y d∧(∀e∈ds,kqdOk 8 e=true)∧kqdOk 8 d=true∧ds[j]? = some d∧(∀m,m < j→ds[m]?≠some d)∧Q .non (upd H l (.lst (xs.eraseIdx j)))
open Classical in
theorem mt_remove {X:Cx} (hu:X.A.units+64 < cLine):MtR X "list.remove" (rRemove X.K):=by
 intro pins s σ H x ys v us Q I rx rv h;obtain ⟨l,xs,y,ds,d,j,rfl,rfl,hH,rxs,hd,ka,kd,e1,e2,q⟩:=h;cases rx;obtain ⟨u,rfl,ru⟩:=vals1 rv;obtain ⟨as,ra⟩:=Rep.reads I hd ru;obtain ⟨z,its,n,r,hl,e⟩:=I.lstM hH;obtain ⟨bs,rb⟩:=RepL.reads I rxs r;have hxs:PyData.canLayAll0 (kqdPs ds)=true:=(PySem.W.kqd_layL ka).1;have hmap:=SeqAt.readsAll_map (kqdPs ds) _ _ hxs rb
 have szl:its.length=ds.length:=by
  have:=congrArg List.length hmap
  rw [List.length_map,kqdPs_len] at this;exact this
 have lj:j < ds.length:=(List.getElem?_eq_some_iff.mp e1).1
 have at_:∀m (hm:m < its.toArray.size),PyData.eqv (SeqAt.readOf s.heap its.toArray[m]) (kqdP d)=decide (ds[m]? = some d):=by
  intro m hm;have hm':m < its.length:=by simpa using hm
  have g:(its.map (SeqAt.readOf s.heap))[m]? = some (SeqAt.readOf s.heap its.toArray[m]):=by rw [List.getElem?_map,List.getElem?_eq_getElem hm'];rfl
  rw [hmap,kqdPs_get] at g;obtain ⟨e0,ge,gp⟩:=Option.map_eq_some_iff.mp g;rw [← gp,eqv_dec2 (ka e0 (List.mem_of_getElem? ge)) kd,ge];by_cases z:d=e0
  ·simp [z]
  ·have:e0≠d:=fun w=>z w.symm
   simp [z,this]
 have hs1:its.toArray.size≤sizeLine:=by rw [List.size_toArray];omega
 have M:Meets (Builtin.«list.remove» ⟨[.ref l,u],[]⟩) (fun A R s'=>s'.heap.get? l=some { cls:=.type "list",dict:=none,data:=.seq its.toArray n,slots:=#[] }∧(∀y,y∈its.toArray→SeqAt.EqAt A.in1 s' y u (PyData.eqv (SeqAt.readOf s.heap y) (kqdP d)))∧R (.ok (.ret .none)) { s' with heap:=s'.heap.update l (Obj.mapSeq fun xs=>xs.eraseIdxIfInBounds j) }):=by
  intro prog w A R s' h;obtain ⟨hp,g,d',tk,os⟩:=s';obtain ⟨hl',he,h⟩:=h;wp_walk using AutoSeq1.wpAny_loadPart' hl';exact ⟨plainId_quiet MeetsSeq.plain_remove_loop _,codeAny_builtin MeetsSeq.entry_remove_loop (by rw [Around.under_plainId MeetsSeq.plain_remove_loop _];exact rem_loop l its.toArray n u (fun y=>PyData.eqv (SeqAt.readOf s.heap y) (kqdP d)) j (by simp;omega) (by rw [at_ j (by simp;omega),e1];simp) hs1 _ 0 rfl (Nat.zero_le _) (fun m hm _ h2=>by rw [at_ m hm];exact decide_eq_false (e2 m h2)) prog w A R _ ⟨hl',he,h⟩)⟩
 refine call_meets F.slot_list_remove ⟨_,e,rfl⟩ F.entry_list_remove (F.args_list_remove_2 _ _) M ⟨e,SeqAt.items_eqAt (by simpa using rb) ra hxs (PySem.W.kqd_lay 8 d kd).1 ?_,?_⟩
 ·have l:=(PySem.W.kqd_lay 8 d kd).2
  have:=Nat.min_le_right (PyData.depthAll (kqdPs ds)) (kqdP d).depth
  omega
 ·refine ⟨.non,_,I.lset (its':=its.eraseIdx j) hH e (by simp) (vals_erase j r) ?_,rfl,q⟩
  have:=List.length_eraseIdx_le its j
  have e3:=(vals_erase j r).length;have e4:=r.length;omega
theorem vals_items:∀{ns:List Int} {us:List Value},Vals (ns.map V.int) us→∃l:List (Int×Tok),us=l.map (fun p=>Value.int p.1 p.2)∧l.map (·.1)=ns
 | [],_,.nil=>⟨[],rfl,rfl⟩
 | n :: ns,_,.cons r rr=>by
  obtain ⟨t,rfl⟩:=r;obtain ⟨l,e1,e2⟩:=vals_items rr;exact ⟨(n,t) :: l,by rw [e1];rfl,by rw [← e2];rfl⟩
def rMaxL(K:Fg):List V→Hp→VK→Prop:=fun xs H Q=>∃(a:Addr) (ns:List Int),xs=[.ref a]∧SqL K H a (ns.map V.int)∧ns≠[]∧∀m,m∈ns→(∀x∈ns,x≤m)→Q (.int m) H
def rSumL(K:Fg):List V→Hp→VK→Prop:=fun xs H Q=>∃(a:Addr) (ns:List Int),xs=[.ref a]∧SqL K H a (ns.map V.int)∧Q (.int ns.sum) H
section
variable{X:Cx}
theorem call_maxL (hc:X.calm=true):CallR X (.builtin "max") (rMaxL X.K):=by
 intro pins s σ H xs us Q I r h;obtain ⟨a,ns,rfl,q1,ne,q⟩:=h;obtain ⟨u,rfl,ru⟩:=vals1 r;cases ru;obtain ⟨its,rv,p,_⟩:=I.list q1;obtain ⟨l,e1,e2⟩:=vals_items rv
 have hl:s.heap.IsList a (intItems l.toArray):=by
  have:=p.isList
  rw [e1] at this;simpa [intItems] using this
 have ln:l.length=ns.length:=by rw [← e2,List.length_map]
 have pos:=List.length_pos_iff.mpr ne;refine max_intList (I.ok.hd hc) hl (by simp;omega) fun v h' tk hv hk=>?_
 obtain ⟨t,rfl⟩:=intItems_at hv;obtain ⟨h1,h2⟩:=argBest_gt (numAt l.toArray) (l.toArray.size - 1);have el:l.toArray.toList.map (·.1)=ns:=by simpa using e2
 refine ⟨.int _,H,I.kept (t':=tk) hk,⟨_,rfl⟩,q _ ?_ fun x hx=>?_⟩
 ·rw [numAt_eq,el];exact getD_mem (by have h3:l.toArray.size=l.length:=List.size_toArray ..;omega)
 ·obtain ⟨j,hj,rfl⟩:=mem_getD hx;rw [← el,← numAt_eq];exact h2 j (by have h3:l.toArray.size=l.length:=List.size_toArray ..;omega)
theorem call_sumL (hc:X.calm=true):CallR X (.builtin "sum") (rSumL X.K):=by
 intro pins s σ H xs us Q I r h;obtain ⟨a,ns,rfl,q1,q⟩:=h;obtain ⟨u,rfl,ru⟩:=vals1 r;cases ru;obtain ⟨its,rv,p,_⟩:=I.list q1;obtain ⟨l,e1,e2⟩:=vals_items rv
 have hl:s.heap.IsList a (intItems l.toArray):=by
  have:=p.isList
  rw [e1] at this;simpa [intItems] using this
 refine sum_intListG (I.ok.hd hc) hl fun h' tk t' hk=>⟨.int _,H,I.kept (t':=tk) hk,⟨_,rfl⟩,?_⟩
 rw [preSum_eq,List.take_of_length_le (by simp)];have el:l.toArray.toList.map (·.1)=ns:=by simpa using e2
 rw [el];exact q
theorem bb_max:bootBuiltins "max" = some (.builtin "max"):=by decide +kernel
theorem bb_sum:bootBuiltins "sum" = some (.builtin "sum"):=by decide +kernel
end
end L2
namespace L2
open PySem PySem.Spec PyProof.Rows
theorem cf_app:∀(names:List (Str×NameKind)) (n:Nat) (a b:List (Str×Addr)),cellsFrom n names (a++b)=cellsFrom n names a++b
 | [],_,_,_=>rfl
 | (m,k) :: r,n,a,b=>by
  unfold cellsFrom;split
  ·exact cf_app r (n+1) ((m,n) :: a) b
  ·exact cf_app r n a b
theorem cf_mem:∀(names:List (Str×NameKind)) (n:Nat) (a:List (Str×Addr)) (y:Str) (c:Addr),(y,c)∈cellsFrom n names a→(y,c)∈a∨(y,NameKind.cell)∈names
 | [],_,_,_,_,h=>.inl h
 | (m,k) :: r,n,a,y,c,h=>by
  unfold cellsFrom at h;split at h
  ·rename_i hk;rcases cf_mem r _ _ y c h with z | z
   ·rcases List.mem_cons.mp z with e | z
    ·cases e;rw [beq_iff_eq.mp hk];exact .inr List.mem_cons_self
    ·exact .inl z
   ·exact .inr (List.mem_cons_of_mem _ z)
  ·exact (cf_mem r _ _ y c h).imp id fun z=>List.mem_cons_of_mem _ z
theorem cf_old:∀(names:List (Str×NameKind)) (n:Nat) (a:List (Str×Addr)) (p:Str×Addr),p∈a→p∈cellsFrom n names a
 | [],_,_,_,h=>h
 | (m,k) :: r,n,a,p,h=>by
  unfold cellsFrom;split
  ·exact cf_old r _ _ p (List.mem_cons_of_mem _ h)
  ·exact cf_old r _ _ p h
theorem cf_has:∀(names:List (Str×NameKind)) (n:Nat) (a:List (Str×Addr)) (y:Str),(y,NameKind.cell)∈names→∃c,(y,c)∈cellsFrom n names a
 | (m,k) :: r,n,a,y,h=>by
  unfold cellsFrom;rcases List.mem_cons.mp h with e | h
  ·cases e;exact ⟨n,cf_old r _ _ _ List.mem_cons_self⟩
  ·split
   ·exact cf_has r _ _ y h
   ·exact cf_has r _ _ y h
def relC(scope sc:Scope):Scope:={ scope with names:=relS scope sc }
structure CompSK (sc:Scope) (N M ys:List Str) (scope:Scope):Prop where
 kind:scope.kind = .function
 names:∀y∈scope.names,y.2 = .local→scope.names.lookup y.1=some .local
 cnames:∀y∈scope.names,y.2 = .cell→scope.names.lookup y.1=some .cell
 nd:(ys++M).Nodup
 len:M.length=N.length
 same:∀p∈M.zip N,p.1=p.2∨(relS scope sc).lookup p.1=none
 apart:∀y∈M,(relS scope sc).lookup y≠some .local∧scope.names.lookup y≠some .cell
 free:∀n∈scope.names,n.2 = .free→sc.names.lookup n.1=some .cell
def compCxK(X:Cx)(ys M:List Str)(scope:Scope)(C:Addr)(s:Shared)(H:Hp)(fp:List Addr)(pins:List (Addr×Obj)):Cx :=
 { compCx X ys M scope (cellsFrom (C+1) scope.names []++clOf scope X.env.cells) C s H fp pins with fn:=fun y=>scope.names.lookup y == some .cell }
section
variable{X:Cx}{ys M:List Str}{scope:Scope}{C:Addr}{s:Shared}{H:Hp}{fp:List Addr}{pins:List (Addr×Obj)}{σ : St}
theorem sk_clos(c:CompSK X.env.scope X.N M ys scope)(ok:X.Ok):closureFor scope X.env=pure (clOf scope X.env.cells):=by
 have hfc:∀n∈scope.names,n.2 = .free→∃a,X.env.cells.lookup n.1=some a:=fun n hn hk=>ok.has n.1 (.inl (c.free n hn hk))
 have z:=closure_eq (env:=X.env) scope.names [] hfc;rw [List.append_nil] at z;exact (congrArg (fun m:Sem (List (Str×Addr))=>m >>= fun cs=>pure cs) z).trans rfl
theorem sk_cells(c:CompSK X.env.scope X.N M ys scope)(ok:X.Ok){y:Str}{a:Addr}(h:(clOf scope X.env.cells).lookup y=some a):X.env.cells.lookup y=some a∧X.env.scope.names.lookup y=some .cell:=by
 obtain ⟨h1,n,hn,e⟩:=lookup_const (g:=fun z=>(X.env.cells.lookup z).getD 0) (fun n hn=>by obtain ⟨m,_,_,rfl⟩:=clOf_mem.mp hn;rfl) h;obtain ⟨m,hm,hk,e2⟩:=clOf_mem.mp hn;have ey:m.1=y:=by rw [← e,e2]
 obtain ⟨a',ha'⟩:=ok.has m.1 (.inl (c.free m hm hk));rw [ey] at ha';refine ⟨?_,by rw [← ey];exact c.free m hm hk⟩;rw [h1,ha'];rfl
theorem rel_kind{sc:Scope}{y:Str}:∀{names:List (Str×NameKind)} {k:NameKind},(names.map fun (n,k)=>if (k == .free && sc.kind == .function && sc.names.lookup n == some .cell) then (n,NameKind.cell) else (n,k)).lookup y=some k→k = .cell∨k = .free→∃m∈names,m.1=y∧(m.2 = .free∨m.2 = .cell)
 | [],_,h,_=>by simp at h
 | (n,k0) :: r,k,h,hk=>by
  by_cases e:y=n
  ·subst e;refine ⟨_,List.mem_cons_self,rfl,?_⟩;by_cases hf:k0 = .free
   ·exact .inl hf
   ·have hb:(k0 == NameKind.free)=false:=beq_eq_false_iff_ne.mpr hf;simp only [List.map_cons,hb,Bool.false_and,Bool.false_eq_true,if_false,List.lookup_cons,beq_self_eq_true] at h
    have:=Option.some.inj h
    show k0 = .free∨k0 = .cell;rw [this];exact hk.symm
  ·have e':(y == n)=false:=beq_eq_false_iff_ne.mpr e
   have h':(r.map fun (n,k)=>if (k == .free && sc.kind == .function && sc.names.lookup n == some .cell) then (n,NameKind.cell) else (n,k)).lookup y=some k:=by
    by_cases hb:(k0 == .free && sc.kind == .function && sc.names.lookup n == some .cell)=true
    ·simpa only [List.map_cons,hb,if_true,List.lookup_cons,e'] using h
    ·simpa only [List.map_cons,hb,Bool.false_eq_true,if_false,List.lookup_cons,e'] using h
   obtain ⟨m,hm,q⟩:=rel_kind h' hk;exact ⟨m,List.mem_cons_of_mem _ hm,q⟩
theorem inv_compK {tk : Nat} {o : Obj} (I : Inv X pins σ H s) (c : CompSK X.env.scope X.N M ys scope) (eC : C = s.heap.objs.size) (hns : (pushCells (s.heap.push o) scope.names).Ns C (fun _ => none))
    (fk : ∀ b ∈ fp, FpOk X pins H b ∧ ∃ o, s.heap.get? b = some o) : Inv (compCxK X ys M scope C s H fp pins) [] (List.replicate ys.length none ++ σ) H { s with heap := pushCells (s.heap.push o) scope.names, toks := tk } := by
  have keep : ∀ b u, s.heap.get? b = some u → (pushCells (s.heap.push o) scope.names).get? b = some u := fun b u e => pushCells_keeps _ _ b u (Heap.get?_push_of_some _ e)
  have neC : ∀ b u, s.heap.get? b = some u → b ≠ C := fun b u e => by rw [eC]; exact Nat.ne_of_lt (Heap.lt_size e)
  have out : ∀ {b : Addr}, b ≠ X.env.locals → b ∉ X.fs → b ∉ frs X.stack := fun h1 h2 z => (List.mem_cons.mp (I.stkSub _ z)).elim h1 h2
  have ok := cellsFrom_ok scope.names (s.heap.push o) (s.heap.objs.size + 1) [] ⟨fun _ _ hm => (nomatch hm), List.Pairwise.nil⟩ (by rw [Heap.size_push]; exact Nat.le_refl _);rw [Heap.size_push, ← eC] at ok
  have split : ∀ y a, (cellsFrom (C + 1) scope.names [] ++ clOf scope X.env.cells).lookup y = some a → (y, a) ∈ cellsFrom (C + 1) scope.names [] ∨ ((clOf scope X.env.cells).lookup y = some a ∧ (cellsFrom (C + 1) scope.names []).lookup y = none) := by
    intro y a h;rw [List.lookup_append] at h;cases e : (cellsFrom (C + 1) scope.names []).lookup y with
    | none => rw [e] at h; exact .inr ⟨by simpa using h, rfl⟩
    | some a' => rw [e] at h; have : a' = a := by simpa using h
                 rw [this] at e; exact .inl (mem_of_lookup e)
  have lt : ∀ y a, (clOf scope X.env.cells).lookup y = some a → a < C := fun y a h => by
    obtain ⟨v, u, hu, _⟩ := I.cell y a (sk_cells c I.ok h).1;rw [eC];exact Heap.lt_size hu
  have hasK : ∀ y, (y, NameKind.cell) ∈ scope.names → ∃ a, (cellsFrom (C + 1) scope.names [] ++ clOf scope X.env.cells).lookup y = some a ∧ (y, a) ∈ cellsFrom (C + 1) scope.names [] := by
    intro y hy;obtain ⟨a0, ha0⟩ := cf_has scope.names (C + 1) [] y hy;obtain ⟨a, ha⟩ := lookup_mem (l := cellsFrom (C + 1) scope.names []) ⟨_, ha0, rfl⟩;exact ⟨a, by rw [List.lookup_append, ha]; rfl, mem_of_lookup ha⟩
  refine ⟨⟨I.ok.mod, c.kind, I.ok.glob, I.ok.blt, by rw [eC]; exact Nat.le_refl _, fun y z a h1 h2 => ?_, fun y h => ?_, fun y a hf h => ?_, I.ok.hd, I.ok.frames, .inl rfl, fun b hb => ?_, I.bs, Nat.le_trans I.ok.bsz I.sz, fun b u e hb => ?_, fun b hb => ?_, I.stack, I.stkFree⟩,
    rfl, I.bare, Un.kept keep, ⟨_, hns, fun i y v e1 e2 e3 => ?_⟩, fun y a e => ?_, I.hok.fresh (by rw [eC]; exact Nat.le_refl _), fun y a e => ?_, fun p hp => ?_, I.hok.kept keep, ?_⟩
  · rcases split y a h1 with m1 | ⟨m1, _⟩ <;> rcases split z a h2 with m2 | ⟨m2, _⟩
    · exact name_of_addr ok.apart m1 m2
    · exact (Nat.lt_irrefl _ (Nat.lt_of_lt_of_le (Nat.lt_succ_of_lt (lt z a m2)) (ok.empty y a m1).2)).elim
    · exact (Nat.lt_irrefl _ (Nat.lt_of_lt_of_le (Nat.lt_succ_of_lt (lt y a m1)) (ok.empty z a m2).2)).elim
    · exact I.ok.inj y z a (sk_cells c I.ok m1).1 (sk_cells c I.ok m2).1
  · have hm : ∃ m ∈ scope.names, m.1 = y ∧ (m.2 = .free ∨ m.2 = .cell) := by
      rcases h with h | h
      · exact rel_kind (sc := X.env.scope) h (.inl rfl)
      · exact rel_kind (sc := X.env.scope) h (.inr rfl)
    obtain ⟨m, hm, e, hk⟩ := hm;rcases hk with hk | hk
    · refine lookup_mem ⟨_, List.mem_append_right _ (clOf_mem.mpr ⟨m, hm, hk, rfl⟩), e⟩
    · obtain ⟨a, ha, _⟩ := hasK y (by rw [← e, ← hk]; exact hm)
      exact ⟨a, ha⟩
  · have hy : (y, NameKind.cell) ∈ scope.names := mem_of_lookup (beq_iff_eq.mp hf)
    obtain ⟨a', ha', m'⟩ := hasK y hy;have ea : a' = a := Option.some.inj (ha'.symm.trans h);have l1 := (ok.empty y a' m').2;rw [ea] at l1;show s.heap.objs.size ≤ a;rw [← eC];exact Nat.le_of_succ_le l1
  · obtain ⟨⟨_, _, _, _, f5, _⟩, u, e⟩ := fk b hb
    refine ⟨neC b u e, fun y a q => ?_⟩;rcases split y a q with m | ⟨m, _⟩
    · have h2 := Heap.lt_size e
      rw [← eC] at h2;exact fun z => Nat.lt_irrefl _ (Nat.lt_of_lt_of_le (Nat.lt_succ_of_lt h2) (z ▸ (ok.empty y a m).2))
    · exact f5 y a (sk_cells c I.ok m).1
  · obtain ⟨⟨_, _, _, f4, _, _⟩, _⟩ := fk b hb
    rcases f4 with z | z
    · exact I.ok.noex b u e z
    · exact absurd (Nat.lt_of_lt_of_le (Heap.lt_size (I.ok.bs b u e).1) z) (Nat.lt_irrefl _)
  · obtain ⟨⟨_, f2, f3, _, _, _⟩, _⟩ := fk b hb
    exact out f2 f3
  · by_cases lt : i < ys.length
    · have e2' : (List.replicate ys.length (none : Option V) ++ σ)[i]? = some (some v) := e2
      rw [List.getElem?_append_left (by simpa using lt), List.getElem?_replicate_of_lt lt] at e2';cases e2'
    · have e0 : M[i - ys.length]? = some y := by
        have e1' : (ys ++ M)[i]? = some y := e1
        rwa [List.getElem?_append_right (by omega)] at e1'
      have e2' : σ[i - ys.length]? = some (some v) := by
        have e2' : (List.replicate ys.length (none : Option V) ++ σ)[i]? = some (some v) := e2
        rwa [List.getElem?_append_right (by simpa using lt), List.length_replicate] at e2'
      have hy : y ∈ M := List.mem_of_getElem? e0
      have vis0 : (relabel scope X.env).names.lookup y ≠ none := by
        rcases e3 with z | z | z <;> (intro q; have q' := (show (relabel scope X.env).names.lookup y = some _ from z).symm.trans q; cases q')
      have e1' : X.N[i - ys.length]? = some y := by
        have hlt : i - ys.length < X.N.length := by rw [← c.len]; exact (List.getElem?_eq_some_iff.mp e0).1
        have hz : (y, X.N[i - ys.length]) ∈ M.zip X.N := by
          refine List.mem_of_getElem? (i := i - ys.length) ?_;rw [List.getElem?_zip_eq_some];exact ⟨e0, List.getElem?_eq_getElem hlt⟩
        rcases c.same _ hz with q | q
        · rw [List.getElem?_eq_getElem hlt]
          exact congrArg some q.symm
        · exact absurd q vis0
      have e3' : (relabel scope X.env).names.lookup y = some .cell ∨ (relabel scope X.env).names.lookup y = some .free := by
        rcases e3 with z | z | z
        · exact absurd z (c.apart y hy).1
        · exact .inl z
        · exact .inr z
      have hm : ∃ m ∈ scope.names, m.1 = y ∧ (m.2 = .free ∨ m.2 = .cell) := by
        rcases e3' with h | h
        · exact rel_kind (sc := X.env.scope) h (.inl rfl)
        · exact rel_kind (sc := X.env.scope) h (.inr rfl)
      obtain ⟨m, hm, em, hk⟩ := hm;have hfr : m.2 = .free := hk.resolve_right fun z => (c.apart y hy).2 (by rw [← em]; exact c.cnames m hm z)
      obtain ⟨a, ea⟩ := lookup_mem (l := clOf scope X.env.cells) ⟨_, clOf_mem.mpr ⟨m, hm, hfr, rfl⟩, em⟩
      have ea' : (cellsFrom (C + 1) scope.names [] ++ clOf scope X.env.cells).lookup y = some a := by
        have : (cellsFrom (C + 1) scope.names []).lookup y = none := by
          cases e : (cellsFrom (C + 1) scope.names []).lookup y with
          | none => rfl
          | some a' =>
            rcases cf_mem _ _ _ _ _ (mem_of_lookup e) with z | z
            · cases z
            · exact absurd (c.cnames _ z rfl) (c.apart y hy).2
        rw [List.lookup_append, this, ea]; rfl
      obtain ⟨q1, q2⟩ := sk_cells c I.ok ea;obtain ⟨m, _, hl⟩ := I.loc;have vis : Vis X.env.scope y := .inr (.inl q2);obtain ⟨u, ru, lu⟩ := hl (i - ys.length) y v e1' e2' vis;refine ⟨u, ru, .inr ⟨e3', a, ea', ?_⟩⟩;rcases lu with ⟨z, _⟩ | ⟨_, a', ea', ⟨oc, hoc, hd⟩⟩
      · have z' : X.env.scope.names.lookup y = some .local := z
        rw [z'] at q2; cases q2
      · rw [q1] at ea'
        cases ea';exact ⟨oc, keep _ _ hoc, hd⟩
  · rcases split y a e with m | ⟨m, _⟩
    · exact ⟨none, (ok.empty y a m).1⟩
    · obtain ⟨v, oc, hoc, hd⟩ := I.cell y a (sk_cells c I.ok m).1
      exact ⟨v, oc, keep _ _ hoc, hd⟩
  · rcases split y a e with m | ⟨m, _⟩
    · exact I.hok.fresh (by rw [← eC]; exact Nat.le_of_succ_le (ok.empty y a m).2)
    · exact I.freeC y a (sk_cells c I.ok m).1
  · have hp' : p ∈ X.pn ++ pins := by simpa [compCxK, compCx] using hp
    obtain ⟨q1, q2, q3, q4, q5⟩ := I.pin p hp';exact ⟨keep _ _ q1, q2, neC _ _ q1, out q3 q4, q5⟩
  · show (List.replicate ys.length none ++ σ).length = (ys ++ M).length
    rw [List.length_append, List.length_append, List.length_replicate, I.len, c.len]
theorem inv_uncompK{pins':List (Addr×Obj)}{σ':St}{H':Hp}{s1:Shared}(I:Inv X pins σ H s)(fk:∀b∈fp,FpOk X pins H b∧∃o,s.heap.get? b=some o)(I':Inv (compCxK X ys M scope C s H fp pins) pins' σ' H' s1):Inv X pins σ H' s1 :=
 I.call' (ch:=fp) I'.os I'.base I'.hok I'.bare fun b hb=>let ⟨⟨_,f2,_,f4,f5,f6⟩,_⟩:=fk b hb;⟨f4,f2,f5,f6⟩
theorem wp_compEnv{M:Model}{A:Around}{E:Value→Shared→Prop}{g:Addr}{cl:List (Str×Addr)}{q:Str}{env:Env}{Q:Env→Shared→Prop}
  (h:Q (newEnv scope s.heap.objs.size g (cellsFrom (s.heap.objs.size+1) scope.names []++cl) q none .none (some env) builtinsNs) { s with heap:=pushCells (s.heap.push { cls:=.type "dict",data:=.dict #[] }) scope.names }) :
  wpAny M A (newFunctionEnv scope g cl [] q none .none (some env)) Q E s:=by
 simp only [newFunctionEnv,Option.isSome_some,if_true];refine wpAny_bind (wpAny_alloc ?_);refine wpAny_bind (wpAny_layCells _ (fun name kind cells=>by cases hkc:kind == NameKind.cell <;> simp [hkc]) _ _ _ _ ?_);rw [show ({ s with heap:=s.heap.push { cls:=.type "dict",data:=.dict #[] } }:Shared).heap.objs.size=s.heap.objs.size+1 from Heap.size_push ..];rw [List.forIn_nil];refine wpAny_bind (wpAny_pure (wpAny_pure ?_));rw [show cellsFrom (s.heap.objs.size+1) scope.names cl=cellsFrom (s.heap.objs.size+1) scope.names []++cl from cf_app scope.names _ [] cl];exact h
theorem comp_coreK{elt iter tg:Expr}{pos:Pos}{g:TG}{te:TE}{tn:Nat→Heap→Prop}{it:Addr}{J:It}{E:Value→Shared→Prop}{QQ:Addr→Hp→Prop}{RR:Value→Addr→Result→Shared→Prop}(I:Inv X pins σ H s)(c:CompSK X.env.scope X.N M ys scope)(hc:X.calm=true)
  (hg:∀C s₀ H₀ fp pins,PG (compCxK X ys M scope C s₀ H₀ fp pins) tg g) (he:∀C s₀ H₀ fp pins,PE (compCxK X ys M scope C s₀ H₀ fp pins) elt te) (T:Turn X.prog X.w X.K tg J fp it tn) (st:tn 0 s.heap) (fk:∀b∈fp,FpOk X pins H b)
  (h:∀D,H D=none→∃W:Nat→Nat→Hp→Prop,(∃m,W 0 m (upd H D (.lst [])))∧∀i m H,W i m H →
   (J.stop i H∧QQ D H)∨(J.go i H∧∀v H',J.yld i H v H'→∀us:St,us.length=ys.length→g v (us ++ σ) H' fun σ2 H2=>(∃us':St,us'.length=ys.length∧σ2=us' ++ σ)∧te σ2 H2 fun y H3=>∃xs,H3 D=some (.lst xs)∧xs.length < sizeLine∧∃m',m' < m∧W (i+1) m' (upd H3 D (.lst (xs++[y])))))
  (fin:∀D C H' s',s.heap.objs.size≤C→s'.heap.get? C≠none→(∃m,s'.heap.Ns C m)→H' C=none→Inv X pins σ H' s'→QQ D H'→RR (.ref D) C (.ok .next) s') :
  wpAny (model X.prog X.w) X.A (newList []) (fun acc s₃=>wpAny (model X.prog X.w) X.A (newFunctionEnv scope X.env.globals (clOf scope X.env.cells) [] X.env.qual none .none (some X.env)) (fun cenv s₄ =>
   codeAny (model X.prog X.w) X.A (.compStart (.ListComp elt [⟨tg,iter,[],0⟩] scope pos) 0 (.ref it) acc { cenv with scope:=relabel scope X.env }) (RR acc cenv.locals) s₄) E s₃) E s:=by
 refine wpAny_newObj_type (wp_compEnv ?_);have hns:=(Heap.Ns.new (s.heap.push { cls:=.type "list",dict:=none,data:=.seq ([]:List Value).toArray }) (.type "dict")).keeps (pushCells_keeps scope.names _);have hf:H s.heap.objs.size=none:=I.hok.fresh (Nat.le_refl _)
 have I3:Inv X pins σ (upd H s.heap.objs.size (.lst [])) { s with heap:=s.heap.push { cls:=.type "list",dict:=none,data:=.seq ([]:List Value).toArray } } :=
  I.laid (t':=s.toks) (fun b u e=>Heap.get?_push_of_some _ e) (Nat.le_refl _) ⟨by decide,[],_,.nil,Heap.get?_push_size _ rfl⟩
 have eD:∀b u,s.heap.get? b=some u→b≠s.heap.objs.size:=fun b u e=>Nat.ne_of_lt (Heap.lt_size e)
 have fk3:∀b∈fp,FpOk X pins (upd H s.heap.objs.size (.lst [])) b∧∃o,(s.heap.push { cls:=.type "list",dict:=none,data:=.seq ([]:List Value).toArray }).get? b=some o:=fun b hb=>by
  obtain ⟨o,eo,_⟩:=T.obj 0 _ st b hb;obtain ⟨f1,f2⟩:=fk b hb;exact ⟨⟨by rw [upd_ne (eD b o eo)];exact f1,f2⟩,o,Heap.get?_push_of_some _ eo⟩
 have I4:=inv_compK (tk:=s.toks) I3 c rfl hns fk3;obtain ⟨W,⟨m0,w0⟩,turn⟩:=h _ hf
 have st4:tn 0 (pushCells ((s.heap.push { cls:=.type "list",dict:=none,data:=.seq ([]:List Value).toArray }).push { cls:=.type "dict",data:=.dict #[] }) scope.names):=T.keep 0 _ _ st fun b hb o e=>by
  have e2:=Heap.get?_push_of_some { cls:=.type "list",dict:=none,data:=.seq ([]:List Value).toArray } e;exact pushCells_keeps _ _ b o (Heap.get?_push_of_some _ e2)
 have stat:∀{H':Hp},(∀b∈fp,H' b=none)→∀b∈fp,FpOk (compCxK X ys M scope (s.heap.push { cls:=.type "list",dict:=none,data:=.seq ([]:List Value).toArray }).objs.size { s with heap:=s.heap.push { cls:=.type "list",dict:=none,data:=.seq ([]:List Value).toArray } } (upd H s.heap.objs.size (.lst [])) fp pins) [] H' b :=
  fun hn b hb=>⟨hn b hb,(I4.ok.exf b hb).1,I4.ok.exfs b hb,.inl hb,(I4.ok.exf b hb).2,fun p hp=>(fk3 b hb).1.2.2.2.2.2 p (by simpa [compCxK,compCx] using hp)⟩
 have loop:∀s4:Shared,s4 = { s with heap:=pushCells ((s.heap.push { cls:=.type "list",dict:=none,data:=.seq ([]:List Value).toArray }).push { cls:=.type "dict",data:=.dict #[] }) scope.names } →
   codeAny (model X.prog X.w) X.A (.compLoop (.ListComp elt [⟨tg,iter,[],0⟩] scope pos) 0 (.ref it) (.ref s.heap.objs.size) (compEnvC scope (cellsFrom ((s.heap.push { cls:=.type "list",dict:=none,data:=.seq ([]:List Value).toArray }).objs.size+1) scope.names []++clOf scope X.env.cells) (s.heap.push { cls:=.type "list",dict:=none,data:=.seq ([]:List Value).toArray }).objs.size X.env))
    (RR (.ref s.heap.objs.size) (s.heap.push { cls:=.type "list",dict:=none,data:=.seq ([]:List Value).toArray }).objs.size) s4:=by
  rintro s4 rfl
  refine comp_loop (fun n s'=>∃(i:Nat) (us:St) (H':Hp),us.length=ys.length∧Inv (compCxK X ys M scope (s.heap.push { cls:=.type "list",dict:=none,data:=.seq ([]:List Value).toArray }).objs.size { s with heap:=s.heap.push { cls:=.type "list",dict:=none,data:=.seq ([]:List Value).toArray } } (upd H s.heap.objs.size (.lst [])) fp pins) [] (us ++ σ) H' s'∧tn i s'.heap∧(∀b∈fp,H' b=none)∧W i n H')
   ?_ m0 ⟨0,_,_,List.length_replicate,I4,st4,fun b hb=>(fk3 b hb).1.1,w0⟩
  rintro n s5 ⟨i,us,H5,lu,I5,st5,fr5,w5⟩;rcases turn i n H5 w5 with ⟨stop,q⟩ | ⟨go,step⟩
  ·refine thn (T.done (compCxK X ys M scope _ _ _ _ _) rfl rfl rfl hc i [] s5 _ H5 _ I5 (stat fr5) st5 stop) fun r s6 ⟨er,I6⟩=>?_
   subst er;obtain ⟨m,hn6,_⟩:=id I6.loc;obtain ⟨o6,_,_,ho6,_⟩:=id hn6;exact fin _ _ H5 s6 (by rw [Heap.size_push];exact Nat.le_succ _) (fun z=>by have z':=ho6.symm.trans z;cases z') ⟨m,hn6⟩ I6.free (inv_uncompK I3 fk3 I6) q
  ·refine thn (T.item (compCxK X ys M scope _ _ _ _ _) rfl rfl rfl hc i [] s5 _ H5 _ I5 (stat fr5) st5 go) fun r s6 ⟨u,er,h6⟩=>?_
   subst er;refine thn h6 fun _ s7 ⟨v',H7,I7,r7,y7,st7,fr7⟩=>?_
   have I7':=I7.pinned (stat fr7) (T.obj _ _ st7);refine wpAny_mono (hg _ _ _ _ _ _ s7 _ H7 v' u _ I7' r7 (step v' H7 y7 us lu)) (fun _ s8 ⟨σ8,H8,I8,⟨us',lu',e8⟩,q8⟩=>?_) fun _ _ z=>z.elim
   refine wpAny_mono (he _ _ _ _ _ _ s8 _ H8 _ I8 q8) (fun y s9 ⟨yv,H9,I9,ry,xs,hxs,hlen,m',hm,w9⟩=>?_) fun _ _ z=>z.elim
   refine wpAny_mono (mt_append (X:=compCxK X ys M scope _ _ _ _ _) _ s9 _ H9 (.ref s.heap.objs.size) [yv] (.ref s.heap.objs.size) [y] (fun _ H10=>H10=upd H9 s.heap.objs.size (.lst (xs++[yv]))) I9 rfl (.cons ry .nil) ⟨_,xs,yv,rfl,rfl,hxs,hlen,rfl⟩) (fun _ s10 ⟨z,H10,I10,rz,q10⟩=>?_) fun _ _ z=>z.elim
   subst q10;subst e8;refine ⟨m',hm,i+1,us',_,lu',I10.unpinned (pins:=[]),T.keep _ _ _ st7 fun b hb o e=>(I10.pin (b,o) (List.mem_append_right _ (List.mem_append_right _ (mem_pinsAt hb e)))).1,fun b hb=>?_,w9⟩;obtain ⟨o,e,_⟩:=T.obj _ _ st7 b hb;exact (I10.pin (b,o) (List.mem_append_right _ (List.mem_append_right _ (mem_pinsAt hb e)))).2.1
 exact codeAny_compStart_list (loop _ rfl) (T.self _ 0 _ _ _ st4 (loop _ rfl))
theorem ps_lcK{elt iter tg:Expr}{pos py sp:Pos}{wi:TI}{g:TG}{te:TE}{i n:Nat}{y:Str}(ys M:List Str)(hN:X.N.Nodup)(hy:X.N[i]? = some y)(ly:X.env.scope.names.lookup y=some .local)(c:CompSK X.env.scope X.N M ys scope)(hc:X.calm=true)(hi:PI X tg iter wi)
  (hg:∀C s₀ H₀ fp pins,PG (compCxK X ys M scope C s₀ H₀ fp pins) tg g) (he:∀C s₀ H₀ fp pins,PE (compCxK X ys M scope C s₀ H₀ fp pins) elt te) (hn:ys.length=n:=by rfl)
  (hsw:swapsWith (.ListComp elt [⟨tg,iter,[],0⟩] scope pos) (some (.Name y py)) sp.line X.env=pure true:=by rfl) (hs:∀v,foldedSetIterable iter X.env v=pure v:=by intro _;rfl) :
  PS X (.Assign [.Name y py] (.ListComp elt [⟨tg,iter,[],0⟩] scope pos) sp) (tAsg (tCompG wi n g te) (gName i)):=by
 subst hn;intro pins s σ H D I h;rw [exec_Assign_Name_used _ _ _ _ hsw];refine wpAny_bind (wpAny_standAt (wpAny_bind ?_));show wpAny _ X.A (do let _ ← comprehension (.ListComp elt [⟨tg,iter,[],0⟩] scope pos) scope X.env _ (newList []) false (eval iter X.env) (some (assign (.Name y py) X.env))) _ _ s;refine wpAny_bind (wpAny_mono (wpAny_comprehension_free (use:=some (assign (.Name y py) X.env)) (Q:=fun _ s'=>SP X pins D .next s') rfl hs (sk_clos c I.ok) c.kind c.names (thn (hi pins s σ H _ I h) fun v s1 h1=>thn h1 fun itv s2 h2=>?_)) (fun _ s' hq=>wpAny_pure (wpAny_pure hq)) fun _ _ z=>z);obtain ⟨it,fp,tn,J,H2,rfl,I2,T,st2,fk2,h3⟩:=h2;refine comp_coreK (E:=X.xe) (QQ:=fun Da H'=>D.nx (σ.set i (some (.ref Da))) H') I2 c hc hg he T st2 fk2 h3 fun Da C H' s' hC hl ns fr I' q=>?_
 obtain ⟨m,hn⟩:=ns;refine wpAny_assign_Name (store_ok2 I' hN hy (.inl ly) (v:=.ref Da) rfl (fun s3 I3 ⟨a,hsa,ha⟩=>?_) (.inr ly))
 have nC:C≠a:=by
  rcases ha with z | z
  ·rw [z];exact (I2.fpOk hC fr).2.1
  ·exact fun w'=>(I2.fpOk hC fr).2.2.2.2.1 y a z w'.symm
 refine ⟨m,hn.sameBut hsa nC,fun h' hs'=>⟨_,H',I3.turned (t':=s3.toks) (fun b o hb e=>(hs'.2 b hb).trans e) fr (I2.fpOk hC fr).2.1 (I2.fpOk hC fr).2.2.2.1 (I2.fpOk hC fr).2.2.2.2.1 (I2.fpOk hC fr).2.2.2.2.2,q⟩⟩
end
end L2
namespace Rk
def pt(r:List Int)(p:Nat):Int:=r.getD p 0
def dot:List Int→List (List Int)→Nat→Int
 | a :: as,r :: rs,p=>a*pt r p+dot as rs p
 | _,_,_=>0
def Free(R:List (List Int)):Prop:=∀a:List Int,a.length=R.length→(∀p,dot a R p=0)→∀c∈a,c=0
theorem dot_nil(a:List Int)(p:Nat):dot a [] p=0:=by cases a <;> rfl
theorem dot_app:∀{a:List Int} {R:List (List Int)} (b:List Int) (S:List (List Int)) (p:Nat),a.length=R.length→dot (a++b) (R++S) p=dot a R p+dot b S p
 | [],[],b,S,p,_=>by simp [dot]
 | x :: a,r :: R,b,S,p,h=>by
  have ih:=dot_app (a:=a) (R:=R) b S p (by simpa using h);show x*pt r p+dot (a++b) (R++S) p=(x*pt r p+dot a R p)+dot b S p;rw [ih,Int.add_assoc]
theorem dot_smul(k:Int):∀(a:List Int) (R:List (List Int)) (p:Nat),dot (a.map fun x=>k*x) R p=k*dot a R p
 | [],R,p=>by cases R <;> simp [dot]
 | x :: a,[],p=>by simp [dot]
 | x :: a,r :: R,p=>by
  have ih:=dot_smul k a R p;show k*x*pt r p+dot (a.map fun x=>k*x) R p=k*(x*pt r p+dot a R p);rw [ih,Int.mul_add,Int.mul_assoc]
theorem split_len{a:List Int}{R S:List (List Int)}(h:a.length=(R++S).length):∃b c,a=b++c∧b.length=R.length∧c.length=S.length:=by
 refine ⟨a.take R.length,a.drop R.length,(List.take_append_drop _ _).symm,?_,?_⟩
 ·rw [List.length_take,h,List.length_append];omega
 ·rw [List.length_drop,h,List.length_append];omega
theorem free_mid{R S:List (List Int)}{r:List Int}:Free (R++r :: S)↔Free (r :: (R++S)):=by
 constructor
 ·intro h a la ha c hc;obtain ⟨x,b,rfl⟩:∃x b,a=x :: b:=List.exists_cons_of_length_pos (by rw [la];simp);obtain ⟨b1,b2,rfl,l1,l2⟩:=split_len (a:=b) (R:=R) (S:=S) (by simpa using la)
  have h':=h (b1++x :: b2) (by simp [l1,l2]) fun p=>by
   have e:=ha p;have e':x*pt r p+dot (b1++b2) (R++S) p=0:=e;rw [dot_app _ _ _ l1] at e';rw [dot_app _ _ _ l1];show dot b1 R p+(x*pt r p+dot b2 S p)=0;omega
  refine h' c ?_;simp only [List.mem_cons,List.mem_append] at hc ⊢;rcases hc with hc | hc | hc
  ·exact .inr (.inl hc)
  ·exact .inl hc
  ·exact .inr (.inr hc)
 ·intro h a la ha c hc;obtain ⟨b1,b,rfl,l1,l⟩:=split_len (R:=R) (S:=r :: S) la;obtain ⟨x,b2,rfl⟩:∃x b2,b=x :: b2:=List.exists_cons_of_length_pos (by rw [l];simp)
  have h':=h (x :: (b1++b2)) (by simp [l1] at l ⊢;omega) fun p=>by
   have e:=ha p;rw [dot_app _ _ _ l1] at e;have e':dot b1 R p+(x*pt r p+dot b2 S p)=0:=e;show x*pt r p+dot (b1++b2) (R++S) p=0;rw [dot_app _ _ _ l1];omega
  refine h' c ?_;simp only [List.mem_cons,List.mem_append] at hc ⊢;rcases hc with hc | hc | hc
  ·exact .inr (.inl hc)
  ·exact .inl hc
  ·exact .inr (.inr hc)
def clr(by_:List Int)(p:Nat)(r:List Int):List Int:=List.zipWith (fun one two=>one*pt by_ p - pt r p*two) r by_
theorem pt_clr{by_ r:List Int}{p q:Nat}(h:r.length=by_.length):pt (clr by_ p r) q=pt r q*pt by_ p - pt r p*pt by_ q:=by
 unfold pt clr;rw [List.getD_eq_getElem?_getD,List.getElem?_zipWith,List.getD_eq_getElem?_getD (l:=r) (i:=q),List.getD_eq_getElem?_getD (l:=by_) (i:=q)];by_cases l:q < r.length
 ·rw [List.getElem?_eq_getElem l,List.getElem?_eq_getElem (by omega)];rfl
 ·rw [List.getElem?_eq_none (by omega),List.getElem?_eq_none (by omega)];simp
def Wide(w:Nat)(R:List (List Int)):Prop:=∀r∈R,r.length=w
theorem dot_clr{w:Nat}{by_:List Int}{p:Nat}(hb:by_.length=w):∀(a:List Int) (R:List (List Int)) (q:Nat),Wide w R→dot a (R.map (clr by_ p)) q=pt by_ p*dot a R q - dot a R p*pt by_ q
 | [],R,q,_=>by cases R <;> simp [dot]
 | x :: a,[],q,_=>by simp [dot]
 | x :: a,r :: R,q,h=>by
  have ih:=dot_clr (p:=p) hb a R q fun s hs=>h s (List.mem_cons_of_mem _ hs)
  have e:=pt_clr (p:=p) (q:=q) (by_:=by_) (r:=r) (by rw [h r List.mem_cons_self,hb]);show x*pt (clr by_ p r) q+dot a (R.map (clr by_ p)) q=pt by_ p*(x*pt r q+dot a R q) - (x*pt r p+dot a R p)*pt by_ q;rw [ih,e,Int.mul_sub,Int.mul_add,Int.add_mul];have e1:x*(pt r q*pt by_ p)=pt by_ p*(x*pt r q):=by rw [← Int.mul_assoc,Int.mul_comm]
  have e2:x*(pt r p*pt by_ q)=x*pt r p*pt by_ q:=by rw [Int.mul_assoc]
  omega
theorem free_clr{w:Nat}{by_:List Int}{p:Nat}{R:List (List Int)}(hb:by_.length=w)(hR:Wide w R)(n:pt by_ p≠0):Free (by_ :: R)↔Free (R.map (clr by_ p)):=by
 constructor
 ·intro h a la ha;have la':a.length=R.length:=by rw [la,List.length_map]
  have h':=h ((-dot a R p) :: a.map fun x=>pt by_ p*x) (by simp [la']) fun q=>by
   have e:=ha q;rw [dot_clr hb _ _ _ hR] at e;show -dot a R p*pt by_ q+dot (a.map fun x=>pt by_ p*x) R q=0;rw [dot_smul,Int.neg_mul];omega
  intro c hc
  have:=h' (pt by_ p*c) (List.mem_cons_of_mem _ (List.mem_map.mpr ⟨c,hc,rfl⟩))
  exact (Int.mul_eq_zero.mp this).resolve_left n
 ·intro h a la ha;obtain ⟨x,b,rfl⟩:∃x b,a=x :: b:=List.exists_cons_of_length_pos (by rw [la];simp);have lb:b.length=R.length:=by simpa using la
  have at_:∀q,x*pt by_ q+dot b R q=0:=ha
  have h':=h b (by rw [lb,List.length_map]) fun q=>by
   rw [dot_clr hb _ _ _ hR];have e1:=at_ q;have e2:=at_ p;have e3:dot b R q = -(x*pt by_ q):=by omega
   have e4:dot b R p = -(x*pt by_ p):=by omega
   rw [e3,e4,Int.mul_neg,Int.neg_mul];have e5:pt by_ p*(x*pt by_ q)=x*pt by_ p*pt by_ q:=by rw [← Int.mul_assoc,Int.mul_comm (pt by_ p) x]
   omega
  have z:dot b R p=0:=by
   have:∀(b:List Int) (R:List (List Int)),(∀c∈b,c=0)→dot b R p=0:=by
    intro b
    induction b with
    | nil=>intro R _;cases R <;> rfl
    | cons c b ih =>
     intro R hc;cases R with
     | nil=>rfl
     | cons r R =>
      show c*pt r p+dot b R p=0;rw [hc c List.mem_cons_self,ih R fun d hd=>hc d (List.mem_cons_of_mem _ hd)];omega
   exact this b R h'
  have x0:x=0:=by
   have e:=at_ p;rw [z,Int.add_zero] at e;exact (Int.mul_eq_zero.mp e).resolve_right n
  intro c hc;rcases List.mem_cons.mp hc with rfl | hc
  ·exact x0
  ·exact h' c hc
theorem clr_len{by_ r:List Int}{p:Nat}(h:r.length=by_.length):(clr by_ p r).length=by_.length:=by
 unfold clr;rw [List.length_zipWith];omega
def rmv(by_:List Int):List (List Int)→List (List Int)
 | []=>[]
 | r :: R=>if r=by_ then R else r :: rmv by_ R
def szStep(st:Nat×List (List Int))(p:Nat):Nat×List (List Int) :=
 match st.2.filter (fun r=>pt r p≠0) with
 | []=>st
 | by_ :: _=>(st.1+1,(rmv by_ st.2).map (clr by_ p))
def size(w:Nat)(R:List (List Int)):Nat:=((List.range w).foldl szStep (0,R)).1
theorem rmv_split{by_:List Int}:∀{R:List (List Int)},by_∈R→∃A B,R=A++by_ :: B∧rmv by_ R=A++B
 | r :: R,m=>by
  unfold rmv;by_cases e:r=by_
  ·rw [if_pos e];exact ⟨[],R,by rw [e];rfl,rfl⟩
  ·rw [if_neg e];obtain ⟨A,B,h1,h2⟩:=rmv_split ((List.mem_cons.mp m).resolve_left fun z=>e z.symm);exact ⟨r :: A,B,by rw [h1];rfl,by rw [h2];rfl⟩
structure SzI (w n p:Nat) (fr:Prop) (st:Nat×List (List Int)):Prop where
 wide:Wide w st.2
 len:st.1+st.2.length=n
 nought:∀r∈st.2,∀q < p,pt r q=0
 free:Free st.2↔fr
theorem szI_step{w n p:Nat}{fr:Prop}{st:Nat×List (List Int)}(I:SzI w n p fr st):SzI w n (p+1) fr (szStep st p):=by
 unfold szStep;split
 ·rename_i e;refine ⟨I.wide,I.len,fun r hr q hq=>?_,I.free⟩;by_cases z:q < p
  ·exact I.nought r hr q z
  ·have eq:q=p:=by omega
   subst eq;by_cases y:pt r q=0
   ·exact y
   ·have:r∈st.2.filter (fun r=>pt r q≠0):=List.mem_filter.mpr ⟨hr,by simpa using y⟩
    rw [e] at this;cases this
 ·rename_i by_ rest e;have mb:by_∈st.2.filter (fun r=>pt r p≠0):=by rw [e];exact List.mem_cons_self
  obtain ⟨mb1,mb2⟩:=List.mem_filter.mp mb;have nb:pt by_ p≠0:=by simpa using mb2
  obtain ⟨A,B,h1,h2⟩:=rmv_split mb1;have hb:=I.wide by_ mb1
  have wAB:Wide w (A++B):=fun r hr=>I.wide r (by
   rw [h1]
   rcases List.mem_append.mp hr with z | z
   ·exact List.mem_append_left _ z
   ·exact List.mem_append_right _ (List.mem_cons_of_mem _ z))
  refine ⟨fun r hr=>?_,?_,fun r hr q hq=>?_,?_⟩
  ·obtain ⟨s,hs,rfl⟩:=List.mem_map.mp hr;rw [h2] at hs;rw [clr_len (by rw [wAB s hs,hb]),hb]
  ·have:=I.len
   rw [h1] at this;show st.1+1+((rmv by_ st.2).map (clr by_ p)).length=n;rw [List.length_map,h2];simp only [List.length_append,List.length_cons] at this ⊢;omega
  ·obtain ⟨s,hs,rfl⟩:=List.mem_map.mp hr;rw [h2] at hs
   have ms:s∈st.2:=by
    rw [h1];rcases List.mem_append.mp hs with z | z
    ·exact List.mem_append_left _ z
    ·exact List.mem_append_right _ (List.mem_cons_of_mem _ z)
   rw [pt_clr (by rw [wAB s hs,hb])];by_cases z:q < p
   ·rw [I.nought s ms q z,I.nought by_ mb1 q z];simp
   ·have eq:q=p:=by omega
    subst eq;rw [Int.mul_comm];omega
  ·show Free ((rmv by_ st.2).map (clr by_ p))↔fr;rw [h2,← I.free,h1,free_mid];exact (free_clr hb wAB nb).symm
theorem sz_all{w n:Nat}{fr:Prop}{st:Nat×List (List Int)}(I:SzI w n 0 fr st):∀k,SzI w n k fr ((List.range k).foldl szStep st)
 | 0=>I
 | k+1=>by
  rw [List.range_succ,List.foldl_append];exact szI_step (sz_all I k)
theorem free_none{w:Nat}{R:List (List Int)}(hw:Wide w R)(z:∀r∈R,∀q < w,pt r q=0):Free R↔R=[]:=by
 have zero:∀r∈R,∀q,pt r q=0:=fun r hr q=>by
  by_cases l:q < w
  ·exact z r hr q l
  ·unfold pt;rw [List.getD_eq_getElem?_getD,List.getElem?_eq_none (by rw [hw r hr];omega)];rfl
 constructor
 ·intro h;cases R with
  | nil=>rfl
  | cons r R =>
   have all:∀(S:List (List Int)) (a:List Int),(∀r∈S,∀q,pt r q=0)→∀p,dot a S p=0:=by
    intro S
    induction S with
    | nil=>intro a _ p;exact dot_nil a p
    | cons s S ih =>
     intro a hs p;cases a with
     | nil=>rfl
     | cons x a =>
      show x*pt s p+dot a S p=0;rw [hs s List.mem_cons_self,ih a (fun r hr=>hs r (List.mem_cons_of_mem _ hr))];omega
   have:=h (1 :: R.map fun _=>0) (by simp) (all (r :: R) _ zero) 1 List.mem_cons_self
   cases this
 ·rintro rfl a la _ c hc
  have:a=[]:=List.length_eq_zero_iff.mp la
  rw [this] at hc;cases hc
theorem size_free{w:Nat}{R:List (List Int)}(hw:Wide w R):(size w R=R.length↔Free R)∧size w R≤R.length:=by
 have I:=sz_all (w:=w) (n:=R.length) (fr:=Free R) (st:=(0,R)) ⟨hw,by simp,fun r hr q hq=>absurd hq (Nat.not_lt_zero _),Iff.rfl⟩ w;have e:=free_none I.wide I.nought;have l:=I.len;unfold size;refine ⟨?_,by omega⟩;rw [← I.free,e,← List.length_eq_zero_iff];omega
theorem dot_zero{b:List Int}(h:∀c∈b,c=0):∀(R:List (List Int)) (p:Nat),dot b R p=0:=by
 induction b with
 | nil=>intro R p;cases R <;> rfl
 | cons c b ih =>
  intro R p;cases R with
  | nil=>rfl
  | cons r R =>
   show c*pt r p+dot b R p=0;rw [h c List.mem_cons_self,ih (fun d hd=>h d (List.mem_cons_of_mem _ hd))];omega
theorem dot_add:∀(a b:List Int) (R:List (List Int)) (p:Nat),a.length=b.length→dot (List.zipWith (· + ·) a b) R p=dot a R p+dot b R p
 | [],[],R,p,_=>by cases R <;> simp [dot]
 | x :: a,y :: b,[],p,_=>by simp [dot]
 | x :: a,y :: b,r :: R,p,h=>by
  have ih:=dot_add a b R p (by simpa using h);show (x+y)*pt r p+dot (List.zipWith (· + ·) a b) R p=(x*pt r p+dot a R p)+(y*pt r p+dot b R p)
  rw [ih,Int.add_mul];omega
theorem free_swap1{S T:List (List Int)}{r s:List Int}{d:List Int}{c G:Int}(ld:d.length=S.length)(hc:c≠0)(hG:G≠0)(e:∀q,G*pt s q=c*pt r q+dot d S q)(h:Free (S++r :: T)):Free (S++s :: T):=by
 intro a la ha;obtain ⟨a1,a',rfl,l1,l'⟩:=split_len la;obtain ⟨x,a2,rfl⟩:∃x a2,a'=x :: a2:=List.exists_cons_of_length_pos (by rw [l'];simp);have l2:a2.length=T.length:=by simpa using l'
 have at_:∀q,dot a1 S q+(x*pt s q+dot a2 T q)=0:=fun q=>by
  have:=ha q
  rw [dot_app _ _ _ l1] at this;exact this
 have h':=h (List.zipWith (· + ·) (a1.map fun y=>G*y) (d.map fun y=>x*y)++(x*c) :: a2.map fun y=>G*y) (by simp [l1,l2,ld]) fun q=>by
  rw [dot_app _ _ _ (by simp [l1,ld])];show dot (List.zipWith (· + ·) (a1.map fun y=>G*y) (d.map fun y=>x*y)) S q+(x*c*pt r q+dot (a2.map fun y=>G*y) T q)=0;rw [dot_add _ _ _ _ (by simp [l1,ld]),dot_smul,dot_smul,dot_smul];have e1:=at_ q;have e2:=e q;have e3:G*(dot a1 S q+(x*pt s q+dot a2 T q))=0:=by rw [e1,Int.mul_zero]
  rw [Int.mul_add,Int.mul_add] at e3;have e4:G*(x*pt s q)=x*(c*pt r q+dot d S q):=by rw [← e2,← Int.mul_assoc,← Int.mul_assoc,Int.mul_comm G x]
  rw [e4,Int.mul_add] at e3;have e5:x*(c*pt r q)=x*c*pt r q:=by rw [Int.mul_assoc]
  omega
 have x0:x=0:=by
  have:=h' (x*c) (List.mem_append_right _ List.mem_cons_self)
  exact (Int.mul_eq_zero.mp this).resolve_right hc
 have a20:∀y∈a2,y=0:=fun y hy=>by
  have:=h' (G*y) (List.mem_append_right _ (List.mem_cons_of_mem _ (List.mem_map.mpr ⟨y,hy,rfl⟩)))
  exact (Int.mul_eq_zero.mp this).resolve_left hG
 have a10:∀y∈a1,y=0:=fun y hy=>by
  obtain ⟨i,hi,rfl⟩:=List.mem_iff_getElem.mp hy
  have m:G*a1[i]+x*d[i]'(by omega)∈List.zipWith (· + ·) (a1.map fun y=>G*y) (d.map fun y=>x*y):=by
   refine List.mem_iff_getElem.mpr ⟨i,by simp;omega,by simp⟩
  have:=h' _ (List.mem_append_left _ m)
  rw [x0,Int.zero_mul,Int.add_zero] at this;exact (Int.mul_eq_zero.mp this).resolve_left hG
 intro y hy;rcases List.mem_append.mp hy with z | z
 ·exact a10 y z
 ·rcases List.mem_cons.mp z with rfl | z
  ·exact x0
  ·exact a20 y z
theorem free_swap{S T:List (List Int)}{r s:List Int}{d:List Int}{c G:Int}(ld:d.length=S.length)(hc:c≠0)(hG:G≠0)(e:∀q,G*pt s q=c*pt r q+dot d S q):Free (S++r :: T)↔Free (S++s :: T) :=
 ⟨free_swap1 ld hc hG e,free_swap1 (d:=d.map fun y=>(-1)*y) (by simp [ld]) hG hc fun q=>by rw [dot_smul];have:=e q;omega⟩
def Eqv(F S:List (List Int)):Prop:=∀T,Free (F++T)↔Free (S++T)
theorem Eqv.snoc{F S:List (List Int)}{r s:List Int}{d:List Int}{c G:Int}(h:Eqv F S)(ld:d.length=S.length)(hc:c≠0)(hG:G≠0)(e:∀q,G*pt s q=c*pt r q+dot d S q):Eqv (F++[r]) (S++[s]):=fun T=>by
 rw [List.append_assoc,List.append_assoc,h,List.singleton_append,List.singleton_append];exact free_swap ld hc hG e
inductive Stair:List (List Int)→List Nat→Prop
 | nil:Stair [] []
 | cons {s:List Int} {p:Nat} {S:List (List Int)} {ps:List Nat}:pt s p≠0→(∀t∈S,pt t p=0)→Stair S ps→Stair (s :: S) (p :: ps)
theorem Stair.snoc{s:List Int}{p:Nat}:∀{S:List (List Int)} {ps:List Nat},Stair S ps→(∀q∈ps,pt s q=0)→pt s p≠0→Stair (S++[s]) (ps++[p])
 | _,_,.nil,_,h=>.cons h (by simp) .nil
 | _,_,.cons (s:=t) (p:=q) h1 h2 r,z,h=>.cons h1 (fun u hu=>by
   rcases List.mem_append.mp hu with m | m
   ·exact h2 u m
   ·rw [List.mem_singleton.mp m];exact z q List.mem_cons_self) (Stair.snoc r (fun q hq=>z q (List.mem_cons_of_mem _ hq)) h)
theorem stair_free{x:List Int}:∀{S:List (List Int)} {ps:List Nat},Stair S ps→(∀q∈ps,pt x q=0)→(Free (S++[x])↔∃q,pt x q≠0)
 | [],[],.nil,_=>by
  constructor
  ·intro h;by_cases z:∃q,pt x q≠0
   ·exact z
   ·have:=h [1] rfl (fun p=>by
     show 1*pt x p+dot [] [] p=0
     have:pt x p=0:=Decidable.byContradiction fun y=>z ⟨p,y⟩
     rw [this];rfl) 1 List.mem_cons_self
    cases this
  ·rintro ⟨q,hq⟩ a la ha c hc;obtain ⟨y,rfl⟩:∃y,a=[y]:=List.length_eq_one_iff.mp la
   have:=ha q
   have e:y*pt x q+0=0:=this;rw [Int.add_zero] at e;rw [List.mem_singleton.mp hc];exact (Int.mul_eq_zero.mp e).resolve_right hq
 | s :: S,p :: ps,.cons h1 h2 r,z=>by
  have ih:=stair_free r fun q hq=>z q (List.mem_cons_of_mem _ hq)
  have zp:∀t∈S++[x],pt t p=0:=fun t ht=>by
   rcases List.mem_append.mp ht with m | m
   ·exact h2 t m
   ·rw [List.mem_singleton.mp m];exact z p List.mem_cons_self
  have nought:∀(b:List Int) (R:List (List Int)),(∀t∈R,pt t p=0)→dot b R p=0:=by
   intro b
   induction b with
   | nil=>intro R _;cases R <;> rfl
   | cons c b ihb =>
    intro R hR;cases R with
    | nil=>rfl
    | cons t R =>
     show c*pt t p+dot b R p=0;rw [hR t List.mem_cons_self,ihb R fun t ht=>hR t (List.mem_cons_of_mem _ ht)];omega
  rw [← ih];constructor
  ·intro h a la ha c hc
   exact h (0 :: a) (by simp [la]) (fun q=>by
    show 0*pt s q+dot a (S++[x]) q=0
    rw [ha q];omega) c (List.mem_cons_of_mem _ hc)
  ·intro h a la ha;obtain ⟨y,b,rfl⟩:∃y b,a=y :: b:=List.exists_cons_of_length_pos (by rw [la];simp);have at_:∀q,y*pt s q+dot b (S++[x]) q=0:=ha
   have y0:y=0:=by
    have:=at_ p
    rw [nought b _ zp,Int.add_zero] at this;exact (Int.mul_eq_zero.mp this).resolve_right h1
   have:=h b (by simpa using la) fun q=>by
    have:=at_ q
    rw [y0] at this;omega
   intro c hc;rcases List.mem_cons.mp hc with rfl | hc
   ·exact y0
   ·exact this c hc
structure Clrd (S:List (List Int)) (ps:List Nat) (x x':List Int):Prop where
 made:∃(d:List Int) (c G:Int),d.length=S.length∧c≠0∧G≠0∧∀q,G*pt x' q=c*pt x q+dot d S q
 nought:∀q∈ps,pt x' q=0
 len:x'.length=x.length
theorem Clrd.snoc{S:List (List Int)}{ps:List Nat}{x y z s:List Int}{p:Nat}{g:Int}(h:Clrd S ps x y)(st:Stair (S++[s]) (ps++[p]))(lp:S.length=ps.length)(ls:y.length=s.length)(hg:g≠0)(lz:z.length=y.length)(ez:∀q,g*pt z q=pt (clr s p y) q):Clrd (S++[s]) (ps++[p]) x z:=by
 obtain ⟨d,c,G,ld,hc,hG,e⟩:=h.made
 have sp:pt s p≠0:=by
  have:∀{S:List (List Int)} {ps:List Nat},Stair (S++[s]) (ps++[p])→S.length=ps.length→pt s p≠0:=by
   intro S
   induction S with
   | nil =>
    intro ps st l
    have:ps=[]:=List.length_eq_zero_iff.mp l.symm
    subst this;cases st with
    | cons h _ _=>exact h
   | cons t S ih =>
    intro ps st l;cases ps with
    | nil=>simp at l
    | cons q ps =>
     cases st with
     | cons _ _ r=>exact ih r (by simpa using l)
  exact this st lp
 have s0:∀q∈ps,pt s q=0:=by
  have:∀{S:List (List Int)} {ps:List Nat},Stair (S++[s]) (ps++[p])→S.length=ps.length→∀q∈ps,pt s q=0:=by
   intro S
   induction S with
   | nil =>
    intro ps st l q hq
    have:ps=[]:=List.length_eq_zero_iff.mp l.symm
    subst this;cases hq
   | cons t S ih =>
    intro ps st l q hq;cases ps with
    | nil=>simp at l
    | cons q0 ps =>
     cases st with
     | cons _ h2 r =>
      rcases List.mem_cons.mp hq with rfl | hq
      ·exact h2 s (List.mem_append_right _ (List.mem_singleton.mpr rfl))
      ·exact ih r (by simpa using l) q hq
  exact this st lp
 have ec:∀q,g*pt z q=pt y q*pt s p - pt y p*pt s q:=fun q=>by rw [ez q,pt_clr ls]
 have zero:∀q,pt y q*pt s p - pt y p*pt s q=0→pt z q=0:=fun q h0=>by
  have:=ec q
  rw [h0] at this;exact (Int.mul_eq_zero.mp this).resolve_left hg
 refine ⟨⟨(d.map fun v=>pt s p*v)++[-(G*pt y p)],pt s p*c,G*g,by simp [ld],fun w=>?_,fun w=>?_,fun q=>?_⟩,fun q hq=>?_,by rw [lz,h.len]⟩
 ·rcases Int.mul_eq_zero.mp w with w | w
  ·exact sp w
  ·exact hc w
 ·rcases Int.mul_eq_zero.mp w with w | w
  ·exact hG w
  ·exact hg w
 ·rw [dot_app _ _ _ (by simp [ld]),dot_smul];show G*g*pt z q=pt s p*c*pt x q+(pt s p*dot d S q+(-(G*pt y p)*pt s q+0))
  have e1:=e q;rw [Int.mul_assoc,ec q,Int.mul_sub,Int.add_zero,Int.neg_mul];have a1:G*(pt y q*pt s p)=pt s p*(c*pt x q+dot d S q):=by rw [← e1,← Int.mul_assoc,Int.mul_comm]
  have a2:G*(pt y p*pt s q)=G*pt y p*pt s q:=by rw [Int.mul_assoc]
  have a3:pt s p*(c*pt x q+dot d S q)=pt s p*c*pt x q+pt s p*dot d S q:=by rw [Int.mul_add,Int.mul_assoc]
  omega
 ·rcases List.mem_append.mp hq with m | m
  ·refine zero q ?_;rw [h.nought q m,s0 q m];simp
  ·rw [List.mem_singleton.mp m];refine zero p ?_;omega
theorem Clrd.start{x:List Int}:Clrd [] [] x x:=⟨⟨[],1,1,rfl,by decide,by decide,fun q=>by simp [dot]⟩,by simp,rfl⟩
theorem clrd_free{F S:List (List Int)}{ps:List Nat}{x x':List Int}(E:Eqv F S)(st:Stair S ps)(c:Clrd S ps x x'):Free (F++[x])↔∃q,pt x' q≠0:=by
 obtain ⟨d,c0,G,ld,hc,hG,e⟩:=c.made;rw [E [x]];rw [free_swap (T:=[]) ld hc hG e];exact stair_free st c.nought
end Rk
namespace Dn
open Rk
end Dn
namespace L2
open PySem PySem.Spec PyProof.Rows
open PySem.W (Dat KasT kas_sort kas_ask KatLex KatTups)
section
variable{prog:Program}{w:World}{A:Around}{E:Value→Shared→Prop}{s:Shared}
end
section
variable{X:Cx}
theorem bb_sorted:bootBuiltins "sorted" = some (.builtin "sorted"):=by decide +kernel
end
end L2
namespace L2
open PySem PySem.Spec PyProof.Rows
section
variable{prog:Program}{w:World}{A:Around}{E:Value→Shared→Prop}{s:Shared}{z TI TO i1 i2 i3 l1 l2 l3:Addr}{xs ys zs:Array Value}{S1 S2 S3:Nat→Heap→Prop}{k:Nat}
end
section
variable{X:Cx}
end
section
variable{K:Fg}{te:TE}{σ : St}{Q:VK}{H:Hp}
end
end L2
namespace Rk
end Rk
namespace L2
open PySem PySem.Spec PyProof.Rows
def addP(es:Array (Int×Value))(t:SetTable)(h:Int)(x:Value)(i:Int):Array (Int×Value)×SetTable :=
 match es.toList.findIdx? (fun e=>Value.isInt i e.2) with
 | some _=>(es,t)
 | none=>if (!(layNew t es h x).2.2.1 && (layNew t es h x).2.1.tooFull)=true then ((relayAll (layNew t es h x).2.1 (layNew t es h x).1 (SetTable.grown (layNew t es h x).1.size)).1,(relayAll (layNew t es h x).2.1 (layNew t es h x).1 (SetTable.grown (layNew t es h x).1.size)).2.1)
  else ((layNew t es h x).1,(layNew t es h x).2.1)
section
variable{prog:Program}{w:World}{A:Around}{E:Value→Shared→Prop}{s:Shared}
theorem add_raw {a:Addr} {es:Array (Int×Value)} {ep:Nat} {t:SetTable} {i:Int} {u:Tok} {Q:Bool→Shared→Prop} (ho:s.heap.get? a=some { cls:=.type "set",dict:=none,data:=.set es ep t,slots:=#[] }) (hf:t.fits es.size=true) (hel:ElemsOf (intKind prog w) es.toList) (hb:es.size+2 < scanBound)
  (h:∀h' ep' r tk,Heap.SameBut a s.heap h'→h'.get? a=some { cls:=.type "set",dict:=none,data:=.set (addP es t (hashInt i) (.int i u) i).1 ep' (addP es t (hashInt i) (.int i u) i).2,slots:=#[] }→Q r { s with heap:=h',toks:=tk }) :
  wpAny (model prog w) A (setAdd a (.int i u)) Q E s:=by
 unfold setAdd;refine wpAny_holding (wpAny_bind (wpAny_pyHash_int ?_));unfold setAddHashed setAddHashedIn;refine wpAny_holding (wpAny_bind (wpAny_setState_of ho rfl hf ?_));dsimp only;rw [byScan_of (knd:=intKind prog w) (show Value.scannable (.int i u)=true from rfl) (by omega) hel];simp only [↓reduceIte];unfold setAddByScan;refine wpAny_bind (wpAny_bind (wpAny_rule (wpAny_bind (wpAny_setScan_of (knd:=intKind prog w) (k:=i) (show Value.isInt i (.int i u)=true by simp [Value.isInt]) ho rfl hf hel ?_))));unfold addP at h;cases hr:es.toList.findIdx? (fun e=>Value.isInt i e.2) with
 | some j =>
  rw [hr] at h;rw [show (es.toList.findIdx? fun e=>(intKind prog w).is i e.2)=some j from hr];dsimp only;refine wpAny_pure (wpAny_pure ?_);exact h s.heap ep _ _ (Heap.SameBut.refl a s.heap) ho
 | none =>
  rw [hr] at h;rw [show (es.toList.findIdx? fun e=>(intKind prog w).is i e.2)=none from hr];dsimp only
  have sz:(layNew t es (hashInt i) (.int i u)).1.size=es.size+1:=by
   have:=(layNew_perm t es (hashInt i) (.int i u)).length_eq
   rw [Array.length_toList,Array.length_toList,Array.size_push] at this;exact this
  generalize layNew t es (hashInt i) (.int i u)=L at h sz ⊢;obtain ⟨es1,t1,wd,gv⟩:=L;dsimp only at h sz ⊢
  have gw:∀(b:Bool) (s₁ : Shared) (R:Unit→Shared→Prop) (m:Bool→Sem Unit),m=(fun b=>match b with | true=>rule "set.scan.the-table-gave-way" | false=>pure ())→R () s₁→wpAny (model prog w) A (m b) R E s₁:=by
   rintro b s₁ R m rfl hq;cases b <;> first | exact wpAny_pure hq | exact wpAny_rule hq
  have fin:∀(s':Shared),(∃tk,s' = { s with heap:=s.heap,toks:=tk })→wpAny (model prog w) A (do
    storeSet a es1 t1
    if (!wd && t1.tooFull)=true then do
      (match (relayAll t1 es1 (SetTable.grown es1.size)).2.2 with | true=>rule "set.scan.the-table-gave-way" | false=>pure ())
      storeSet a (relayAll t1 es1 (SetTable.grown es1.size)).1 (relayAll t1 es1 (SetTable.grown es1.size)).2.1
      pure (some true)
     else pure (some true)) (fun r s''=>wpAny (model prog w) A (match r with | some added=>pure added | none=>setAddHashedIn a (.int i u) (hashInt i) 99999) Q E s'') E s':=by
   rintro s' ⟨tk,rfl⟩
   have e1:(s.heap.update a (Obj.putSet es1 t1)).get? a=some { cls:=.type "set",dict:=none,data:=.set es1 (ep+1) t1,slots:=#[] }:=by
    have:=Heap.get?_update_self (Obj.putSet es1 t1) ho (by rw [putSet_of es1 t1 rfl];rfl)
    rw [putSet_of es1 t1 rfl] at this;exact this
   refine wpAny_bind (wpAny_storeSet_of (s:={ s with heap:=s.heap,toks:=tk }) ho rfl ?_ (fits_of_scanBound (by omega)));by_cases c:(!wd && t1.tooFull)=true
   ·rw [if_pos c] at h ⊢
    have sz2:(relayAll t1 es1 (SetTable.grown es1.size)).1.size=es1.size:=by
     have:=(relayAll_perm t1 es1 (SetTable.grown es1.size)).length_eq
     rw [Array.length_toList,Array.length_toList] at this;exact this
    generalize relayAll t1 es1 (SetTable.grown es1.size)=Rl at h sz2 ⊢;obtain ⟨es2,t2,gv2⟩:=Rl;dsimp only at h sz2 ⊢
    have e2:((s.heap.update a (Obj.putSet es1 t1)).update a (Obj.putSet es2 t2)).get? a=some { cls:=.type "set",dict:=none,data:=.set es2 (ep+1+1) t2,slots:=#[] }:=by
     have:=Heap.get?_update_self (Obj.putSet es2 t2) e1 (by rw [putSet_of es2 t2 rfl];rfl)
     rw [putSet_of es2 t2 rfl] at this;exact this
    refine wpAny_bind (gw gv2 _ _ _ rfl ?_);refine wpAny_bind (wpAny_storeSet_of (s:={ s with heap:=s.heap.update a (Obj.putSet es1 t1),toks:=tk }) e1 rfl ?_ (fits_of_scanBound (by omega)));exact wpAny_pure (wpAny_pure (h _ _ _ _ ((Heap.SameBut.update ..).trans (Heap.SameBut.update ..)) e2))
   ·rw [if_neg c] at h ⊢;exact wpAny_pure (wpAny_pure (h _ _ _ _ (Heap.SameBut.update ..) e1))
  refine wpAny_bind (gw gv _ _ _ rfl ?_);split
  ·refine wpAny_bind ?_;rw [hashByValue_scannable 8 (show Value.scannable (.int i u)=true from rfl)];refine wpAny_pure ?_;exact fin _ ⟨_,rfl⟩
  ·refine wpAny_bind (wpAny_pure ?_);exact fin _ ⟨_,rfl⟩
end
def lst8(b:Nat):List Nat:=(List.range 8).filter fun k=>b.testBit k
def ins8(b k:Nat):Nat:=if (lst8 b).contains k then b else b+2 ^ k
theorem lst8_len:∀b < 256,(lst8 b).length≤8:=by decide +kernel
theorem ins8_lt:∀b < 256,∀k < 8,ins8 b k < 256:=by decide +kernel
theorem ins8_has:∀b < 256,∀k < 8,∀j < 8,(lst8 (ins8 b k)).contains j=((lst8 b).contains j || j == k):=by decide +kernel
def pu8(b k:Nat):Bool:=(lst8 b).contains k || ((lst8 b).take (SetTable.below (lst8 b).toArray k)++k :: (lst8 b).drop (SetTable.below (lst8 b).toArray k) == lst8 (b+2 ^ k) && SetTable.below (lst8 b).toArray k≤(lst8 b).length)
theorem pu8_ok:∀b < 256,∀k < 8,pu8 b k=true:=by decide +kernel
def ly8(b:Nat):Bool:=match SetTable.layClean 31 ((lst8 b).map fun k:Nat=>(k:Int)).toArray with
 | some o=>((List.range 32).filterMap fun j=>(o.getD j none).map (j,·)) == (lst8 b).zipIdx
 | none=>false
theorem ly8_ok:∀b < 256,ly8 b=true:=by decide +kernel
theorem hash8:∀k < 8,hashInt ((k:Nat):Int)=(k:Int):=by decide +kernel
theorem bits8:∀k < 8,SetTable.bits ((k:Nat):Int) % 8=k∧SetTable.bits ((k:Nat):Int) % 32=k:=by decide +kernel
def ER(es:Array (Int×Value))(l:List Nat):Prop:=es.size=l.length∧∀(i k:Nat),l[i]? = some k→∃tk,es[i]? = some ((k:Int),.int (k:Int) tk)
structure TR (led:Bool) (t:SetTable) (b:Nat):Prop where
 place:t.place=(lst8 b).toArray
 dum:t.dummies = #[]
 led:t.led=led
 plain:t.plain=true
 mask:(t.mask=7∧(lst8 b).length≤4)∨t.mask=31
theorem TR.fill{led:Bool}{t:SetTable}{b:Nat}(T:TR led t b):t.fill=(lst8 b).length:=by
 unfold SetTable.fill;rw [T.place,T.dum];simp
theorem TR.fits{led:Bool}{t:SetTable}{b n:Nat}(T:TR led t b)(hb:b < 256)(hn:n=(lst8 b).length):t.fits n=true:=by
 have l8:=lst8_len b hb;unfold SetTable.fits;rw [T.fill,T.place];simp only [List.size_toArray,Bool.and_eq_true,beq_iff_eq,decide_eq_true_eq];rcases T.mask with ⟨m,l⟩ | m <;> rw [m] <;> omega
theorem ER.elems{prog:Program}{w:World}{es:Array (Int×Value)}{b:Nat}(R:ER es (lst8 b))(h8:∀k∈lst8 b,k < 8):ElemsOf (intKind prog w) es.toList:=by
 intro e he;obtain ⟨i,li,ei⟩:=List.mem_iff_getElem.mp he;have l2:i < (lst8 b).length:=by rw [← R.1];simpa using li
 obtain ⟨tk,et⟩:=R.2 i _ (List.getElem?_eq_getElem l2);have e2:es.toList[i]? = some e:=by rw [List.getElem?_eq_getElem li,ei]
 rw [Array.getElem?_toList] at e2;rw [et] at e2;cases e2;refine ⟨⟨((lst8 b)[i]:Int),by simp [intKind,Value.isInt],?_⟩,rfl⟩;exact (hash8 _ (h8 _ (List.getElem_mem l2))).symm
theorem lst8_lt(b:Nat):∀k∈lst8 b,k < 8:=fun k hk=>by
 unfold lst8 at hk;exact List.mem_range.mp (List.mem_filter.mp hk).1
theorem idx_none{es:Array (Int×Value)}{l:List Nat}{k:Nat}(R:ER es l)(h:k∉l):es.toList.findIdx? (fun e=>Value.isInt (k:Int) e.2)=none:=by
 rw [List.findIdx?_eq_none_iff];intro e he;obtain ⟨i,li,ei⟩:=List.mem_iff_getElem.mp he;have l2:i < l.length:=by rw [← R.1];simpa using li
 obtain ⟨tk,et⟩:=R.2 i _ (List.getElem?_eq_getElem l2);have e2:es.toList[i]? = some e:=by rw [List.getElem?_eq_getElem li,ei]
 rw [Array.getElem?_toList,et] at e2;cases e2;have ne:l[i]≠k:=fun z=>h (z ▸ List.getElem_mem l2)
 have : ¬ ((l[i]:Int)=(k:Int)):=by omega
 simp [Value.isInt,this]
theorem idx_some{es:Array (Int×Value)}{l:List Nat}{k:Nat}(R:ER es l)(h:k∈l):∃j,es.toList.findIdx? (fun e=>Value.isInt (k:Int) e.2)=some j:=by
 cases e:es.toList.findIdx? (fun e=>Value.isInt (k:Int) e.2) with
 | some j=>exact ⟨j,rfl⟩
 | none =>
  rw [List.findIdx?_eq_none_iff] at e;obtain ⟨i,li,ei⟩:=List.mem_iff_getElem.mp h;obtain ⟨tk,et⟩:=R.2 i k (by rw [List.getElem?_eq_getElem li,ei])
  have:=e ((k:Int),.int (k:Int) tk) (List.mem_of_getElem? (by rw [Array.getElem?_toList];exact et))
  simp [Value.isInt] at this
theorem free8{led:Bool}{t:SetTable}{b k:Nat}(T:TR led t b)(hk:k < 8)(h:k∉lst8 b):t.freeSlot (k:Int)=some (k,false):=by
 have ej:(t.probeStart (k:Int)).j=k:=by
  show SetTable.bits (k:Int) % (t.mask+1)=k;rcases T.mask with ⟨m,_⟩ | m <;> rw [m]
  ·exact (bits8 k hk).1
  ·exact (bits8 k hk).2
 have sl:=slot_empty T.place T.dum h;obtain ⟨n,hn⟩:∃n,10*SetTable.turns t.mask=n+1:=⟨10*SetTable.turns t.mask - 1,by unfold SetTable.turns;omega⟩
 unfold SetTable.freeSlot SetTable.probe;rw [hn];unfold SetTable.probe.go;rw [ej,sl];rfl
theorem range_list{α : Type}:∀l:List α,(List.range l.length).filterMap (fun i=>l[i]?)=l
 | []=>rfl
 | x :: l=>by
  rw [List.length_cons,List.range_succ_eq_map,List.filterMap_cons];show x :: (List.map Nat.succ (List.range l.length)).filterMap (fun i=>(x :: l)[i]?)=x :: l;rw [List.filterMap_map];congr 1;exact range_list l
theorem range_all{α : Type}(a:Array α):(List.range a.size).toArray.filterMap (fun x=>a[x]?)=a:=by
 obtain ⟨l⟩:=a;apply Array.toList_inj.mp;rw [Array.toList_filterMap];simpa using range_list l
theorem zip_fst(l:List Nat):l.zipIdx.map (·.1)=l:=by simp
theorem zip_snd(l:List Nat):l.zipIdx.map (·.2)=List.range l.length:=by simp [List.range_eq_range']
theorem addP_ok{led:Bool}{es:Array (Int×Value)}{t:SetTable}{b k:Nat}{u:Tok}(hb:b < 256)(hk:k < 8)(R:ER es (lst8 b))(T:TR led t b) :
  ER (addP es t (hashInt (k:Int)) (.int (k:Int) u) (k:Int)).1 (lst8 (ins8 b k))∧TR led (addP es t (hashInt (k:Int)) (.int (k:Int) u) (k:Int)).2 (ins8 b k):=by
 rw [hash8 k hk];have l8:=lst8_len b hb;by_cases h:k∈lst8 b
 ·obtain ⟨j,e⟩:=idx_some R h;have ei:ins8 b k=b:=by unfold ins8;rw [if_pos (by simpa using h)]
  unfold addP;rw [e,ei];exact ⟨R,T⟩
 ·have ei:ins8 b k=b+2 ^ k:=by unfold ins8;rw [if_neg (by simpa using h)]
  have pk:=pu8_ok b hb k hk;unfold pu8 at pk;rw [show (lst8 b).contains k=false by simpa using h,Bool.false_or,Bool.and_eq_true,beq_iff_eq,decide_eq_true_eq] at pk;obtain ⟨p1,p2⟩:=pk;have l8':=lst8_len (ins8 b k) (ins8_lt b hb k hk);rw [← ei] at p1
  have ll:(lst8 (ins8 b k)).length=(lst8 b).length+1:=by
   rw [← p1,List.length_append,List.length_cons,List.length_take,List.length_drop];omega
  generalize hp:SetTable.below (lst8 b).toArray k=p at p1 p2
  have put:t.put k=({ t with place:=(lst8 (ins8 b k)).toArray,dummies:=#[] },p):=by
   unfold SetTable.put;rw [T.place,T.dum,hp];dsimp only;rw [insertAt_list _ _ _ p2,p1,if_neg (by simp [SetTable.has,SetTable.below,SetTable.below.go])]
  have esl:SetTable.insertAt es p ((k:Int),.int (k:Int) u)=(es.toList.take p++((k:Int),Value.int (k:Int) u) :: es.toList.drop p).toArray:=by
   have:=insertAt_list es.toList p ((k:Int),Value.int (k:Int) u) (by rw [Array.length_toList,R.1];exact p2)
   simpa using this
  have R1:ER (SetTable.insertAt es p ((k:Int),.int (k:Int) u)) (lst8 (ins8 b k)):=by
   refine ⟨?_,fun i j hj=>?_⟩
   ·rw [esl,ll,← R.1];simp;omega
   ·rw [esl];rw [← p1,get_ins p2] at hj;rw [List.getElem?_toArray,get_ins (by rw [Array.length_toList,R.1];exact p2)];split at hj
    ·rename_i c;rw [if_pos c,Array.getElem?_toList];exact R.2 i j hj
    ·rename_i c;rw [if_neg c];split at hj
     ·rename_i c2;cases hj;rw [if_pos c2];exact ⟨u,rfl⟩
     ·rename_i c2;rw [if_neg c2,Array.getElem?_toList];exact R.2 _ j hj
  have sz1:(SetTable.insertAt es p ((k:Int),.int (k:Int) u)).size=(lst8 (ins8 b k)).length:=R1.1
  have ft:({ t with place:=(lst8 (ins8 b k)).toArray,dummies:=#[] }:SetTable).fits (SetTable.insertAt es p ((k:Int),.int (k:Int) u)).size=true:=by
   unfold SetTable.fits SetTable.fill;rw [sz1];simp only [List.size_toArray,Bool.and_eq_true,beq_iff_eq,decide_eq_true_eq];refine ⟨trivial,?_⟩;show (lst8 (ins8 b k)).length+0≤t.mask;rcases T.mask with ⟨m,l⟩ | m <;> rw [m] <;> omega
  have lay:layNew t es (k:Int) (.int (k:Int) u)=(SetTable.insertAt es p ((k:Int),.int (k:Int) u),{ t with place:=(lst8 (ins8 b k)).toArray,dummies:=#[] },false,false):=by
   unfold layNew;rw [free8 T hk h];dsimp only;rw [put];dsimp only;unfold SetTable.orStandIn;rw [ft];rfl
  unfold addP;rw [idx_none R h,lay];dsimp only;generalize SetTable.insertAt es p ((k:Int),.int (k:Int) u)=es1 at R1 sz1 ft
  have hs:es1.map (·.1)=((lst8 (ins8 b k)).map fun k:Nat=>(k:Int)).toArray:=by
   apply Array.ext_getElem?;intro i;simp only [Array.getElem?_map,List.getElem?_toArray,List.getElem?_map];by_cases li:i < (lst8 (ins8 b k)).length
   ·obtain ⟨tk,et⟩:=R1.2 i _ (List.getElem?_eq_getElem li);rw [et,List.getElem?_eq_getElem li];rfl
   ·rw [Array.getElem?_eq_none (by omega),List.getElem?_eq_none (by omega)];rfl
  by_cases c:(!false && ({ t with place:=(lst8 (ins8 b k)).toArray,dummies:=#[] }:SetTable).tooFull)=true
  ·rw [if_pos c]
   have c2:((lst8 (ins8 b k)).length+0)*5≥t.mask*3:=by
    have c1:({ t with place:=(lst8 (ins8 b k)).toArray,dummies:=#[] }:SetTable).tooFull=true:=by simpa using c
    unfold SetTable.tooFull SetTable.fill at c1;simpa using c1
   have n5:(lst8 (ins8 b k)).length=5:=by
    rcases T.mask with ⟨m,l⟩ | m <;> rw [m] at c2 <;> omega
   have g20:SetTable.sizeAbove (SetTable.grown es1.size) - 1=31:=by rw [sz1,n5];decide
   have lk:=ly8_ok (ins8 b k) (ins8_lt b hb k hk);unfold ly8 at lk
   have rel:∃mv,relayAll ({ t with place:=(lst8 (ins8 b k)).toArray,dummies:=#[] }:SetTable) es1 (SetTable.grown es1.size)=(es1,{ mask:=31,place:=(lst8 (ins8 b k)).toArray,dummies:=#[],finger:=t.finger,led:=t.led,moves:=mv,plain:=t.plain },false):=by
    cases lc:SetTable.layClean 31 ((lst8 (ins8 b k)).map fun k:Nat=>(k:Int)).toArray with
    | none=>rw [lc] at lk;cases lk
    | some o =>
     rw [lc] at lk;have lz:((List.range 32).filterMap fun j=>(o.getD j none).map (j,·))=(lst8 (ins8 b k)).zipIdx:=by simpa using lk
     refine ⟨({ t with place:=(lst8 (ins8 b k)).toArray,dummies:=#[] }:SetTable).movedTo 31,?_⟩;unfold relayAll SetTable.relaid SetTable.laid;rw [hs,g20,lc];simp only [Option.bind_eq_bind,Option.bind_some,lz,zip_fst,zip_snd];dsimp only [Option.pure_def];have ef:(List.range (lst8 (ins8 b k)).length).toArray.filterMap (fun x=>es1[x]?)=es1:=by rw [← sz1];exact range_all es1
     rw [ef]
     have cv:coversAll (List.range (lst8 (ins8 b k)).length).toArray es1.size=true:=by
      unfold coversAll;rw [sz1,n5];rfl
     have ft2:({ mask:=31,place:=(lst8 (ins8 b k)).toArray,dummies:=#[],finger:=t.finger,led:=t.led,moves:=({ t with place:=(lst8 (ins8 b k)).toArray,dummies:=#[] }:SetTable).movedTo 31,plain:=t.plain }:SetTable).fits es1.size=true:=by
      unfold SetTable.fits SetTable.fill;rw [sz1];simp;omega
     rw [cv,ft2];rfl
   obtain ⟨mv,rel⟩:=rel;rw [rel];exact ⟨R1,rfl,rfl,T.led,T.plain,.inr rfl⟩
  ·rw [if_neg c]
   have c2 : ¬ ((lst8 (ins8 b k)).length+0)*5≥t.mask*3:=fun z=>c (by
    show (true && ({ t with place:=(lst8 (ins8 b k)).toArray,dummies:=#[] }:SetTable).tooFull)=true
    unfold SetTable.tooFull SetTable.fill
    simpa using z)
   refine ⟨R1,rfl,rfl,T.led,T.plain,?_⟩;rcases T.mask with ⟨m,l⟩ | m
   ·refine .inl ⟨m,?_⟩;rw [m] at c2;omega
   ·exact .inr m
structure SmSet (led:Bool) (h:Heap) (a:Addr) (b:Nat):Prop where
 b8:b < 256
 at_:∃es ep t,h.get? a=some { cls:=.type "set",dict:=none,data:=.set es ep t,slots:=#[] }∧ER es (lst8 b)∧TR led t b
theorem SmSet.keep{led:Bool}{h h':Heap}{a:Addr}{b:Nat}(S:SmSet led h a b)(k:∀o,h.get? a=some o→h'.get? a=some o):SmSet led h' a b:=by
 obtain ⟨es,ep,t,e,r⟩:=S.at_;exact ⟨S.b8,es,ep,t,k _ e,r⟩
section
variable{prog:Program}{w:World}{A:Around}{E:Value→Shared→Prop}{s:Shared}
theorem sm_add{led:Bool}{a:Addr}{b k:Nat}{u:Tok}{Q:Bool→Shared→Prop}(S:SmSet led s.heap a b)(hk:k < 8)(h:∀h' r tk,Heap.SameBut a s.heap h'→SmSet led h' a (ins8 b k)→Q r { s with heap:=h',toks:=tk }) :
  wpAny (model prog w) A (setAdd a (.int (k:Int) u)) Q E s:=by
 obtain ⟨es,ep,t,e,R,T⟩:=S.at_;have l8:=lst8_len b S.b8;have sb:scanBound=4096:=rfl;refine add_raw e (T.fits S.b8 R.1) (R.elems (lst8_lt b)) (by rw [R.1,sb];omega) fun h' ep' r tk sm e'=>?_
 obtain ⟨R',T'⟩:=addP_ok (u:=u) S.b8 hk R T;exact h h' r tk sm ⟨ins8_lt b S.b8 k hk,_,ep',_,e',R',T'⟩
def byTx (w:World):Bool:=w.params.followText "set-order"
set_option maxRecDepth 100000 in
theorem set_new_led(a:Value){Q₁ : Value→Shared→Prop}(h:Q₁ (.ref s.heap.objs.size) { s with heap:=s.heap.push (sob (!byTx w)) }) :
  codeAny (model prog w) A (.call (.builtin "set.__new__") ⟨[.type "set",a],[]⟩) (wants Q₁ E) s:=by
 refine codeAny_of_tree (show wpAny _ A.in1 (do checkBuiltinCall "set.__new__" ⟨[.type "set",a],[]⟩;again (.builtin "set.__new__" ⟨[.type "set",a],[]⟩)) _ _ s from ?_);refine wpAny_bind (wpAny_of_eq (F.newCall_set_1 a) (wpAny_pure ⟨plainId_quiet F.plain_set_new _,codeAny_builtin F.entry_set_new ?_⟩));rw [Around.under_plainId F.plain_set_new _];unfold Builtin.«set.__new__» Builtin.Frozenset.newClass;have hsub:=sub_set_self;obtain ⟨hp,g,d,tk,os⟩:=s;dsimp only;wp_walk;refine wpAny_askSetting (wpAny_pure ?_);dsimp only;simp only [newObj];refine wpAny_bind (wpAny_alloc (wpAny_pure (wpAny_pure ?_)));exact h
end
section
variable{prog:Program}{w:World}{A:Around}{E:Value→Shared→Prop}{s:Shared}
set_option maxRecDepth 100000 in
set_option maxHeartbeats 3200000 in
theorem set_callL(k:Kn){l:Addr}{items:Array Value}{Q:Value→Shared→Prop}(hh:A.handled=none)(hl:k.seq s.heap l items)(Z:Nat→Heap→Prop)
  (z0:∀h,h.get? s.heap.objs.size=some (sob (!byTx w))→(∀b o,s.heap.get? b=some o→h.get? b=some o)→Z 0 h) (zk:∀i h h',Z i h→(∀b o,b≠s.heap.objs.size+1→h.get? b=some o→h'.get? b=some o)→Z i h')
  (za:∀(A':Around) i v (s':Shared) (Q:Bool→Shared→Prop) (E:Value→Shared→Prop),A'.units≤A.units+8→i < items.size→items[i]? = some v→Z i s'.heap→(∀r h' tk,Z (i+1) h'→(∀b,b≠s.heap.objs.size→h'.get? b=s'.heap.get? b)→Q r { s' with heap:=h',toks:=tk })→wpAny (model prog w) A' (setAdd s.heap.objs.size v) Q E s')
  (q:∀h' tk,Z items.size h'→(∀b o,b < s.heap.objs.size→s.heap.get? b=some o→h'.get? b=some o)→Q (.ref s.heap.objs.size) { s with heap:=h',toks:=tk }):wpAny (model prog w) A (call (.type "set") [.ref l]) Q E s:=by
 obtain ⟨c,tl,hmro⟩:=F.called_set.mro;have hmade:=F.called_set.made;have hsub:=F.called_set.sub;refine wpAny_call (codeAny_of_tree ?_);show wpAny _ _ (callAny (.type "set") _) _ _ _;refine wpAny_pure ⟨Code.quiet_builtin _ (by decide +kernel),codeAny_builtin F.entry_type_call ?_⟩;rw [Around.under_plain (weight_type_call_type "set" [.ref l] []) rfl];have h1:=F.called_set.notType;have h2:=F.called_set.canCreate;have hct:=F.typeCall_set_1 (.ref l)
 repeat (any_goals (first | assumption | wp_step))
 refine codeAny_mono (set_new_led (.ref l) (E:=E) (Q₁:=fun obj s₁=>∃led:Bool,led = !byTx w∧obj = .ref s.heap.objs.size∧s₁ = { s with heap:=s.heap.push (sob led) }) ⟨_,rfl,rfl,rfl⟩) fun r s₁ hr=>?_
 cases r with
 | error e=>exact hr
 | ok fl =>
  cases fl with
  | ret obj =>
   obtain ⟨led,hled,rfl,rfl⟩:=hr;have hS:(s.heap.push (sob led)).get? s.heap.objs.size=some (sob led):=Heap.get?_push_size _ rfl;have hT:Shared.TypeIs { s with heap:=s.heap.push (sob led) } (.ref s.heap.objs.size) "set":=⟨_,hS,rfl⟩
   have hli:=F.called_set.init.lookup;have hbi:=F.called_set.init.bind (.ref s.heap.objs.size)
   repeat (any_goals (first | assumption | wp_step))
   refine codeAny_mono (codeAny_call_builtin (R:=wants (fun r s₂=>r = .none∧∃h' tk,s₂ = { s with heap:=h',toks:=tk }∧Z items.size h'∧(∀b o,b < s.heap.objs.size→s.heap.get? b=some o→h'.get? b=some o)) E) F.called_set.init.plain F.entry_set_init (check_set_init_1 hT ?_)) fun r₂ s₂ hr₂=>?_
   ·have hlt:l < s.heap.objs.size:=k.lt hl;have hl1:k.seq (s.heap.push (sob led)) l items:=k.seqAt hl fun o e=>Heap.get?_push_of_some _ e
    have nI:l≠(s.heap.push (sob led)).objs.size:=by rw [Heap.size_push];exact Nat.ne_of_lt (Nat.lt_succ_of_lt hlt)
    have nS:s.heap.objs.size∉[(s.heap.push (sob led)).objs.size,l]:=by
     rw [Heap.size_push];simp only [List.mem_cons,List.not_mem_nil,or_false,not_or];exact ⟨Nat.ne_of_lt (Nat.lt_succ_self _),Nat.ne_of_gt hlt⟩
    have fin:∀(A':Around) (R':Result→Shared→Prop),A'.in1.handled=none→A'.in1.units≤A.units+8→(∀h' tk,Z items.size h'→(∀b o,b < s.heap.objs.size→s.heap.get? b=some o→h'.get? b=some o)→R' (.ok (.ret .none)) { s with heap:=h',toks:=tk }) →
      codeAny (model prog w) A' (.builtin "set.update.loop" ⟨[.ref s.heap.objs.size,.ref (s.heap.push (sob led)).objs.size],[]⟩) R' { s with heap:=(s.heap.push (sob led)).push (k.obj l) }:=by
     intro A' R' ha hu hR;refine set_loop (k.walks ha _ l nI items) s.heap.objs.size nS Z (fun i h h' z kp=>zk i h h' z fun b o hb e=>kp b o (by rw [Heap.size_push];simpa using hb) e) (fun i v s' Q' E' hi hv hz hq=>za _ i v s' Q' E' hu hi hv hz hq) (items.size - 0) 0 _ rfl (Nat.zero_le _) ⟨k.it0 _ l,k.seqAt hl1 fun o e=>Heap.get?_push_of_some _ e⟩ (z0 _ (hled ▸ Heap.get?_push_of_some _ hS) fun b o e=>Heap.get?_push_of_some _ (Heap.get?_push_of_some _ e)) fun h' tk z kp=>hR h' tk z fun b o hb e=>kp b o ?_ (Heap.get?_push_of_some _ (Heap.get?_push_of_some _ e))
     rw [Heap.size_push];simp only [List.mem_cons,List.not_mem_nil,or_false,not_or];exact ⟨Nat.ne_of_lt hb,Nat.ne_of_lt (Nat.lt_succ_of_lt hb)⟩
    cases k
    ·have hl2:(s.heap.push (sob led)).IsList l items:=hl1;obtain ⟨ol,hol,hcl,nl,hdl⟩:=hl1;obtain ⟨ocls,odict,odata,oslots⟩:=ol;simp only at hcl hdl;subst hcl;subst hdl;have hsls:=F.sub_list_set;have hslf:=F.sub_list_frozenset;have hne:(Value.type "list" == Value.type "dict")=false:=by decide
     unfold Builtin.«set.__init__» noKeywords Builtin.Frozenset.updateFrom;generalize hPI:pyIter=PI;wp_walk;subst hPI;refine Kn.iter .L hl2 (wpAny_bind (wpAny_runValue (fin _ _ (by simp [hh]) (by simp) fun h' tk z kp=>?_)));refine (show wpAny _ _ _ _ _ _ from wpAny_pure (show wpAny _ _ (ret Value.none) _ _ _ from wpAny_pure ⟨rfl,h',tk,rfl,z,kp⟩))
    ·have hl2:(s.heap.push (sob led)).IsTuple l items:=hl1;obtain ⟨ol,hol,hcl,nl,hdl⟩:=hl1;obtain ⟨ocls,odict,odata,oslots⟩:=ol;simp only at hcl hdl;subst hcl;subst hdl;have hsls:=F.sub_tuple_set;have hslf:=F.sub_tuple_frozenset;have hne:(Value.type "tuple" == Value.type "dict")=false:=by decide
     unfold Builtin.«set.__init__» noKeywords Builtin.Frozenset.updateFrom;generalize hPI:pyIter=PI;wp_walk;subst hPI;refine Kn.iter .T hl2 (wpAny_bind (wpAny_runValue (fin _ _ (by simp [hh]) (by simp) fun h' tk z kp=>?_)));refine (show wpAny _ _ _ _ _ _ from wpAny_pure (show wpAny _ _ (ret Value.none) _ _ _ from wpAny_pure ⟨rfl,h',tk,rfl,z,kp⟩))
   ·cases r₂ with
    | error e=>exact hr₂
    | ok fl₂ =>
     cases fl₂ with
     | ret r =>
      obtain ⟨rfl,h',tk,rfl,hz,hk'⟩:=hr₂
      repeat (any_goals (first | assumption | wp_step))
      exact q _ _ hz hk'
     | _=>exact hr₂.elim
  | _=>exact hr.elim
def setOf8:List Nat→Nat→Nat
 | [],b=>b
 | k :: l,b=>setOf8 l (ins8 b k)
theorem setOf8_app:∀(l:List Nat) (k b:Nat),setOf8 (l++[k]) b=ins8 (setOf8 l b) k
 | [],_,_=>rfl
 | j :: l,k,b=>setOf8_app l k (ins8 b j)
theorem lst8_zero:lst8 0=[]:=by decide
theorem sm_fresh(led:Bool)(h:Heap)(a:Addr)(e:h.get? a=some (sob led)):SmSet led h a 0:=by
 refine ⟨by decide,#[],0,_,e,⟨by rw [lst8_zero];rfl,fun i k hk=>by rw [lst8_zero] at hk;cases hk⟩,?_⟩;exact ⟨by rw [lst8_zero];rfl,rfl,rfl,rfl,.inl ⟨rfl,by rw [lst8_zero];decide⟩⟩
theorem sm_call{l:Addr}{items:List Value}{ks:List Nat}{Q:Value→Shared→Prop}(hh:A.handled=none)(hl:s.heap.IsList l items.toArray)(hi:IntsAre items (ks.map fun k:Nat=>(k:Int)))(h8:∀k∈ks,k < 8)
  (q:∀h' tk,SmSet (!byTx w) h' s.heap.objs.size (setOf8 ks 0)→(∀b o,b < s.heap.objs.size→s.heap.get? b=some o→h'.get? b=some o)→Q (.ref s.heap.objs.size) { s with heap:=h',toks:=tk }):wpAny (model prog w) A (call (.type "set") [.ref l]) Q E s:=by
 have li:items.length=ks.length:=by have:=IntsAre.length hi;rw [List.length_map] at this;exact this
 refine set_callL .L (items:=items.toArray) hh hl (fun i h=>SmSet (!byTx w) h s.heap.objs.size (setOf8 (ks.take i) 0)) (fun h e _=>by simpa [setOf8] using sm_fresh _ h _ e) (fun i h h' z k=>z.keep fun o e=>k _ o (Nat.ne_of_lt (Nat.lt_succ_self _)) e) (fun A' i v s' Q' E' _ hlt hv z hq=>?_) (fun h' tk z k=>q h' tk (by simpa [li] using z) k);have lt:i < ks.length:=by rw [← li];simpa using hlt
 have hk:=h8 _ (List.getElem_mem lt)
 obtain ⟨u,rfl⟩:∃u,v = .int ((ks[i]:Nat):Int) u:=by
  have:∀{vs:List Value} {ns:List Int} (i:Nat),IntsAre vs ns→∀v,vs[i]? = some v→∃n u,ns[i]? = some n∧v = .int n u:=by
   intro vs ns i h
   induction h generalizing i with
   | nil=>intro v e;cases e
   | cons n t r ih =>
    intro v e;cases i with
    | zero=>cases e;exact ⟨n,t,rfl,rfl⟩
    | succ i=>exact ih i v e
  obtain ⟨n,u,e1,e2⟩:=this i hi v (by simpa using hv);rw [List.getElem?_map,List.getElem?_eq_getElem lt] at e1;cases e1;exact ⟨u,e2⟩
 refine sm_add z hk fun h' r tk sm z'=>?_
 refine hq r h' tk ?_ fun b hb=>?_
 ·show SmSet _ h' _ (setOf8 (ks.take (i+1)) 0);rw [List.take_add_one,List.getElem?_eq_getElem lt];show SmSet _ h' _ (setOf8 (ks.take i++[ks[i]]) 0);rw [setOf8_app];exact z'
 ·exact sm.2 b hb
end
namespace F7
theorem entry_set_iter:entryFor table "set.__iter__" = some Builtin.«frozenset.__iter__»:=entryFor_alias (id':="frozenset.__iter__") (by kernel_rfl) (by first | rfl | decide +kernel | (unfold String.splitOn;simp +decide [String.splitOnAux])) (by decide +kernel) (by kernel_rfl)
theorem slot_next:Slot "set_iterator" "__next__" "set_iterator.__next__":=.of (owner:="set_iterator") (n:="__next__") (by rw [typeLookup_type,builtinLookup_eq_fast];kernel_rfl) (by decide +kernel) (by decide +kernel) (by decide +kernel) (by first | exact .inl (by decide +kernel) | exact .inr (by decide +kernel)) (by rw [isSubtype_type];kernel_rfl)
theorem entry_next:entryFor table "set_iterator.__next__" = some Builtin.«set_iterator.__next__»:=entryFor_of_tree (by kernel_rfl)
theorem args_next (a:Value):argsOk "set_iterator.__next__" ⟨[a],[]⟩:=by unfold argsOk;kernel_rfl
theorem slot_iter:Slot "set_iterator" "__iter__" "set_iterator.__iter__":=.of (owner:="set_iterator") (n:="__iter__") (by rw [typeLookup_type,builtinLookup_eq_fast];kernel_rfl) (by decide +kernel) (by decide +kernel) (by decide +kernel) (by first | exact .inl (by decide +kernel) | exact .inr (by decide +kernel)) (by rw [isSubtype_type];kernel_rfl)
theorem entry_iter:entryFor table "set_iterator.__iter__" = some Builtin.«dict_keyiterator.__iter__»:=entryFor_alias (id':="dict_keyiterator.__iter__") (by kernel_rfl) (by first | rfl | decide +kernel | (unfold String.splitOn;simp +decide [String.splitOnAux])) (by decide +kernel) (by kernel_rfl)
theorem args_iter (a:Value):argsOk "set_iterator.__iter__" ⟨[a],[]⟩:=by unfold argsOk;kernel_rfl
end F7
def SIt (h:Heap) (I S:Addr) (sl i n ep:Nat):Prop:=∃o,h.get? I=some o∧o.cls = .type "set_iterator"∧o.data = .fields #[.int (sl:Int) 0,.int (i:Int) 0,.ref S,.int (n:Int) 0,.int (ep:Int) 0]
def SRaw (h:Heap) (S:Addr) (es:Array (Int×Value)) (ep:Nat) (t:SetTable):Prop:=h.get? S=some { cls:=.type "set",dict:=none,data:=.set es ep t,slots:=#[] }
section
variable{prog:Program}{w:World}{A:Around}{E:Value→Shared→Prop}{s:Shared}{S I:Addr}{es:Array (Int×Value)}{ep:Nat}{t:SetTable}
theorem sm_iter {Q:Value→Shared→Prop} (m:SRaw s.heap S es ep t) (hf:t.fits es.size=true) (pl:t.plain=true) (q:Q (.ref s.heap.objs.size) { s with heap:=s.heap.push { cls:=.type "set_iterator",data:=.fields #[.int 0 0,.int 0 0,.ref S,.int (es.size:Int) 0,.int (ep:Int) 0] } }) :
  wpAny (model prog w) A (pyIter (.ref S)) Q E s:=by
 have ty:s.TypeIs (.ref S) "set":=⟨_,m,rfl⟩
 refine wpAny_pyIter_slot ty F.slot_set_iter (wpAny_call_entry F.slot_set_iter ty F7.entry_set_iter ?_ (F.args_set_iter_1 _));unfold Builtin.«frozenset.__iter__»;refine wpAny_bind (wpAny_of_eq (a:=S) rfl ?_);unfold Builtin.Frozenset.sizeOf;refine wpAny_bind (wpAny_bind (wpAny_setEntries_of m rfl hf (wpAny_pure ?_)));rw [show setDrawn S=(do let x ← setState S;let b ← setsByText;return !b && (!x.2.2.plain && decide (x.1.size > 1))) from rfl];refine wpAny_bind (wpAny_bind (wpAny_setState_of m rfl hf ?_));unfold setsByText;refine wpAny_bind (wpAny_bind (wpAny_askSetting (wpAny_pure (wpAny_pure ?_))));dsimp only;rw [pl,show (!(model prog w).w.params.followText "set-order" && (!true && decide (es.size > 1)))=false by simp,if_neg (by simp)];refine wpAny_bind (wpAny_pure (wpAny_bind (wpAny_setEpoch_of m rfl hf ?_)));refine wpAny_bind (wpAny_newObj_type (wpAny_pure ⟨_,rfl,"set_iterator",_,⟨_,Heap.get?_push_size _ rfl,rfl⟩,F7.slot_next.lookup,?_⟩));simpa [rawInt] using q
theorem sm_next{sl i:Nat}{Q:Option Value→Shared→Prop}(it:SIt s.heap I S sl i es.size ep)(m:SRaw s.heap S es ep t)(hf:t.fits es.size=true) :
  (∀v nx,(∀(R:Option (Value×Nat)→Shared→Prop) (E':Value→Shared→Prop),R (some (v,nx)) s→wpAny (model prog w) A.in1 (setNext S sl i ep) R E' s)→(∀h',SIt h' I S nx (i+1) es.size ep→Heap.SameBut I s.heap h'→Q (some v) { s with heap:=h' })→wpAny (model prog w) A (pyNext (.ref I)) Q E s) ∧
  (A.handled=none→(∀(R:Option (Value×Nat)→Shared→Prop) (E':Value→Shared→Prop),R none s→wpAny (model prog w) A.in1 (setNext S sl i ep) R E' s)→(∀h',Heap.ExtBut I s.heap h'→Q none { s with heap:=h' })→wpAny (model prog w) A (pyNext (.ref I)) Q E s):=by
 obtain ⟨o,ho,oc,od⟩:=id it;have ty:s.TypeIs (.ref I) "set_iterator":=⟨_,ho,oc⟩
 constructor
 ·intro v nx hn hq;unfold pyNext;refine wpAny_bind (wpAny_attempt (wpAny_callSpecial?_slot (name:=Str.ofString "__next__") ty F7.slot_next (wpAny_call_entry F7.slot_next ty F7.entry_next ?_ (F7.args_next _))));unfold Builtin.«set_iterator.__next__»;refine wpAny_bind (wpAny_pure (wpAny_bind (wpAny_fieldsOf ho od ?_)));dsimp only;refine wpAny_bind (wpAny_setEntries_of m rfl hf ?_);rw [if_neg (by simp)];simp only [Int.toNat_natCast];refine wpAny_bind (hn _ _ ?_);dsimp only;refine wpAny_bind (wpAny_setField ho od (by simp) ?_);have od1:(Obj.mapFields (·.setIfInBounds 0 (rawInt (nx:Int))) o).data = .fields #[.int (nx:Int) 0,.int (i:Int) 0,.ref S,.int (es.size:Int) 0,.int (ep:Int) 0]:=by rw [Obj.data_mapFields od];simp [rawInt]
  have ho1:(s.heap.update I (Obj.mapFields (·.setIfInBounds 0 (rawInt (nx:Int))))).get? I=some (Obj.mapFields (·.setIfInBounds 0 (rawInt (nx:Int))) o):=Heap.get?_update_self _ ho (Obj.isFreed_of_fields (Obj.data_mapFields od _));refine wpAny_bind (wpAny_setField (s:={ s with heap:=s.heap.update I (Obj.mapFields (·.setIfInBounds 0 (rawInt (nx:Int)))) }) ho1 od1 (by simp) ?_);have ho2:=Heap.get?_update_self (Obj.mapFields (·.setIfInBounds 1 (rawInt ((i:Int)+1)))) ho1 (Obj.isFreed_of_fields (Obj.data_mapFields od1 _));have k2:SIt ((s.heap.update I (Obj.mapFields (·.setIfInBounds 0 (rawInt (nx:Int))))).update I (Obj.mapFields (·.setIfInBounds 1 (rawInt ((i:Int)+1))))) I S nx (i+1) es.size ep:=⟨_,ho2,(Obj.cls_mapFields ..).trans ((Obj.cls_mapFields ..).trans oc),by rw [Obj.data_mapFields od1];simp [rawInt]⟩
  exact wpAny_pure ⟨_,rfl,wpAny_pure (hq _ k2 ((Heap.SameBut.update ..).trans (Heap.SameBut.update ..)))⟩
 ·intro hh hn hq;unfold pyNext;refine wpAny_bind (wpAny_attempt (wpAny_callSpecial?_slot (name:=Str.ofString "__next__") ty F7.slot_next (wpAny_call_entry F7.slot_next ty F7.entry_next ?_ (F7.args_next _))));unfold Builtin.«set_iterator.__next__»;refine wpAny_bind (wpAny_pure (wpAny_bind (wpAny_fieldsOf ho od ?_)));dsimp only;refine wpAny_bind (wpAny_setEntries_of m rfl hf ?_);rw [if_neg (by simp)];simp only [Int.toNat_natCast];refine wpAny_bind (hn _ _ ?_);dsimp only;refine wpAny_bind (wpAny_setField ho od (by simp) ?_);show wpAny _ _ (newExc (.type "StopIteration") [] >>= _) _ _ _;refine wpAny_bind ?_;simp only [newExc,newTuple];refine wpAny_bind (wpAny_newObj_type ?_ (by size_fits));refine wpAny_bind (m:=firstArgMember _ _) (wpAny_of_eq (a:=Value.none) (by simp only [firstArgMember];rfl) (wpAny_newObj_type ?_ (by size_fits)));simp only [raiseNew];refine wpAny_bind (wpAny_handled ?_);rw [show A.in1.handled=none from hh];refine wpAny_bind (wpAny_pure (wpAny_throw ?_));refine wpAny_bind (wpAny_isInstance (T:="StopIteration") (b:=true) ⟨_,Heap.get?_push_size _ rfl,rfl⟩ isSubtype_stop ?_);exact wpAny_pure (hq _ (((Heap.SameBut.update ..).extBut.push _).push _))
def ordE(w:World)(S:Addr)(ep:Nat)(es:Array (Int×Value)):Array (Int×Value):=if byTx w then pickOrder (w.params.setOrder S ep) es else es
def slotAt(w:World)(l:List Nat)(i:Nat):Nat:=if byTx w then 0 else if i=0 then 0 else l.getD (i - 1) 0+1
theorem below8:∀b < 256,∀i < 9,(lst8 b).length < i∨SetTable.below (lst8 b).toArray (if i=0 then 0 else (lst8 b).getD (i - 1) 0+1)=i:=by decide +kernel
theorem erase_perm{α : Type}:∀(l:List α) (i:Nat) (h:i < l.length),(l[i] :: l.eraseIdx i).Perm l
 | x :: l,0,_=>List.Perm.refl _
 | x :: l,i+1,h=>by
  have h':i < l.length:=Nat.lt_of_succ_lt_succ h;exact (List.Perm.swap x l[i] (l.eraseIdx i)).trans ((erase_perm l i h').cons x)
theorem pick_go{α : Type}(f:Nat→Nat):∀(n k:Nat) (left:List α) (out:Array α),n=left.length→(pickOrder.go f n k left out).toList.Perm (out.toList++left)
 | 0,k,left,out,h=>by
  have:left=[]:=List.length_eq_zero_iff.mp h.symm
  subst this;show out.toList.Perm (out.toList++[]);rw [List.append_nil]
 | n+1,k,left,out,h=>by
  have lt:f k % left.length < left.length:=Nat.mod_lt _ (by omega);unfold pickOrder.go;rw [List.getElem?_eq_getElem lt];refine (pick_go f n (k+1) _ _ (by rw [List.length_eraseIdx,if_pos lt];omega)).trans ?_;rw [Array.toList_push,List.append_assoc];refine List.Perm.append_left _ ?_;exact erase_perm left _ lt
theorem ord_perm{es:Array (Int×Value)}:(ordE w S ep es).toList.Perm es.toList:=by
 unfold ordE;split
 ·have:=pick_go (w.params.setOrder S ep) es.size 0 es.toList #[] (by simp)
  simpa [pickOrder] using this
 ·exact List.Perm.refl _
theorem ord_size{es:Array (Int×Value)}:(ordE w S ep es).size=es.size:=by
 have:=(ord_perm (w:=w) (S:=S) (ep:=ep) (es:=es)).length_eq
 simpa using this
theorem set_next{b i:Nat}{R:Option (Value×Nat)→Shared→Prop}{E':Value→Shared→Prop}(m:SRaw s.heap S es ep t)(hb:b < 256)(T:TR (!byTx w) t b)(hr:ER es (lst8 b))(hi:i≤es.size)(h:R ((ordE w S ep es)[i]?.map fun e=>(e.2,slotAt w (lst8 b) (i+1))) s) :
  wpAny (model prog w) A (setNext S (slotAt w (lst8 b) i) i ep) R E' s:=by
 have hf:=T.fits hb hr.1;have l8:=lst8_len b hb;unfold setNext;refine wpAny_bind (wpAny_setState_of m rfl hf ?_);dsimp only;unfold setsByText;refine wpAny_bind (wpAny_bind (wpAny_askSetting (wpAny_pure ?_)));cases bt:byTx w with
 | true =>
  have bt':(model prog w).w.params.followText "set-order" = true:=bt;dsimp only;rw [bt',if_pos rfl,if_neg (by simp)];unfold setWalk;refine wpAny_bind (wpAny_bind (wpAny_setState_of m rfl hf ?_));dsimp only;unfold setsByText;refine wpAny_bind (wpAny_bind (wpAny_askSetting (wpAny_pure ?_)));dsimp only;rw [bt',if_pos rfl];refine wpAny_bind (wpAny_askSetting (wpAny_pure (wpAny_pure ?_)));unfold ordE slotAt at h;rw [bt] at h;unfold slotAt;rw [bt];exact h
 | false =>
  have bt':(model prog w).w.params.followText "set-order" = false:=bt;dsimp only;rw [bt',if_neg (by simp)];have sl:slotAt w (lst8 b) i=if i=0 then 0 else (lst8 b).getD (i - 1) 0+1:=by unfold slotAt;rw [bt];rfl
  have sl2:slotAt w (lst8 b) (i+1)=(lst8 b).getD i 0+1:=by unfold slotAt;rw [bt];rfl
  have bl:SetTable.below t.place (slotAt w (lst8 b) i)=i:=by
   rw [sl,T.place];rcases below8 b hb i (by have:=hr.1;omega) with z | z
   ·have:=hr.1;omega
   ·exact z
  have eo:ordE w S ep es=es:=by unfold ordE;rw [bt];rfl
  rw [eo,sl2] at h;split
  ·rename_i z;have z2:(!t.plain && decide (es.size > 1))=true:=z;rw [T.plain] at z2;cases z2
  ·refine wpAny_bind (show wpAny _ _ (if (!t.led && !es.isEmpty)=true then unsupported "set:maker-not-led" else pure ()) _ _ _ from ?_);rw [T.led,bt,if_neg (by simp)];refine wpAny_pure (wpAny_pure ?_);rw [bl,T.place];by_cases li:i < es.size
   ·have l2:i < (lst8 b).length:=by rw [← hr.1];exact li
    obtain ⟨tk,et⟩:=hr.2 i _ (List.getElem?_eq_getElem l2);rw [et] at h ⊢;rw [List.getElem?_toArray,List.getElem?_eq_getElem l2];rw [List.getD_eq_getElem?_getD,List.getElem?_eq_getElem l2] at h;exact h
   ·have en:es[i]? = none:=Array.getElem?_eq_none (by omega);rw [en] at h ⊢;exact h
theorem sm_walks(hh:A.handled=none)(I S:Addr)(ne:S≠I){b:Nat}(hb:b < 256)(T:TR (!byTx w) t b)(hr:ER es (lst8 b)):Walks prog w A I [I,S] [I] es.size (fun i v=>∃e,(ordE w S ep es)[i]? = some e∧v=e.2) (fun i h=>SIt h I S (slotAt w (lst8 b) i) i es.size ep∧SRaw h S es ep t) where
 sub:=fun b hb=>by rw [List.mem_singleton.mp hb];simp
 frame:=fun _ _ _ st hk=>⟨by obtain ⟨o,e,r⟩:=st.1;exact ⟨o,hk I (by simp) o e,r⟩,hk S (by simp) _ st.2⟩
 item:=fun i s Q E hi st hq=>by
  have lo:(ordE w S ep es).size=es.size:=ord_size;have ei:(ordE w S ep es)[i]? = some (ordE w S ep es)[i]:=by simp [lo,hi]
  refine (sm_next st.1 st.2 (T.fits hb hr.1)).1 (ordE w S ep es)[i].2 (slotAt w (lst8 b) (i+1)) (fun R E' h=>set_next st.2 hb T hr (Nat.le_of_lt hi) (by rw [ei];exact h)) fun h' k1 k2=>?_
  exact hq _ h' s.toks ⟨_,ei,rfl⟩ ⟨k1,k2.extBut S _ ne st.2⟩ fun b o hb e=>k2.extBut b o (fun z=>hb (by simp [z])) e
 done:=fun s Q E st hq=>(sm_next st.1 st.2 (T.fits hb hr.1)).2 hh (fun R E' h=>set_next st.2 hb T hr (Nat.le_refl _) (by rw [show (ordE w S ep es)[es.size]? = none from Array.getElem?_eq_none (by rw [ord_size];exact Nat.le_refl _)];exact h)) fun h' k=>hq h' s.toks fun b o hb e=>k b o (fun z=>hb (by simp [z])) e
 self:=fun _ s _ _ st hq=>by
  obtain ⟨o,ho,oc,od⟩:=st.1;have ty:s.TypeIs (.ref I) "set_iterator":=⟨_,ho,oc⟩
  refine wpAny_pyIter_slot ty F7.slot_iter (wpAny_call_entry F7.slot_iter ty F7.entry_iter (show wpAny _ _ (ret (.ref I)) _ _ s from wpAny_pure ⟨_,rfl,"set_iterator",_,ty,F7.slot_next.lookup,hq⟩) (F7.args_iter _))
theorem hint_set {r:Addr} {Q:Bool→Shared→Prop} (hT:s.TypeIs (.ref r) "set") (h:Q false s):wpAny (model prog w) A (Builtin.List.listLengthHint (.ref r)) Q E s:=by
 unfold Builtin.List.listLengthHint;refine wpAny_bind (wpAny_specialOf hT PySem.F.slot_set_len.lookup ?_);generalize hid:("set.__len__" : String)=id0;wp_delta;rw [show splitId id0=some ("set","__len__") from by subst hid;decide +kernel];subst hid;refine wpAny_bind (wpAny_isInstance (T:="set") (b:=true) hT (by rw [isSubtype_type];kernel_rfl) ?_);refine wpAny_ite_split (fun hab=>absurd hab (by decide)) (fun _=>?_);refine wpAny_ite_split (fun _=>?_) (fun hab=>absurd (by decide +kernel) hab);refine wpAny_bind (wpAny_typeOf hT ?_);exact wpAny_pure h
theorem sm_src {b:Nat} (hb:b < 256) (T:TR (!byTx w) t b) (hr:ER es (lst8 b)):PySem.W.KdlSrc prog w "set" S S es.size (fun i v=>∃e,(ordE w S ep es)[i]? = some e∧v=e.2) (fun h=>SRaw h S es ep t) where
 type:=fun _ m=>⟨_,m,rfl⟩
 there:=fun _ m=>⟨Heap.lt_size m,Heap.lt_size m⟩
 keep:=fun _ _ m hk=>hk S (.inl rfl) _ m
 notList:=by decide
 notTuple:=by decide
 hint:=fun _ _ _ _ m q=>hint_set ⟨_,m,rfl⟩ q
 iter:=fun _ _ hh m=>⟨_,_,(fun _ _ q=>sm_iter m (T.fits hb hr.1) T.plain q),sm_walks hh _ S (Nat.ne_of_lt (Heap.lt_size m)) hb T hr,⟨⟨_,Heap.get?_push_size _ rfl,rfl,by unfold slotAt;simp⟩,Heap.get?_push_of_some _ m⟩⟩
theorem ints_of:∀{vs:List Value} {ns:List Int},vs.length=ns.length→(∀(j:Nat) (v:Value),vs[j]? = some v→∃n u,ns[j]? = some n∧v=Value.int n u)→IntsAre vs ns
 | [],[],_,_=>.nil
 | [],_ :: _,h,_=>by cases h
 | _ :: _,[],h,_=>by cases h
 | v :: vs,n :: ns,h,k=>by
  obtain ⟨n',u,e1,rfl⟩:=k 0 v rfl;cases e1;exact .cons n u (ints_of (by simpa using h) fun j v hj=>k (j+1) v hj)
theorem lst8_up:∀b < 256,((lst8 b).map fun k:Nat=>(k:Int)).Pairwise (· < ·):=by decide +kernel
theorem sorted_same:∀{a b:List Int},a.Perm b→a.Pairwise (·≤·)→b.Pairwise (· < ·)→a=b
 | [],b,p,_,_=>p.nil_eq
 | x :: a,[],p,_,_=>by have:=p.length_eq;cases this
 | x :: a,y :: b,p,h1,h2=>by
  obtain ⟨x1,x2⟩:=List.pairwise_cons.mp h1;obtain ⟨y1,y2⟩:=List.pairwise_cons.mp h2
  have e:x=y:=by
   have m1:y∈x :: a:=p.mem_iff.mpr List.mem_cons_self;have m2:x∈y :: b:=p.mem_iff.mp List.mem_cons_self;rcases List.mem_cons.mp m1 with e | m1
   ·exact e.symm
   ·rcases List.mem_cons.mp m2 with e | m2
    ·exact e
    ·have:=x1 y m1
     have:=y1 x m2
     omega
  subst e;rw [sorted_same (List.Perm.cons_inv p) x2 y2]
theorem sm_sorted {b:Nat} {Q:Value→Shared→Prop} (hh:A.handled=none) (m:SmSet (!byTx w) s.heap S b) (q:∀(h1 h':Heap) (tk:Nat) (D:Addr) (vs:List Value) (c:Nat),(∀b o,s.heap.get? b=some o→h1.get? b=some o)→(∀b o,h1.get? b=some o→h'.get? b=some o)→h1.objs.size≤D→h'.get? D=some (seqObj "list" (List.toArray vs) c)→IntsAre vs ((lst8 b).map fun k:Nat=>(k:Int))→Q (.ref D) { s with heap:=h',toks:=tk }) :
  wpAny (model prog w) A (call (.builtin "sorted") [.ref S]) Q E s:=by
 obtain ⟨es,ep,t,e,hr,T⟩:=m.at_;have l8:=lst8_len b m.b8;have raw:SRaw s.heap S es ep t:=e;refine Calls.call_function_entry kind_sorted plain_sorted entry_sorted (args_sorted1 _) ?_;unfold Builtin.«sorted»;refine wpAny_bind (m:=checkCount "sorted" 1 1 _) (wpAny_pure ?_);refine wpAny_bind (PySem.W.kdu_collect (A:=A.in1) (sm_src m.b8 T hr) hh raw (by rw [hr.1,sizeLine_eq];omega) fun h' tk acc hk hacc=>?_);have la:acc.size=es.size:=hacc.1;have lo:(ordE w S ep es).size=es.size:=ord_size
 have ent:∀e∈es.toList,∃(k:Int) (tk:Tok),e=(k,Value.int k tk):=fun e he=>by
  obtain ⟨i,li,ei⟩:=List.mem_iff_getElem.mp he;have l2:i < (lst8 b).length:=by rw [← hr.1];simpa using li
  obtain ⟨tk,et⟩:=hr.2 i _ (List.getElem?_eq_getElem l2);have e2:es.toList[i]? = some e:=by rw [List.getElem?_eq_getElem li,ei]
  rw [Array.getElem?_toList,et] at e2;cases e2;exact ⟨_,tk,rfl⟩
 have hs:es.toList.map (·.1)=(lst8 b).map fun k:Nat=>(k:Int):=by
  apply List.ext_getElem?;intro i;rw [List.getElem?_map,List.getElem?_map,Array.getElem?_toList];by_cases li:i < (lst8 b).length
  ·obtain ⟨tk,et⟩:=hr.2 i _ (List.getElem?_eq_getElem li);rw [et,List.getElem?_eq_getElem li];rfl
  ·rw [Array.getElem?_eq_none (by rw [hr.1];omega),List.getElem?_eq_none (by omega)];rfl
 have hI:IntsAre acc.toList ((ordE w S ep es).toList.map (·.1)):=ints_of (by rw [Array.length_toList,List.length_map,Array.length_toList,la,lo]) fun j v hj=>by
  rw [Array.getElem?_toList] at hj;obtain ⟨e,e1,e2⟩:=hacc.2 j v hj;obtain ⟨k,tk,rfl⟩:=ent e (ord_perm.mem_iff.mp (List.mem_of_getElem? (by rw [Array.getElem?_toList];exact e1)));exact ⟨_,tk,by rw [List.getElem?_map,Array.getElem?_toList,e1];rfl,e2⟩
 have l64:acc.toList.length < 64:=by rw [Array.length_toList,la,hr.1];omega
 refine wpAny_bind (wpAny_newList ?_ (by rw [sizeLine_eq];omega));have hoL:(h'.push (seqObj "list" acc.toList.toArray 0)).get? h'.objs.size=some (seqObj "list" acc.toList.toArray 0):=Heap.get?_push_size _ rfl;refine wpAny_bind (wpAny_holding (wpAny_call_entry (s:={ s with heap:=h'.push (seqObj "list" acc.toList.toArray 0),toks:=tk }) slot_list_sort ⟨_,hoL,rfl⟩ entry_list_sort (list_sort_tree hoL hI l64 fun out ns' i' p' pw=>⟨_,rfl,?_⟩) (args_list_sort _)));have en:ns'=(lst8 b).map fun k:Nat=>(k:Int):=sorted_same (p'.trans (by rw [← hs];exact ord_perm.map _)) pw (lst8_up b m.b8)
 subst en
 have keep2:∀c o,c≠h'.objs.size→(h'.push (seqObj "list" acc.toList.toArray 0)).get? c=some o→(sortedHeap (h'.push (seqObj "list" acc.toList.toArray 0)) h'.objs.size acc.toList out).get? c=some o:=fun c o hc e2=>by
  unfold sortedHeap;rw [Heap.get?_update_ne _ _ _ _ hc];exact Heap.get?_push_of_some _ (Heap.get?_push_of_some _ (by rw [Heap.get?_update_ne _ _ _ _ hc];exact e2))
 obtain ⟨e1,ho1⟩:∃e1,((h'.push (seqObj "list" acc.toList.toArray 0)).update h'.objs.size (Obj.mapSeq fun _=>(#[]:Array Value))).get? h'.objs.size=some (seqObj "list" #[] e1):=⟨_,get?_update_seq hoL fun _=>#[]⟩
 obtain ⟨c2,ho2⟩:∃c2,(sortedHeap (h'.push (seqObj "list" acc.toList.toArray 0)) h'.objs.size acc.toList out).get? h'.objs.size=some (seqObj "list" out c2):=⟨_,get?_update_seq (Heap.get?_push_of_some _ (Heap.get?_push_of_some _ ho1)) fun _=>out⟩
 exact wpAny_pure ⟨_,rfl,q h' _ tk h'.objs.size out.toList c2 hk (fun c o e2=>keep2 c o (Nat.ne_of_lt (Heap.lt_size e2)) (Heap.get?_push_of_some _ e2)) (Nat.le_refl _) (by simpa using ho2) i'⟩
end
end L2
namespace L2
open PySem PySem.Spec PyProof.Rows
open PySem.W (Dat)
theorem setOf8_mem:∀(ks:List Nat) (b:Nat),b < 256→(∀k∈ks,k < 8)→∀j,j∈lst8 (setOf8 ks b)↔j∈lst8 b∨j∈ks
 | [],b,_,_,j=>by simp [setOf8]
 | k :: ks,b,h,g,j=>by
  have hk:=g k List.mem_cons_self;rw [setOf8,setOf8_mem ks (ins8 b k) (ins8_lt b h k hk) (fun j hj=>g j (List.mem_cons_of_mem _ hj)) j,List.mem_cons]
  have:j∈lst8 (ins8 b k)↔j∈lst8 b∨j=k:=by
   by_cases j8:j < 8
   ·have:=ins8_has b h k hk j j8
    rw [Bool.eq_iff_iff] at this;simpa using this
   ·exact ⟨fun z=>absurd (lst8_lt _ _ z) j8,fun z=>by
     rcases z with z | z
     ·exact absurd (lst8_lt _ _ z) j8
     ·exact absurd (z ▸ hk) j8⟩
  rw [this];constructor
  ·rintro ((z | z) | z)
   ·exact .inl z
   ·exact .inr (.inl z)
   ·exact .inr (.inr z)
  ·rintro (z | z | z)
   ·exact .inl (.inl z)
   ·exact .inl (.inr z)
   ·exact .inr z
def upto8(ks:List Nat):List Nat:=(List.range 8).filter fun k=>ks.contains k
theorem setOf8_up{ks:List Nat}(g:∀k∈ks,k < 8):lst8 (setOf8 ks 0)=upto8 ks:=by
 unfold upto8;have e:=setOf8_mem ks 0 (by decide) g;unfold lst8 at e ⊢;refine List.filter_congr fun k hk=>?_
 have:=e k
 rw [List.mem_filter] at this;rw [Bool.eq_iff_iff,List.contains_iff_mem];refine ⟨fun z=>?_,fun z=>(this.mpr (.inr z)).2⟩;rcases this.mp ⟨hk,z⟩ with y | y
 ·rw [List.mem_filter] at y;simp at y
 ·exact y
theorem vals_is8{vs:List Value}{ns:List Int}(h:IntsAre vs ns):Vals (ns.map V.int) vs:=by
 induction h with
 | nil=>exact .nil
 | cons n t r ih=>exact .cons ⟨t,rfl⟩ ih
section
variable{X:Cx}
def rSortSet(K:Fg):V→Hp→VK→Prop:=fun x H Q=>∃(a:Addr) (ks:List Nat),x = .ref a∧SqL K H a (ks.map fun k:Nat=>.int (k:Int))∧(∀k∈ks,k < 8)∧∀l,H l=none→Q (.ref l) (upd H l (.lst ((upto8 ks).map fun k:Nat=>.int (k:Int))))
def tSortSet(K:Fg)(te:TE):TE:=fun σ H Q=>te σ H fun x H1=>rSortSet K x H1 Q
theorem pe_sortset {e:Expr} {te:TE} {p p2 pos pos2:Pos} (hc:X.calm=true) (hgl:Gl X "sorted") (hml:X.mg "sorted" = none) (hgs:Gl X "set") (hms:X.mg "set" = none) (he:PE X e te)
  (hs:starEach [e] X.env=[(false,eval e X.env)]:=by rfl) (hs2:starEach [Expr.Call (.Name "set" p2) [e] [] pos2] X.env=[(false,eval (.Call (.Name "set" p2) [e] [] pos2) X.env)]:=by rfl) :
  PE X (.Call (.Name "sorted" p) [.Call (.Name "set" p2) [e] [] pos2] [] pos) (tSortSet X.K te):=by
 intro pins s σ H Q I h;refine wpAny_Call_Name_kw (ld_blt I hgl hml bb_sorted ?_);refine PyProof.Rows.callWith_builtin1 ?_ hs2 rfl;rw [hs2];refine (show wpAny _ _ (spliced ((false,eval (.Call (.Name "set" p2) [e] [] pos2) X.env) :: backTo pos [])) _ _ s from Calls.spliced_cons ?_);refine wpAny_Call_Name_kw (ld_blt I hgs hms bb_set ?_);refine PyProof.Rows.callWith_type1 ?_ hs rfl;rw [hs];refine (show wpAny _ _ (spliced ((false,eval e X.env) :: backTo pos2 [])) _ _ s from Calls.spliced_cons (thn (he pins s σ H _ I h) fun u s1 ⟨x,H1,I1,r1,q1⟩=>Calls.spliced_nil ?_));obtain ⟨a,ks,rfl,hq,g8,q⟩:=q1;cases r1;obtain ⟨its,rv,pl,_⟩:=I1.list hq;have hl:s1.heap.IsList a its.toArray:=pl.isList;have hi:IntsAre its (ks.map fun k:Nat=>(k:Int)):=intsAre_of (by rw [List.map_map];exact rv);have hh:=I1.ok.hd hc;refine sm_call hh hl hi g8 fun h' tk sm kp=>Calls.spliced_nil ?_
 refine sm_sorted (s:={ s1 with heap:=h',toks:=tk }) hh sm fun h1 h2 tk2 D vs c k1 k2 lD eD iD=>?_
 have keep:∀b o,s1.heap.get? b=some o→h2.get? b=some o:=fun b o e=>k2 b o (k1 b o (kp b o (Heap.lt_size e) e))
 rw [setOf8_up g8] at iD;have l8:(upto8 ks).length≤8:=by unfold upto8;exact List.length_filter_le _ _
 have lS:s1.heap.objs.size≤D:=by
  obtain ⟨es,ep,t,e,_⟩:=sm.at_
  have:=Heap.lt_size (k1 _ _ e)
  exact Nat.le_trans (Nat.le_of_lt this) lD
 refine ⟨.ref D,_,I1.laid (t':=tk2) (o:=.lst ((upto8 ks).map fun k:Nat=>.int (k:Int))) keep lS ⟨?_,vs,c,?_,eD⟩,rfl,q D (I1.hok.fresh lS)⟩
 ·rw [List.length_map,sizeLine_eq];omega
 ·have:=vals_is8 iD
  rw [List.map_map] at this;exact this
def rSortI(K:Fg):List V→Hp→VK→Prop:=fun xs H Q=>∃(a:Addr) (ns:List Int),xs=[.ref a]∧SqL K H a (ns.map V.int)∧ns.length < 64∧∀(l:Addr) (ms:List Int),H l=none→ms.Perm ns→ms.Pairwise (·≤·)→Q (.ref l) (upd H l (.lst (ms.map V.int)))
theorem call_sortI:CallR X (.builtin "sorted") (rSortI X.K):=by
 intro pins s σ H xs us Q I r h;obtain ⟨a,ns,rfl,hq,h64,q⟩:=h;obtain ⟨u,rfl,ru⟩:=vals1 r;cases ru;obtain ⟨its,rv,pl,_⟩:=I.list hq;have hl:s.heap.IsList a its.toArray:=pl.isList;have hi:IntsAre its ns:=intsAre_of rv;have le:its.length=ns.length:=hi.length;refine Calls.call_function_entry kind_sorted plain_sorted entry_sorted (args_sorted1 _) ?_;unfold Builtin.«sorted»;refine wpAny_bind (m:=checkCount "sorted" 1 1 _) (wpAny_pure ?_);refine wpAny_bind (collect_list hl ?_ (by rw [sizeLine_eq];omega));refine wpAny_bind (wpAny_newList ?_ (by rw [sizeLine_eq];omega))
 have hsz:((s.heap.push (seqObj "list" #[] 0)).update s.heap.objs.size (Obj.mapSeq (· ++ its.toArray))).objs.size=s.heap.objs.size+1:=by
  rw [Heap.size_update,size_push']
 have hoL:(((s.heap.push (seqObj "list" #[] 0)).update s.heap.objs.size (Obj.mapSeq (· ++ its.toArray))).push (seqObj "list" its.toArray 0)).get? (s.heap.objs.size+1)=some (seqObj "list" its.toArray 0):=by
  rw [← hsz];exact Heap.get?_push_size _ rfl
 have keep:∀b o,s.heap.get? b=some o→(((s.heap.push (seqObj "list" #[] 0)).update s.heap.objs.size (Obj.mapSeq (· ++ its.toArray))).push (seqObj "list" its.toArray 0)).get? b=some o:=fun b o q=>by
  have hlt:b < s.heap.objs.size:=Heap.lt_size q;rw [Heap.get?_push_ne _ _ _ (by rw [hsz];exact Nat.ne_of_lt (Nat.lt_succ_of_lt hlt)),Heap.get?_update_ne _ _ _ _ (Nat.ne_of_lt hlt),Heap.get?_push_ne _ _ _ (Nat.ne_of_lt hlt)];exact q
 show wpAny _ _ _ _ _ { s with heap:=((s.heap.push (seqObj "list" #[] 0)).update s.heap.objs.size (Obj.mapSeq (· ++ its.toArray))).push (seqObj "list" its.toArray 0) };rw [hsz];generalize ((s.heap.push (seqObj "list" #[] 0)).update s.heap.objs.size (Obj.mapSeq (· ++ its.toArray))).push (seqObj "list" its.toArray 0)=h1 at hoL keep ⊢;refine wpAny_bind (wpAny_holding (wpAny_call_entry (s:={ s with heap:=h1 }) slot_list_sort ⟨_,hoL,rfl⟩ entry_list_sort (list_sort_tree hoL hi (by omega) fun out ns' i' p' pw=>⟨_,rfl,?_⟩) (args_list_sort _)))
 have keep2:∀c o,c≠s.heap.objs.size+1→h1.get? c=some o→(sortedHeap h1 (s.heap.objs.size+1) its out).get? c=some o:=fun c o hc e2=>by
  unfold sortedHeap;rw [Heap.get?_update_ne _ _ _ _ hc];exact Heap.get?_push_of_some _ (Heap.get?_push_of_some _ (by rw [Heap.get?_update_ne _ _ _ _ hc];exact e2))
 obtain ⟨e1,ho1⟩:∃e1,(h1.update (s.heap.objs.size+1) (Obj.mapSeq fun _=>(#[]:Array Value))).get? (s.heap.objs.size+1)=some (seqObj "list" #[] e1):=⟨_,get?_update_seq hoL fun _=>#[]⟩
 obtain ⟨c2,ho2⟩:∃c2,(sortedHeap h1 (s.heap.objs.size+1) its out).get? (s.heap.objs.size+1)=some (seqObj "list" out c2):=⟨_,get?_update_seq (Heap.get?_push_of_some _ (Heap.get?_push_of_some _ ho1)) fun _=>out⟩
 refine wpAny_pure ⟨_,rfl,.ref (s.heap.objs.size+1),_,I.laid (t':=s.toks) (o:=.lst (ns'.map V.int)) (fun b o e=>keep2 b o (fun z=>?_) (keep b o e)) (Nat.le_succ _) ⟨?_,out.toList,c2,vals_is8 i',by simpa using ho2⟩,rfl,q _ ns' (I.hok.fresh (Nat.le_succ _)) p' pw⟩
 ·rw [z] at e;exact absurd (Heap.lt_size e) (Nat.not_lt.mpr (Nat.le_succ _))
 ·rw [List.length_map,p'.length_eq,sizeLine_eq];omega
def tListRange(te:TE):TE:=fun σ H Q=>te σ H fun x H1=>∃n:Nat,x = .int (n:Int)∧n≤1000∧∀l,H1 l=none→Q (.ref l) (upd H1 l (.lst ((List.range n).map fun k:Nat=>.int (k:Int))))
theorem pe_listrange {e:Expr} {te:TE} {p p2 pos pos2:Pos} (hc:X.calm=true) (hgl:Gl X "list") (hml:X.mg "list" = none) (hgs:Gl X "range") (hms:X.mg "range" = none) (he:PE X e te)
  (hs:starEach [e] X.env=[(false,eval e X.env)]:=by rfl) (hs2:starEach [Expr.Call (.Name "range" p2) [e] [] pos2] X.env=[(false,eval (.Call (.Name "range" p2) [e] [] pos2) X.env)]:=by rfl) :
  PE X (.Call (.Name "list" p) [.Call (.Name "range" p2) [e] [] pos2] [] pos) (tListRange te):=by
 intro pins s σ H Q I h;refine wpAny_Call_Name_kw (ld_blt I hgl hml bb_list ?_);refine PyProof.Rows.callWith_type1 ?_ hs2 rfl;rw [hs2];refine (show wpAny _ _ (spliced ((false,eval (.Call (.Name "range" p2) [e] [] pos2) X.env) :: backTo pos [])) _ _ s from Calls.spliced_cons ?_);refine wpAny_Call_Name_kw (ld_blt I hgs hms boot_range ?_);refine PyProof.Rows.callWith_type1 ?_ hs rfl;rw [hs];refine (show wpAny _ _ (spliced ((false,eval e X.env) :: backTo pos2 [])) _ _ s from Calls.spliced_cons (thn (he pins s σ H _ I h) fun u s1 ⟨x,H1,I1,r1,q1⟩=>Calls.spliced_nil ?_));obtain ⟨n,rfl,hn,q⟩:=q1;obtain ⟨t,rfl⟩:=r1;refine call_range_1 (Calls.spliced_nil ?_);refine call_list_range (n:=n) (I1.ok.hd hc) (IsRange.new ..) (small_one (by omega) (by omega) (by omega) (by omega)) (by rw [rangeSize_nat];omega) (by omega) fun h' tk acc c kp ha hit=>?_
 have hsz:(s1.heap.push { cls:=.type "range",data:=.fields #[.int 0 s1.toks,.int (n:Int) t,.int 1 (s1.toks+1)] }).objs.size=s1.heap.objs.size+1:=size_push' _ _
 have hi:IntsAre acc.toList ((List.range n).map fun k:Nat=>(k:Int)):=ints_of (by rw [Array.length_toList,List.length_map,List.length_range];exact hit.1) fun j v hj=>by
  rw [Array.getElem?_toList] at hj;obtain ⟨u,e2⟩:=hit.2 j v hj
  have lj:j < n:=by
   have:=(Array.getElem?_eq_some_iff.mp hj).1
   rw [hit.1] at this;exact this
  exact ⟨_,u,by rw [List.getElem?_map,List.getElem?_range lj];rfl,by rw [e2];simp⟩
 have lS:s1.heap.objs.size≤(s1.heap.push { cls:=.type "range",data:=.fields #[.int 0 s1.toks,.int (n:Int) t,.int 1 (s1.toks+1)] }).objs.size:=by rw [hsz];exact Nat.le_succ _
 refine ⟨.ref _,_,I1.laid (t':=tk) (o:=.lst ((List.range n).map fun k:Nat=>.int (k:Int))) (fun b o e=>kp b o (Heap.get?_push_of_some _ e)) lS ⟨?_,acc.toList,c,?_,by rw [Array.toArray_toList];exact ha⟩,rfl,q _ (I1.hok.fresh lS)⟩
 ·rw [List.length_map,List.length_range,sizeLine_eq];omega
 ·have:=vals_is8 hi
  rw [List.map_map] at this;exact this
def rMax2:List V→Hp→VK→Prop:=fun xs H Q=>∃i j,xs=[.int i,.int j]∧Q (.int (if j > i then j else i)) H
end
end L2
namespace L2
open PySem PySem.Spec PyProof.Rows
open PySem.W (Dat)
section
variable{X:Cx}
end
end L2
namespace L2
open PySem PySem.Spec PyProof.Rows
section
variable{prog:Program}{w:World}{A:Around}{E:Value→Shared→Prop}{s:Shared}{z TI TO i1 i2 i3 l1 l2 l3:Addr}{xs ys zs:Array Value}{S1 S2 S3:Nat→Heap→Prop}{k:Nat}
end
section
variable{X:Cx}
end
section
variable{K:Fg}{te:TE}{σ : St}{Q:VK}{H:Hp}
end
end L2
namespace L2
open PySem PySem.Spec PyProof.Rows
open PySem.W (Dat)
end L2
namespace L2
open PySem PySem.Spec PyProof.Rows
open PySem.Builtin.Str (occurrences lastOccurrence strSub subAt partsBetween)
section
variable{X:Cx}
end
section
variable{X:Cx}
end
end L2
namespace L2
open PySem PySem.Spec PyProof.Rows PySem.W
end L2
set_option Elab.async false
set_option linter.all false
set_option maxRecDepth 100000
set_option maxHeartbeats 4000000
open L2
local macro_rules | `(tactic| walk_at "side")=>`(tactic| first
 | (show (0:Int) < _;omega)
 | (unfold CDiv;omega)
 | (unfold CMul;omega)
 | exact ⟨by decide,by decide,by decide⟩)
local macro_rules | `(tactic| walk_at "rd1")=>`(tactic| first
 | with_reducible refine k_seq ?_
 | with_reducible refine k_asg ?_
 | with_reducible refine k_gName ?_
 | ((with_reducible refine' k_var ?k1 ?_);(case k1=>exact rfl))
 | with_reducible refine k_c ?_
 | with_reducible refine k_op ?_
 | with_reducible refine k_rI0 ?_
 | with_reducible refine k_eqI ?_
 | with_reducible refine k_neI ?_
 | with_reducible refine k_eqS ?_
 | with_reducible refine k_eqB ?_
 | with_reducible refine k_neB ?_
 | with_reducible refine k_ifS ?_
 | with_reducible refine k_test ?_
 | with_reducible refine k_tB ?_
 | with_reducible refine k_bl ?_
 | with_reducible refine k_ret ?_
 | with_reducible refine k_next ?_
 | with_reducible refine k_drop ?_
 | with_reducible refine k_not ?_
 | with_reducible refine k_and ?_
 | with_reducible refine k_or ?_
 | with_reducible refine k_andV ?_
 | with_reducible refine k_orV ?_
 | with_reducible refine k_notV ?_
 | with_reducible refine k_if ?_
 | with_reducible refine k_chain ?_
 | with_reducible refine k_nil ?_
 | with_reducible refine k_cons ?_
 | with_reducible refine k_call ?_
 | with_reducible refine k_cB ?_
 | with_reducible refine k_tup ?_
 | with_reducible refine k_lst ?_
 | with_reducible refine k_un ?_
 | with_reducible refine k_rU ?_
 | with_reducible refine k_sl ?_
 | with_reducible refine k_noPart ?_
 | with_reducible refine k_part ?_
 | with_reducible refine k_int ?_
 | with_reducible refine k_retN ?_
 | with_reducible refine k_dput ?_
 | with_reducible refine k_revT ?_
 | with_reducible refine k_compG ?_
 | with_reducible refine k_compF ?_
 | with_reducible refine k_iStr ?_
 | with_reducible refine k_iSeq ?_
 | with_reducible refine k_isLT ?_
 | with_reducible refine k_enum ?_
 | with_reducible refine k_rev ?_
 | with_reducible refine k_dget ?_
 | with_reducible refine k_dnotIn ?_
 | with_reducible refine k_dget1 ?_
 | with_reducible refine k_par ?_
 | with_reducible refine k_fmtS ?_
 | with_reducible refine k_fmtI ?_
 | with_reducible refine k_jn ?_
 | with_reducible refine k_jn0 ?_
 | with_reducible refine k_zip ?_
 | with_reducible refine k_isN ?_
 | with_reducible refine k_notN ?_
 | with_reducible refine k_for ?_
 | with_reducible refine k_comp ?_
 | with_reducible refine k_rng1 ?_
 | with_reducible refine k_rng2 ?_
 | with_reducible refine k_iList ?_
 | with_reducible refine k_iTup ?_
 | with_reducible refine k_bm ?_
 | with_reducible refine k_bm0 ?_
 | with_reducible refine k_elt ?_
 | with_reducible refine k_gCons ?_
 | with_reducible refine k_gNil ?_
 | with_reducible refine k_break ?_
 | with_reducible refine k_cont ?_
 | with_reducible refine k_int1 ?_
 | with_reducible refine k_intB ?_
 | with_reducible refine k_abs ?_
 | with_reducible refine iteT ?_
 | with_reducible refine iteF ?_
 | with_reducible refine k_iteNT ?_
 | with_reducible refine k_iteNF ?_
 | with_reducible refine k_iteNNT ?_
 | with_reducible refine k_iteNNF ?_
 | ((with_reducible refine' k_rI ?k1 ?_);(case k1=>walk_at "side"))
 | ((with_reducible refine' k_r1F ?k1 ?_);(case k1=>(constructor <;> omega)))
 | ((with_reducible refine' k_r1C ?k1 ?_);(case k1=>(constructor <;> omega))))
local macro_rules | `(tactic| walk_at "rd")=>`(tactic| repeat walk_at "rd1")
namespace G1
open PySem L2 Fr
open PySem.W (Dat kqdOk)
abbrev ends(Q:VK):Ends:={ nx:=fun _ H'=>Q .non H',rt:=Q }
def HeapOk(n:Nat)(hs:List Int):Prop:=hs.length=n∧∀x∈hs,0≤x∧x≤3
abbrev dI(ns:List Int):Dat:=.tuple (ns.map Dat.int)
theorem AccZ.ints{K:Fg}{H0 H:Hp}{l:Addr}{ns:List Int}(A:AccZ K H0 l H (ns.map Dat.int)):H l=some (.lst (ns.map V.int)):=by
 obtain ⟨xs,h1,h2⟩:=A.at_;rw [RpL.ints_of h2] at h1;exact h1
theorem AccZ.strs{K:Fg}{H0 H:Hp}{l:Addr}{ns:List Str}(A:AccZ K H0 l H (ns.map Dat.str)):H l=some (.lst (ns.map V.str)):=by
 obtain ⟨xs,h1,h2⟩:=A.at_;rw [RpL.strs_of h2] at h1;exact h1
abbrev az:Str:="abcdefghijklmnopqrstuvwxyz"
theorem az_at:∀j:Nat,j < 26→az.cps.toList[j]? = some (97+j):=by decide +kernel
theorem az_len:az.length≤sizeLine:=by decide +kernel
theorem az_ix{i:Int}(h0:0≤i)(h1:i < 26):atI az.cps.toList i=some (97+i.toNat):=by
 have e:i=((i.toNat:Nat):Int):=by omega
 have q:=atI_nat (az_at i.toNat (by omega));rw [← e] at q;exact q
def Low(z:Str):Prop:=∀x∈z.cps.toList,97≤x∧x≤122
theorem cl_len(z:Str):z.cps.toList.length=z.length:=by simp [Str.length]
theorem low_one{c:Nat}(h0:97≤c)(h1:c≤122):Low ⟨#[c]⟩:=fun x hx=>by
 have:x=c:=by simpa using hx
 omega
theorem low_cut{z:Str}{lo hi:Option Int}(h:Low z):Low (scut z lo hi):=fun x hx=>by
 have q:x∈(hiL z.cps.toList hi).drop (lo.getD 0).toNat:=by simpa [scut] using hx
 have q2:=List.mem_of_mem_drop q;cases hi with
 | none=>exact h x q2
 | some j=>exact h x (List.mem_of_mem_take q2)
theorem scut_len(z:Str)(lo hi:Option Int):(scut z lo hi).length=(hiL z.cps.toList hi).length - (lo.getD 0).toNat:=by
 show (List.drop (lo.getD 0).toNat (hiL z.cps.toList hi)).toArray.size=_;rw [List.size_toArray,List.length_drop]
end G1
namespace G1
open PySem L2 Fr
open PySem.W (Dat kqdOk)
def WordOk(w:Str):Prop:=1≤w.length∧w.length≤8∧Low w
def WordsOk(ws:List Str):Prop:=ws.Nodup∧∀w∈ws,WordOk w
theorem nodup_snoc{α : Type}{xs:List α}{x : α}(h:xs.Nodup)(n:x∉xs):(xs++[x]).Nodup:=by
 rw [List.nodup_append];refine ⟨h,by simp,?_⟩;intro a ha b hb e;rw [List.mem_singleton.mp hb] at e;exact n (e ▸ ha)
theorem all_snoc{α : Type}{P : α→Prop}{xs:List α}{x : α}(h:∀y∈xs,P y)(n:P x):∀y∈xs++[x],P y:=fun y hy=>by
 rcases List.mem_append.mp hy with q | q
 ·exact h y q
 ·rw [List.mem_singleton.mp q];exact n
def PaceOk(q d:Int):Prop:=0 < q∧0 < d∧Gd.gd q d=1∧q≤10000000000∧d≤10000000000
def spLowP(K:Fg):Sp:=fun vs H Q _=>∃t b:Int,vs=[.int t,.int b]∧0 < t∧0 < b∧t≤10000000000∧b≤10000000000∧∀(p:Addr) (q d:Int) (H':Hp),Same H H'→PaceOk q d→Rz K H' (.ref p) (dI [q,d])→Q (.ref p) H'
theorem len_lowP{K:Fg}{vs:List V}{H:Hp}{Q:VK}{E:XK}{y z:Str}(h:spLowP K vs H Q E):vs.length=[y,z].length:=by
 obtain ⟨a,b,rfl,_⟩:=h;rfl
theorem ok_dI(ns:List Int)(n:Nat):kqdOk (n+1) (dI ns)=true:=by
 show ((ns.map Dat.int).all (kqdOk n))=true;rw [List.all_eq_true];intro x hx;obtain ⟨i,_,rfl⟩:=List.mem_map.mp hx;cases n <;> rfl
theorem dI_inj{a b:List Int}(h:dI a=dI b):a=b:=by
 have:=Dat.tuple.inj h
 exact (List.map_inj_right (fun x y e=>Dat.int.inj e)).mp this
theorem mem_dI{a:List Int}{hs:List (List Int)}:dI a∈hs.map dI↔a∈hs:=by
 rw [List.mem_map];constructor
 ·rintro ⟨b,hb,e⟩;rw [← dI_inj e];exact hb
 ·intro h;exact ⟨a,h,rfl⟩
def PoolOk(n:Nat)(hs:List (List Int)):Prop:=hs.Nodup∧∀h∈hs,HeapOk n h
end G1
namespace L2
open PySem PySem.W
end L2
namespace G1
open PySem L2 Fr
open PySem.W (Dat kqdOk)
structure Tn where
 fr:List Int
 to:List Int
 q:Int
 d:Int
def dT(t:Tn):Dat:=.tuple [dI t.fr,dI t.to,dI [t.q,t.d]]
def TurnOk(hs:List (List Int))(t:Tn):Prop:=t.fr∈hs∧t.to∈hs∧t.fr≠t.to∧PaceOk t.q t.d
def ends2(t:Tn):List Int×List Int:=(t.fr,t.to)
structure TurnsOk (hs:List (List Int)) (ts:List Tn):Prop where
 ne:ts≠[]
 le:ts.length≤8
 nd:(ts.map ends2).Nodup
 ok:∀t∈ts,TurnOk hs t
def dP(p:Nat×Nat):Dat:=dI [(p.1:Int),(p.2:Int)]
theorem dP_inj{a b:Nat×Nat}(h:dP a=dP b):a=b:=by
 have e:=dI_inj h;have e1:(a.1:Int)=b.1:=(List.cons.inj e).1;have e2:(a.2:Int)=b.2:=(List.cons.inj (List.cons.inj e).2).1;obtain ⟨a1,a2⟩:=a;obtain ⟨b1,b2⟩:=b;have e1':a1=b1:=Int.ofNat.inj e1;have e2':a2=b2:=Int.ofNat.inj e2;rw [e1',e2']
theorem mem_dP{a:Nat×Nat}{ps:List (Nat×Nat)}:dP a∈ps.map dP↔a∈ps:=by
 rw [List.mem_map];constructor
 ·rintro ⟨b,hb,e⟩;rw [← dP_inj e];exact hb
 ·intro h;exact ⟨a,h,rfl⟩
def PairOk(n:Nat)(p:Nat×Nat):Prop:=p.1 < n∧p.2 < n∧p.1≠p.2
def two(hs:List (List Int))(p:Nat×Nat):List Int×List Int:=(hs.getD p.1 [],hs.getD p.2 [])
structure Good (hs:List (List Int)) (ps:List (Nat×Nat)) (ts:List Tn):Prop where
 nd:ps.Nodup
 le:ps.length≤8
 eq:ts.map ends2=ps.map (two hs)
 ok:∀p∈ps,PairOk hs.length p
 pc:∀t∈ts,PaceOk t.q t.d
theorem getD_mem{hs:List (List Int)}{i:Nat}(h:i < hs.length):hs.getD i []∈hs:=by
 rw [List.getD_eq_getElem?_getD,List.getElem?_eq_getElem h];exact List.getElem_mem h
theorem getD_inj{hs:List (List Int)}(nd:hs.Nodup){i j:Nat}(hi:i < hs.length)(hj:j < hs.length)(e:hs.getD i []=hs.getD j []):i=j:=by
 rw [List.getD_eq_getElem?_getD,List.getElem?_eq_getElem hi,List.getD_eq_getElem?_getD,List.getElem?_eq_getElem hj] at e;have e':hs[i]=hs[j]:=e;have pw:=List.pairwise_iff_getElem.mp nd;rcases Nat.lt_trichotomy i j with z | z | z
 ·exact absurd e' (pw i j hi hj z)
 ·exact z
 ·exact absurd e'.symm (pw j i hj hi z)
theorem nodup_map_on{α β : Type}{f : α→β}:∀{xs:List α},xs.Nodup→(∀a∈xs,∀b∈xs,f a=f b→a=b)→(xs.map f).Nodup
 | [],_,_=>List.nodup_nil
 | x :: xs,h,hf=>by
  rw [List.map_cons,List.nodup_cons];refine ⟨fun hm=>?_,nodup_map_on (List.nodup_cons.mp h).2 fun a ha b hb=>hf a (List.mem_cons_of_mem _ ha) b (List.mem_cons_of_mem _ hb)⟩;obtain ⟨y,hy,e⟩:=List.mem_map.mp hm;rw [← hf y (List.mem_cons_of_mem _ hy) x List.mem_cons_self e] at h;exact (List.nodup_cons.mp h).1 hy
theorem Good.turns{hs:List (List Int)}{ps:List (Nat×Nat)}{ts:List Tn}(g:Good hs ps ts)(nd:hs.Nodup)(ne:ps≠[]):TurnsOk hs ts:=by
 have len:ts.length=ps.length:=by have:=congrArg List.length g.eq;simpa using this
 refine ⟨fun z=>?_,by rw [len];exact g.le,?_,fun t ht=>?_⟩
 ·rw [z] at len;exact ne (List.length_eq_zero_iff.mp len.symm)
 ·rw [g.eq];refine nodup_map_on g.nd fun a ha b hb e=>?_
  have oa:=g.ok a ha;have ob:=g.ok b hb;have e1:=getD_inj nd oa.1 ob.1 (congrArg Prod.fst e);have e2:=getD_inj nd oa.2.1 ob.2.1 (congrArg Prod.snd e);obtain ⟨a1,a2⟩:=a;obtain ⟨b1,b2⟩:=b;simp only at e1 e2;rw [e1,e2]
 ·have hm:ends2 t∈ps.map (two hs):=by rw [← g.eq];exact List.mem_map.mpr ⟨t,ht,rfl⟩
  obtain ⟨p,hp,e⟩:=List.mem_map.mp hm;have op:=g.ok p hp;have e1:hs.getD p.1 []=t.fr:=congrArg Prod.fst e;have e2:hs.getD p.2 []=t.to:=congrArg Prod.snd e;refine ⟨e1 ▸ getD_mem op.1,e2 ▸ getD_mem op.2.1,fun z=>op.2.2 ?_,g.pc t ht⟩;rw [← e1,← e2] at z;exact getD_inj nd op.1 op.2.1 z
structure VesOk (ws:List Str) (ts:List Tn):Prop where
 words:WordsOk ws
 w1:1≤ws.length
 w5:ws.length≤5
 turns:∃hs,PoolOk ws.length hs∧hs.length≤8∧TurnsOk hs ts
def dV(ws:List Str)(ts:List Tn):Dat:=.tuple [.tuple (ws.map Dat.str),.tuple (ts.map dT)]
end G1
namespace L2
open PySem PySem.Spec PyProof.Rows
open PySem.W (Dat kqdOk)
theorem kit_list_list {K:Fg}:PySem.W.kitOne K (.type "list") (.type "list")=some true:=by rfl
end L2
namespace Sm
open PySem L2 G1
open PySem.W (Dat kqdOk)
end Sm
namespace Vs
open PySem L2 Fr G1 Sm
open PySem.W (Dat kqdOk)
def insH(hs:List (List Int))(h:List Int):List (List Int):=if h∈hs then hs else hs++[h]
def hddF(hs:List (List Int))(ts:List Tn):List (List Int):=ts.foldl (fun hs t=>insH (insH hs t.fr) t.to) hs
def hdd(ts:List Tn):List (List Int):=hddF [] ts
theorem insH_len(hs:List (List Int))(h:List Int):(insH hs h).length≤hs.length+1:=by
 unfold insH;split
 ·omega
 ·simp
theorem hddF_len:∀(ts:List Tn) (hs:List (List Int)),(hddF hs ts).length≤hs.length+2*ts.length
 | [],hs=>by simp [hddF]
 | t :: ts,hs=>by
  have h1:=hddF_len ts (insH (insH hs t.fr) t.to);have h2:=insH_len (insH hs t.fr) t.to;have h3:=insH_len hs t.fr;show (hddF (insH (insH hs t.fr) t.to) ts).length≤_;rw [List.length_cons];omega
theorem hddF_snoc(hs:List (List Int))(ts:List Tn)(t:Tn):hddF hs (ts++[t])=insH (insH (hddF hs ts) t.fr) t.to:=by
 unfold hddF;rw [List.foldl_append];rfl
def toK(h:List Int):List Key:=h.map Sum.inl
theorem toK_kV(h:List Int):(toK h).map kV=h.map V.int:=by
 unfold toK;rw [List.map_map];rfl
theorem toK_inj{a b:List Int}(h:toK a=toK b):a=b:=(List.map_inj_right (fun x y e=>Sum.inl.inj e)).mp h
theorem putK_keys{kvs:List (List Key×V)}{hs:List (List Int)}(e:kvs.map (·.1)=hs.map toK)(h:List Int)(v:V):(putK kvs (toK h) v).map (·.1)=(insH hs h).map toK:=by
 have any:(kvs.any fun kv=>decide (kv.1=toK h))=decide (h∈hs):=by
  rw [Bool.eq_iff_iff,List.any_eq_true,decide_eq_true_iff];constructor
  ·rintro ⟨kv,hm,q⟩
   have:kv.1∈hs.map toK:=by rw [← e];exact List.mem_map.mpr ⟨kv,hm,rfl⟩
   obtain ⟨g,hg,eg⟩:=List.mem_map.mp this;rw [of_decide_eq_true q] at eg;rw [← toK_inj eg];exact hg
  ·intro hm
   have:toK h∈kvs.map (·.1):=by rw [e];exact List.mem_map.mpr ⟨h,hm,rfl⟩
   obtain ⟨kv,hk,ek⟩:=List.mem_map.mp this;exact ⟨kv,hk,decide_eq_true ek⟩
 unfold putK insH;rw [any];by_cases z:h∈hs
 ·rw [if_pos z,decide_eq_true z,if_pos rfl,List.map_map,← e];refine List.map_congr_left fun kv _=>?_
  show (if kv.1=toK h then (kv.1,v) else kv).1=kv.1;split <;> rfl
 ·rw [if_neg z,decide_eq_false z,if_neg Bool.false_ne_true,List.map_append,List.map_append,e];rfl
theorem keys_rz{K:Fg}{H:Hp}:∀{kvs:List (List Key×V)} {hs:List (List Int)} {bs:List Addr},kvs.map (·.1)=hs.map toK→Paired (fun (p:List Key×V) b=>H b=some (.tup (p.1.map kV))) kvs bs→RzL K H (bs.map V.ref) (hs.map dI)
 | [],[],_,_,.nil=>.nil
 | [],h :: hs,_,e,_=>by simp at e
 | kv :: kvs,[],_,e,_=>by simp at e
 | kv :: kvs,h :: hs,_,e,.cons q t=>by
  have e1:kv.1=toK h:=(List.cons.inj e).1;have e2:=(List.cons.inj e).2;rw [e1,toK_kV] at q;exact .cons (.tup q (RpL.ints h)) (keys_rz e2 t)
def spHeapsOf(K:Fg):Sp:=fun vs H Q _=>∃(v:V) (ts:List Tn),vs=[v]∧Rz K H v (.tuple (ts.map dT))∧ts.length≤100∧∀(p:Addr) (H':Hp),AccZ K H p H' ((hdd ts).map dI)→Q (.ref p) H'
theorem len_heapsOf{K:Fg}{vs:List V}{H:Hp}{Q:VK}{E:XK}{x:Str}(h:spHeapsOf K vs H Q E):vs.length=[x].length:=by
 obtain ⟨a,b,rfl,_⟩:=h;rfl
def t_heapsOf(K:Fg):TS:=(tSeq (tAsg tDNewT (gName 1))
 (tSeq (tFor (iTup K (tVar 0)) (gName 2)
 (tSeq (sDPut (tVar 1) (tOp (rIxT K) (tVar 2) (tC (.int 0))) (tC (.bl true)))
 (sDPut (tVar 1) (tOp (rIxT K) (tVar 2) (tC (.int 1))) (tC (.bl true)))))
 (tRet (tCB rListD (tCons (tVar 1) tNil)))))
theorem dT_at{K:Fg}{H:Hp}{v:V}{t:Tn}(h:Rz K H v (dT t)):∃(a:Addr) (v1 v2 v3:V),v = .ref a∧H a=some (.tup [v1,v2,v3])∧Rz K H v1 (dI t.fr)∧Rz K H v2 (dI t.to)∧Rz K H v3 (dI [t.q,t.d]):=by
 obtain ⟨a,xs,e,ha,r⟩:=h.tup_at;cases r with
 | cons r1 r =>
  cases r with
  | cons r2 r =>
   cases r with
   | cons r3 r =>
    cases r;exact ⟨a,_,_,_,e,ha,r1,r2,r3⟩
theorem dI_at{K:Fg}{H:Hp}{v:V}{ns:List Int}(h:Rz K H v (dI ns)):∃a:Addr,v = .ref a∧H a=some (.tup (ns.map V.int)):=by
 obtain ⟨a,xs,e,ha,r⟩:=h.tup_at;rw [RpL.ints_of r] at ha;exact ⟨a,e,ha⟩
theorem rd_heapsOf{K:Fg}{vs:List V}{H:Hp}{Q:VK}{E:XK}{N:List Str}(hN:N.length=3)(h:spHeapsOf K vs H Q E):t_heapsOf K (ends Q) (L2.start N vs) H:=by
 obtain ⟨v,ts,rfl,rv,hl,k⟩:=h;obtain ⟨a,xs,rfl,ha,rx⟩:=rv.tup_at;rw [show L2.start N [.ref a]=[some (.ref a),none,none] by unfold L2.start;rw [hN];rfl];have lx:xs.length=ts.length:=by rw [rx.length,List.length_map]
 unfold t_heapsOf;walk_at "rd";intro d nd;walk_at "rd";refine k_rtF (SqT.of ((same_new nd _) _ _ ha)) ?_;refine fat_tup (xs:=xs) (fun i σ H2=>∃(kvs:List (List Key×V)) (u:Option V),σ = [some (.ref a),some (.ref d),u]∧Same H H2∧H2 d=some (.dT kvs)∧kvs.map (·.1)=(hdd (ts.take i)).map toK) ⟨[],none,rfl,same_new nd _,upd_same,rfl⟩ ?_ ?_ ?_
 ·rintro i σ H2 _ ⟨kvs,u,rfl,S,ed,ek⟩;exact SqT.of (S _ _ ha)
 ·rintro i z σ H2 hz ⟨kvs,u,rfl,S,ed,ek⟩;obtain ⟨dd,g1,g2⟩:=rx.get hz;rw [List.getElem?_map] at g1;obtain ⟨t,ht,rfl⟩:=Option.map_eq_some_iff.mp g1;obtain ⟨at_,v1,v2,v3,rfl,hat,r1,r2,_⟩:=dT_at (g2.same S);obtain ⟨b1,rfl,hb1⟩:=dI_at r1;obtain ⟨b2,rfl,hb2⟩:=dI_at r2;have ti:i < ts.length:=(List.getElem?_eq_some_iff.mp ht).1;have kl:kvs.length=(hdd (ts.take i)).length:=by have:=congrArg List.length ek;simpa using this
  have hl2:=hddF_len (ts.take i) [];rw [List.length_take] at hl2;have kl2:kvs.length≤2*i:=by rw [kl];unfold hdd;simp only [List.length_nil] at hl2;omega
  have e1:=putK_keys ek t.fr (.bl true);have e2:=putK_keys e1 t.to (.bl true);have le1:=length_putK kvs (toK t.fr) (.bl true);have n1:b1≠d:=ne_of hb1 ed (by intro z;cases z);have n2:b2≠d:=ne_of hb2 ed (by intro z;cases z);have n3:at_≠d:=ne_of hat ed (by intro z;cases z);walk_at "rd";refine k_ixT (SqT.of hat) (v:=.ref b1) rfl ?_;refine ⟨d,_,rfl,DPut.t ed (k:=toK t.fr) (by rw [toK_kV];exact hb1) (small1000 (by omega)),?_⟩;walk_at "rd";refine k_ixT (SqT.of (by rw [upd_ne n3];exact hat)) (v:=.ref b2) rfl ?_;refine ⟨d,_,rfl,DPut.t upd_same (k:=toK t.to) (by rw [toK_kV,upd_ne n2];exact hb2) (small1000 (by omega)),?_⟩;rw [upd_upd];refine ⟨_,_,rfl,fun b o q=>?_,upd_same,?_⟩
  ·rw [upd_ne (ne_of_none q nd)];exact S _ _ q
  ·rw [e2];congr 1;have et:ts.take (i+1)=ts.take i++[t]:=by rw [List.take_add_one,ht];rfl
   rw [et];exact (hddF_snoc [] (ts.take i) t).symm
 ·rintro σ H2 ⟨kvs,u,rfl,S,ed,ek⟩;rw [lx,List.take_of_length_le (Nat.le_refl _)] at ek;walk_at "rd";refine ⟨d,kvs,rfl,ed,fun l bs nl pr=>?_⟩;have S2:=same_new nl (.lst (bs.map V.ref));exact k l _ ⟨S.trans S2,S.free nl,_,upd_same,(keys_rz ek pr).same S2⟩
def spHeaps(K:Fg):Sp:=fun vs H Q _=>∃(v:V) (ws:List Str) (ts:List Tn),vs=[v]∧Rz K H v (dV ws ts)∧ts.length≤100∧∀(p:Addr) (H':Hp),AccZ K H p H' ((hdd ts).map dI)→Q (.ref p) H'
theorem len_heaps{K:Fg}{vs:List V}{H:Hp}{Q:VK}{E:XK}{x:Str}(h:spHeaps K vs H Q E):vs.length=[x].length:=by
 obtain ⟨a,b,c,rfl,_⟩:=h;rfl
theorem dV_at{K:Fg}{H:Hp}{v:V}{ws:List Str}{ts:List Tn}(h:Rz K H v (dV ws ts)):∃(a:Addr) (v1 v2:V),v = .ref a∧H a=some (.tup [v1,v2])∧Rz K H v1 (.tuple (ws.map Dat.str))∧Rz K H v2 (.tuple (ts.map dT)):=by
 obtain ⟨a,xs,e,ha,r⟩:=h.tup_at;cases r with
 | cons r1 r =>
  cases r with
  | cons r2 r =>
   cases r;exact ⟨a,_,_,e,ha,r1,r2⟩
def t_heaps(K:Fg):TS:=(tRet (tCall (spHeapsOf K) [] E0 (tCons (tOp (rIxT K) (tVar 0) (tC (.int 1))) tNil)))
theorem rd_heaps{K:Fg}{vs:List V}{H:Hp}{Q:VK}{E:XK}{N:List Str}(hN:N.length=1)(h:spHeaps K vs H Q E):t_heaps K (ends Q) (L2.start N vs) H:=by
 obtain ⟨v,ws,ts,rfl,rv,hl,k⟩:=h;obtain ⟨a,v1,v2,rfl,ha,r1,r2⟩:=dV_at rv;rw [show L2.start N [.ref a]=[some (.ref a)] by unfold L2.start;rw [hN];rfl];unfold t_heaps;walk_at "rd";refine k_ixT (SqT.of ha) (v:=v2) rfl ?_;exact ⟨v2,ts,rfl,r2,hl,k⟩
end Vs
namespace G2
open PySem L2 Fr G1
open PySem.W (Dat kqdOk)
def Mx2(n:Int):Prop:=0≤n∧n < 2147483587
def spMix2:Sp:=fun vs H Q _=>∃c p:Int,vs=[.int c,.int p]∧0≤p∧p≤1000∧∀m:Int,Mx2 m→Q (.int m) H
theorem len_mix2{vs:List V}{H:Hp}{Q:VK}{E:XK}{y z:Str}(h:spMix2 vs H Q E):vs.length=[y,z].length:=by
 obtain ⟨a,b,rfl,_⟩:=h;rfl
def t_mix2(K:Fg):TS:=(tSeq (tAsg (tOp rMod (tOp qAdd (tOp qAdd (tOp (rI CMul fun i j=>.int (i*j)) (tOp rMod (tVar 0) (tC (.int 2147483629))) (tC (.int 16807))) (tOp (rI CMul fun i j=>.int (i*j)) (tC (.int 69621)) (tVar 1))) (tC (.int 11))) (tC (.int 2147483629))) (gName 2))
 (tSeq (tAsg (tOp rMod (tOp qAdd (tOp qAdd (tOp (rI CMul fun i j=>.int (i*j)) (tVar 2) (tVar 2)) (tOp (rI CMul fun i j=>.int (i*j)) (tC (.int 48271)) (tVar 1))) (tC (.int 7))) (tC (.int 2147483629))) (gName 2))
 (tRet (tOp rMod (tOp qAdd (tOp (rI CMul fun i j=>.int (i*j)) (tVar 2) (tVar 2)) (tC (.int 69621))) (tC (.int 2147483587))))))
theorem rd_mix2{K:Fg}{vs:List V}{H:Hp}{Q:VK}{E:XK}{N:List Str}(hN:N.length=3)(h:spMix2 vs H Q E):t_mix2 K (ends Q) (L2.start N vs) H:=by
 obtain ⟨c,p,rfl,h0,h1,k⟩:=h;rw [show L2.start N [.int c,.int p]=[some (.int c),some (.int p),none] by unfold L2.start;rw [hN];rfl];unfold t_mix2;walk_at "rd";generalize hx:(c % 2147483629*16807+69621*p+11) % 2147483629=x;have x0:0≤x∧x < 2147483629:=by omega
 walk_at "rd";generalize hy:(x*x+48271*p+7) % 2147483629=y;have y0:0≤y∧y < 2147483629:=by omega
 walk_at "rd";exact k _ ⟨by omega,by omega⟩
def t_div2(K:Fg):TS:=(tSeq (tWhile (tTest (tOp rNe (tVar 1) (tC (.int 0))))
 (tPar 0 1 (tCons (tVar 1) (tCons (tOp rModN (tVar 0) (tVar 1)) tNil))))
 (tRet (tCB rAbs (tCons (tVar 0) tNil))))
theorem rd_div2{K:Fg}{vs:List V}{H:Hp}{Q:VK}{E:XK}{N:List Str}(hN:N.length=2)(h:spDiv vs H Q E):t_div2 K (ends Q) (L2.start N vs) H:=by
 obtain ⟨a,b,rfl,k⟩:=h;rw [show L2.start N [.int a,.int b]=[some (.int a),some (.int b)] by unfold L2.start;rw [hN];rfl];unfold t_div2
 refine while_by (fun σ H'=>H'=H∧∃i j:Int,σ = [some (.int i),some (.int j)]∧Gd.gd i j=Gd.gd a b)
  (fun σ _=>match σ with | [_,some (.int j)]=>j.natAbs | _=>0) ⟨rfl,a,b,rfl,rfl⟩ ?_ ?_
 ·rintro σ H' ⟨rfl,i,j,rfl,e⟩;refine ⟨_,rfl,rfl,_,rfl,iteNE (fun hj=>?_) (fun hj=>?_)⟩
  ·refine ⟨_,rfl,_,rfl,_,rfl,_,_,rfl,rfl,hj,_,_,rfl,⟨rfl,j,i.fmod j,rfl,(Gd.gd_turn i j).trans e⟩,?_⟩;exact Gd.gd_less hj
  ·subst hj;refine ⟨_,rfl,_,rfl,?_⟩;rw [Gd.gd_out,e];exact k
 ·rintro σ H' R R' h ⟨v,e,sc,c,ec,q⟩;exact ⟨v,e,sc,c,ec,h _ _ q⟩
def t_low2(K:Fg):TS:=(tSeq (tAsg (tCall spDiv [] E0 (tCons (tVar 0) (tCons (tVar 1) tNil))) (gName 2))
 (tRet (tTup (tCons (tOp rDivW (tVar 0) (tVar 2)) (tCons (tOp rDivW (tVar 1) (tVar 2)) tNil)))))
theorem rd_low2{K:Fg}{vs:List V}{H:Hp}{Q:VK}{E:XK}{N:List Str}(hN:N.length=3)(h:spLowP K vs H Q E):t_low2 K (ends Q) (L2.start N vs) H:=by
 obtain ⟨t,b,rfl,t0,b0,t1,b1,k⟩:=h;rw [show L2.start N [.int t,.int b]=[some (.int t),some (.int b),none] by unfold L2.start;rw [hN];rfl];unfold t_low2;walk_at "rd";refine ⟨t,b,rfl,?_⟩;have nb:b≠0:=by omega
 have gp:=Gd.gd_pos (a:=t) nb;have gl:=Gd.gd_le (a:=t) nb;have wd:(Gd.gd t b).natAbs < 2 ^ 9000:=Gd.wide (by omega);have L:=Gd.low_of (t:=t) (b:=b) (d:=Gd.gd t b) nb (.inl ⟨rfl,b0⟩);have M:=Gd.low_abs (t:=t) (b:=b) (d:=Gd.gd t b) nb (.inl ⟨rfl,b0⟩);walk_at "rd";refine k_rI ⟨by omega,wd⟩ ?_;walk_at "rd";refine k_rI ⟨by omega,wd⟩ ?_;walk_at "rd";refine ⟨by show 2≤sizeLine;decide,fun p np=>?_⟩
 have q0:0 < t.fdiv (Gd.gd t b):=by
  have w:=L.worth
  have:=L.pos
  by_cases z:0 < t.fdiv (Gd.gd t b)
  ·exact z
  ·have h1:t.fdiv (Gd.gd t b)*b≤0:=Int.mul_nonpos_of_nonpos_of_nonneg (by omega) (by omega);have h2:0 < t*b.fdiv (Gd.gd t b):=Int.mul_pos t0 L.pos;omega
 have:=L.pos
 exact k p _ _ _ (same_new np _) ⟨q0,L.pos,L.low,by omega,by omega⟩ (.tup upd_same (RpL.ints [_,_]))
def spPace2(K:Fg):Sp:=fun vs H Q _=>∃a b:Int,vs=[.int a,.int b]∧∀(p:Addr) (q d:Int) (H':Hp),Same H H'→PaceOk q d→Rz K H' (.ref p) (dI [q,d])→Q (.ref p) H'
theorem len_pace2{K:Fg}{vs:List V}{H:Hp}{Q:VK}{E:XK}{y z:Str}(h:spPace2 K vs H Q E):vs.length=[y,z].length:=by
 obtain ⟨a,b,rfl,_⟩:=h;rfl
def t_pace2(K:Fg):TS:=(tSeq (tIfS (tTest (tOp rEq (tVar 1) (tC (.int 0))))
 (tRet (tTup (tCons (tC (.int 1)) (tCons (tC (.int 1)) tNil))))
 tNext)
 (tSeq (tIfS (tTest (tOp rEq (tVar 1) (tC (.int 1))))
 (tRet (tCall (spLowP K) [] E0 (tCons (tOp qAdd (tC (.int 1)) (tOp rMod (tVar 0) (tC (.int 6)))) (tCons (tOp qAdd (tC (.int 1)) (tOp rMod (tOp rDiv (tVar 0) (tC (.int 6))) (tC (.int 5)))) tNil))))
 tNext)
 (tRet (tCall (spLowP K) [] E0 (tCons (tOp qAdd (tC (.int 1)) (tOp rMod (tVar 0) (tOp rPow (tC (.int 10)) (tC (.int 9))))) (tCons (tOp qAdd (tC (.int 1)) (tOp rMod (tOp rDiv (tVar 0) (tOp rPow (tC (.int 10)) (tC (.int 9)))) (tOp rPow (tC (.int 10)) (tC (.int 9))))) tNil))))))
theorem p9:(10:Int) ^ (9:Int).toNat=1000000000:=by decide +kernel
theorem gd11:Gd.gd 1 1=1:=by decide +kernel
theorem rd_pace2{K:Fg}{vs:List V}{H:Hp}{Q:VK}{E:XK}{N:List Str}(hN:N.length=2)(h:spPace2 K vs H Q E):t_pace2 K (ends Q) (L2.start N vs) H:=by
 obtain ⟨a,b,rfl,k⟩:=h;rw [show L2.start N [.int a,.int b]=[some (.int a),some (.int b)] by unfold L2.start;rw [hN];rfl];unfold t_pace2;walk_at "rd";refine k_ite (fun z=>?_) (fun z=>?_)
 ·walk_at "rd";refine ⟨by show 2≤sizeLine;decide,fun p np=>?_⟩;exact k p 1 1 _ (same_new np _) ⟨by decide,by decide,gd11,by decide,by decide⟩ (.tup upd_same (RpL.ints [1,1]))
 walk_at "rd";refine k_ite (fun z=>?_) (fun z=>?_)
 ·walk_at "rd";exact ⟨_,_,rfl,by omega,by omega,by omega,by omega,k⟩
 ·walk_at "rd";rw [p9];walk_at "rd";rw [p9];walk_at "rd";rw [p9];walk_at "rd";exact ⟨_,_,rfl,by omega,by omega,by omega,by omega,k⟩
def spWords2(K:Fg):Sp:=fun vs H Q _=>∃n m:Int,vs=[.int n,.int m]∧0≤n∧1≤m∧m≤5∧∀(p:Addr) (H':Hp) (ws:List Str),Same H H'→WordsOk ws→ws.length=m.toNat→Rz K H' (.ref p) (.tuple (ws.map Dat.str))→Q (.ref p) H'
theorem len_words2{K:Fg}{vs:List V}{H:Hp}{Q:VK}{E:XK}{y z:Str}(h:spWords2 K vs H Q E):vs.length=[y,z].length:=by
 obtain ⟨a,b,rfl,_⟩:=h;rfl
theorem xyz_cut:∀j:Nat,j < 4→(scut "xyz" none (some (j:Int))).length≤3∧Low (scut "xyz" none (some (j:Int))):=by
 intro j hj;have sl:=scut_len ("xyz" : Str) none (some (j:Int));have l3:(("xyz" : Str)).length=3:=by decide +kernel
 refine ⟨?_,low_cut ?_⟩
 ·rw [sl];simp only [hiL,List.length_take,cl_len,l3,Option.getD];omega
 ·intro x hx
  have:(("xyz" : Str)).cps.toList=[120,121,122]:=by decide +kernel
  rw [this] at hx;simp only [List.mem_cons,List.not_mem_nil,or_false] at hx;omega
theorem app_list(a b:Str):(a++b).cps.toList=a.cps.toList++b.cps.toList:=by
 show (a.cps++b.cps).toList=_;exact Array.toList_append
theorem low_app{a b:Str}(h1:Low a)(h2:Low b):Low (a++b):=fun x hx=>by
 rw [app_list] at hx;rcases List.mem_append.mp hx with q | q
 ·exact h1 x q
 ·exact h2 x q
def t_words2 (K:Fg):TS:=(tSeq (tAsg (tC (.str "abcdefghijklmnopqrstuvwxyz")) (gName 2))
 (tSeq (tAsg (tLst tNil) (gName 3))
 (tSeq (tFor (iRng1 (tCons (tVar 1) tNil)) (gName 4)
 (tSeq (tAsg (tOp rIxS (tVar 2) (tOp rMod (tOp qAdd (tVar 0) (tOp (rI CMul fun i j=>.int (i*j)) (tC (.int 5)) (tVar 4))) (tC (.int 26)))) (gName 5))
 (tDrop (tBM K "list" rAppend (tVar 3) (tCons (tOp rAddS (tOp rAddS (tVar 5) (tSl rSlS (tC (.str "xyz")) tNoPart (tPart (tOp rMod (tOp rDiv (tVar 0) (tC (.int 26))) (tC (.int 4)))))) (tOp rRepS (tVar 5) (tOp rMod (tOp rDiv (tVar 0) (tC (.int 104))) (tC (.int 2))))) tNil)))))
 (tRet (tCB (rTupOf K) (tCons (tVar 3) tNil))))))
theorem rd_words2{K:Fg}{vs:List V}{H:Hp}{Q:VK}{E:XK}{N:List Str}(hN:N.length=6)(h:spWords2 K vs H Q E):t_words2 K (ends Q) (L2.start N vs) H:=by
 obtain ⟨n,m,rfl,n0,m1,m5,k⟩:=h;rw [show L2.start N [.int n,.int m]=[some (.int n),some (.int m),none,none,none,none] by unfold L2.start;rw [hN];rfl];unfold t_words2;walk_at "rd";refine ⟨by decide,fun l nl=>?_⟩;walk_at "rd"
 refine fat_range (fun i σ H2=>∃(ws:List Str) (v4 v5:Option V),σ = [some (.int n),some (.int m),some (.str az),some (.ref l),v4,v5]∧AccZ K H l H2 (ws.map Dat.str)∧ws.length=i∧WordsOk ws ∧
   ∀(j:Nat) (w:Str),ws[j]? = some w→w.cps.toList[0]? = some (97+((n+5*(j:Int)) % 26).toNat))
  ⟨[],none,none,rfl,AccZ.start (Same.refl _) nl,rfl,⟨List.nodup_nil,by simp⟩,by simp⟩ ?_ ?_
 ·rintro i σ H2 hi ⟨ws,v4,v5,rfl,A,hl,hw,hj⟩;have e0:(0:Int)+(i:Int)=(i:Int):=by omega
  rw [e0];have f0:=Int.emod_nonneg (n+5*(i:Int)) (b:=26) (by omega);have f1:=Int.emod_lt_of_pos (n+5*(i:Int)) (b:=26) (by omega);walk_at "rd";refine k_ixS az_len (az_ix f0 f1) ?_;have lf:=low_one (c:=97+((n+5*(i:Int)) % 26).toNat) (by omega) (by omega);have len1:(⟨#[97+((n+5*(i:Int)) % 26).toNat]⟩:Str).length=1:=rfl;have hd1:(⟨#[97+((n+5*(i:Int)) % 26).toNat]⟩:Str).cps.toList[0]? = some (97+((n+5*(i:Int)) % 26).toNat):=rfl;generalize hf:(⟨#[97+((n+5*(i:Int)) % 26).toNat]⟩:Str)=fw at lf len1 hd1 ⊢;walk_at "rd";refine ⟨A.ty,?_⟩;walk_at "rd";have j0:0≤n / 26 % 4:=by omega
  have ej:n / 26 % 4=(((n / 26 % 4).toNat:Nat):Int):=by omega
  have xc:=xyz_cut (n / 26 % 4).toNat (by omega);rw [← ej] at xc;refine ⟨_,rfl,by decide +kernel,trivial,j0,?_⟩;generalize scut "xyz" none (some (n / 26 % 4))=mid at xc ⊢;refine k_addS (by rw [len1,show sizeLine=16777216 by decide];omega) ?_;walk_at "rd";refine k_repS (by omega) ?_;generalize he:(if n / 104 % 2=0 then Str.empty else fw)=tl
  have tlo:tl.length≤1∧Low tl:=by
   rw [← he];split
   ·exact ⟨by decide,fun x hx=>by cases hx⟩
   ·exact ⟨by omega,lf⟩
  have lnew:(fw++mid++tl).length=fw.length+mid.length+tl.length:=by rw [strLen_append,strLen_append]
  refine k_addS (by rw [strLen_append,len1,show sizeLine=16777216 by decide];omega) ?_;walk_at "rd";refine k_appZ A (.str _) (small1000 (by rw [List.length_map];omega)) fun H3 A3 _ _ _=>?_
  have hd2:(fw++mid++tl).cps.toList[0]? = some (97+((n+5*(i:Int)) % 26).toNat):=by
   rw [app_list,app_list,List.append_assoc,List.getElem?_append_left (by rw [cl_len,len1];omega)];exact hd1
  walk_at "rd";refine ⟨ws++[fw++mid++tl],_,_,rfl,by rw [List.map_append];exact A3,by simp [hl],⟨nodup_snoc hw.1 fun hx=>?_,all_snoc hw.2 ⟨by omega,by omega,low_app (low_app lf xc.2) tlo.2⟩⟩,fun j w e=>?_⟩
  ·obtain ⟨j,hj1,hj2⟩:=List.mem_iff_getElem.mp hx;have g:=hj j _ (by rw [List.getElem?_eq_getElem hj1,hj2]);rw [hd2] at g;have g':=Option.some.inj g;omega
  ·by_cases lt:j < ws.length
   ·rw [List.getElem?_append_left lt] at e;exact hj j w e
   ·rw [List.getElem?_append_right (by omega)] at e
    have z:j - ws.length=0:=by
     rcases Nat.eq_zero_or_pos (j - ws.length) with z | z
     ·exact z
     ·rw [List.getElem?_eq_none (by simp;omega)] at e;cases e
    rw [z] at e;have e':fw++mid++tl=w:=by simpa using e
    have ej2:j=i:=by omega
    rw [← e',ej2];exact hd2
 ·rintro σ H2 ⟨ws,v4,v5,rfl,A,hl,hw,hj⟩;have e:=AccZ.strs A;walk_at "rd";refine k_tupL (SqL.of e) fun p np=>?_
  exact k p _ ws (A.same.trans (same_new np _)) hw hl (.tup upd_same (RpL.strs ws))
def spHeap2(K:Fg):Sp:=fun vs H Q _=>∃(c k m t:Int) (pl:Bool),vs=[.int c,.int k,.int m,.int t,.bl pl]∧0≤k∧k≤100∧0≤m∧m≤5∧2≤t∧t≤4∧∀(p:Addr) (H':Hp) (hs:List Int),Same H H'→HeapOk m.toNat hs→Rz K H' (.ref p) (dI hs)→Q (.ref p) H'
theorem len_heap2{K:Fg}{vs:List V}{H:Hp}{Q:VK}{E:XK}{v w x y z:Str}(h:spHeap2 K vs H Q E):vs.length=[v,w,x,y,z].length:=by
 obtain ⟨a,b,c,d,e,rfl,_⟩:=h;rfl
def t_heap2(K:Fg):TS:=(tSeq (tAsg (tVar 0) (gName 5))
 (tSeq (tIfS (tTest (tOp rGt (tVar 1) (tC (.int 5))))
 (tAsg (tOp rDiv (tVar 0) (tC (.int 1024))) (gName 5))
 tNext)
 (tSeq (tAsg (tLst tNil) (gName 6))
 (tSeq (tFor (iRng1 (tCons (tVar 2) tNil)) (gName 7)
 (tIfS (tB (tVar 4))
 (tSeq (tDrop (tBM K "list" rAppend (tVar 6) (tCons (tOp rMod (tVar 5) (tVar 3)) tNil)))
 (tAsg (tOp rDiv (tVar 5) (tVar 3)) (gName 5)))
 (tDrop (tBM K "list" rAppend (tVar 6) (tCons (tOp rMod (tCall spMix2 [] E0 (tCons (tVar 0) (tCons (tOp qAdd (tOp (rI CMul fun i j=>.int (i*j)) (tC (.int 5)) (tVar 1)) (tVar 7)) tNil))) (tVar 3)) tNil)))))
 (tRet (tCB (rTupOf K) (tCons (tVar 6) tNil)))))))
theorem rd_heap2{K:Fg}{vs:List V}{H:Hp}{Q:VK}{E:XK}{N:List Str}(hN:N.length=8)(h:spHeap2 K vs H Q E):t_heap2 K (ends Q) (L2.start N vs) H:=by
 obtain ⟨c,kk,m,t,pl,rfl,k0,k1,m0,m5,t2,t4,k⟩:=h;rw [show L2.start N [.int c,.int kk,.int m,.int t,.bl pl]=[some (.int c),some (.int kk),some (.int m),some (.int t),some (.bl pl),none,none,none] by unfold L2.start;rw [hN];rfl];unfold t_heap2;walk_at "rd";have rest:∀z0:Int,(tSeq (tAsg (tLst tNil) (gName 6)) (tSeq (tFor (iRng1 (tCons (tVar 2) tNil)) (gName 7)
 (tIfS (tB (tVar 4))
 (tSeq (tDrop (tBM K "list" rAppend (tVar 6) (tCons (tOp rMod (tVar 5) (tVar 3)) tNil)))
 (tAsg (tOp rDiv (tVar 5) (tVar 3)) (gName 5)))
 (tDrop (tBM K "list" rAppend (tVar 6) (tCons (tOp rMod (tCall spMix2 [] E0 (tCons (tVar 0) (tCons (tOp qAdd (tOp (rI CMul fun i j=>.int (i*j)) (tC (.int 5)) (tVar 1)) (tVar 7)) tNil))) (tVar 3)) tNil)))))
 (tRet (tCB (rTupOf K) (tCons (tVar 6) tNil))))) (ends Q) [some (.int c),some (.int kk),some (.int m),some (.int t),some (.bl pl),some (.int z0),none,none] H:=by
  intro z0;walk_at "rd";refine ⟨by decide,fun l nl=>?_⟩;walk_at "rd";refine fat_range (fun i σ H2=>∃(ns:List Int) (z:Int) (v:Option V),σ = [some (.int c),some (.int kk),some (.int m),some (.int t),some (.bl pl),some (.int z),some (.ref l),v]∧AccZ K H l H2 (ns.map Dat.int)∧HeapOk i ns) ⟨[],z0,none,rfl,AccZ.start (Same.refl _) nl,rfl,by simp⟩ ?_ ?_
  ·rintro i σ H2 hi ⟨ns,z,v,rfl,A,hl,hb⟩
   have one:∀x:Int,HeapOk (i+1) (ns++[x % t]):=fun x=>⟨by simp [hl],fun y hy=>by
    rcases List.mem_append.mp hy with q | q
    ·exact hb y q
    ·rw [List.mem_singleton.mp q]
     have e1:=Int.emod_nonneg x (b:=t) (by omega)
     have e2:=Int.emod_lt_of_pos x (b:=t) (by omega)
     exact ⟨by omega,by omega⟩⟩
   walk_at "rd";cases pl with
   | true =>
    walk_at "rd";refine ⟨A.ty,?_⟩;walk_at "rd";refine k_appZ A (.int _) (small1000 (by rw [List.length_map];omega)) fun H3 A3 _ _ _=>?_
    walk_at "rd";exact ⟨ns++[z % t],_,_,rfl,by simpa using A3,one z⟩
   | false =>
    walk_at "rd";refine ⟨A.ty,?_⟩;walk_at "rd";refine ⟨c,5*kk+(0+(i:Int)),rfl,by omega,by omega,fun x hx=>?_⟩;walk_at "rd";refine k_appZ A (.int _) (small1000 (by rw [List.length_map];omega)) fun H3 A3 _ _ _=>?_
    walk_at "rd";exact ⟨ns++[x % t],_,_,rfl,by simpa using A3,one x⟩
  ·rintro σ H2 ⟨ns,z,v,rfl,A,hh⟩;walk_at "rd";have e:=AccZ.ints A;refine k_tupL (SqL.of e) fun p np=>?_
   exact k p _ ns (A.same.trans (same_new np _)) hh (.tup upd_same (RpL.ints ns))
 refine k_ite (fun _=>?_) (fun _=>?_)
 ·walk_at "rd1";walk_at "rd1";walk_at "rd1";walk_at "rd1";walk_at "rd1";walk_at "rd1";exact rest _
 ·exact rest _
end G2
namespace G2
open PySem L2 Fr G1
open PySem.W (Dat kqdOk)
theorem acc_back{K:Fg}{H H3 H':Hp}{l:Addr}{ds:List Dat}(S:Same H H3)(A:AccZ K H3 l H' ds):AccZ K H l H' ds:=⟨S.trans A.same,S.free A.new,A.at_⟩
def spare(h1:Int)(m:Nat):List Int:=(List.range m).map fun j=>if j=0 then (if decide (h1=0)=true then 1 else 0) else 0
def spPool2(K:Fg):Sp:=fun vs H Q _=>∃(a:Addr) (ns:List Int) (t m s tp:Int) (pl:Bool),vs=[.ref a,.int t,.int m,.int s,.int tp,.bl pl]∧SqL K H a (ns.map V.int)∧0≤t∧1≤m∧m≤5∧2≤s∧s≤8∧2≤tp∧tp≤4 ∧
 ∀(p:Addr) (H':Hp) (hs:List (List Int)),AccZ K H p H' (hs.map dI)→PoolOk m.toNat hs→2≤hs.length→hs.length≤8→Q (.ref p) H'
theorem len_pool2{K:Fg}{vs:List V}{H:Hp}{Q:VK}{E:XK}{u v w x y z:Str}(h:spPool2 K vs H Q E):vs.length=[u,v,w,x,y,z].length:=by
 obtain ⟨a,b,c,d,e,f,g,rfl,_⟩:=h;rfl
def t_pool2(K:Fg):TS:=(tSeq (tAsg (tLst tNil) (gName 6))
 (tSeq (tFor (iRng1 (tCons (tVar 3) tNil)) (gName 7)
 (tSeq (tAsg (tCall (spHeap2 K) [] E0 (tCons (tCall (spCell K) [] E0 (tCons (tVar 0) (tCons (tOp qAdd (tVar 1) (tOp rMod (tVar 7) (tC (.int 6)))) tNil))) (tCons (tVar 7) (tCons (tVar 2) (tCons (tVar 4) (tCons (tVar 5) tNil)))))) (gName 8))
 (tIfS (tTest (tOp (rInD K true) (tVar 8) (tVar 6)))
 (tDrop (tBM K "list" rAppend (tVar 6) (tCons (tVar 8) tNil)))
 tNext)))
 (tSeq (tIfS (tTest (tOp rEq (tCB (rLenQ K) (tCons (tVar 6) tNil)) (tC (.int 1))))
 (tDrop (tBM K "list" rAppend (tVar 6) (tCons (tCB (rTupOf K) (tCons (tComp (iRng1 (tCons (tVar 2) tNil)) (tCB rInt1 (tCons (tAndV (tOp rEq (tVar 0) (tC (.int 0))) (tOp rEq (tOp (rIxT K) (tOp (rIxL K) (tVar 7) (tC (.int 0))) (tC (.int 0))) (tC (.int 0)))) tNil))) tNil)) tNil)))
 tNext)
 (tRet (tVar 6)))))
theorem rd_pool2{K:Fg}{vs:List V}{H:Hp}{Q:VK}{E:XK}{N:List Str}(hN:N.length=9)(h:spPool2 K vs H Q E):t_pool2 K (ends Q) (L2.start N vs) H:=by
 obtain ⟨a,ns,t,m,s,tp,pl,rfl,hS,t0,m1,m5,s2,s8,p2,p4,k⟩:=h;rw [show L2.start N [.ref a,.int t,.int m,.int s,.int tp,.bl pl]=[some (.ref a),some (.int t),some (.int m),some (.int s),some (.int tp),some (.bl pl),none,none,none] by unfold L2.start;rw [hN];rfl];unfold t_pool2;walk_at "rd";refine ⟨by decide,fun l nl=>?_⟩;walk_at "rd"
 refine fat_range (fun i σ H2=>∃(hs:List (List Int)) (v7 v8:Option V),σ = [some (.ref a),some (.int t),some (.int m),some (.int s),some (.int tp),some (.bl pl),some (.ref l),v7,v8]∧AccZ K H l H2 (hs.map dI)∧hs.length≤i∧PoolOk m.toNat hs∧(0 < i→hs≠[]))
  ⟨[],none,none,rfl,AccZ.start (Same.refl _) nl,Nat.le_refl _,⟨List.nodup_nil,by simp⟩,by simp⟩ ?_ ?_
 ·rintro i σ H2 hi ⟨hs,v7,v8,rfl,A,hl,hp,_⟩;walk_at "rd";refine ⟨a,ns,t+(0+(i:Int)) % 6,rfl,A.same.seq hS,by omega,?_⟩;generalize cellOf ns (t+(0+(i:Int)) % 6)=c1;walk_at "rd";refine ⟨c1,0+(i:Int),m,tp,pl,rfl,by omega,by omega,by omega,by omega,p2,p4,fun ph H4 h S4' oh rh=>?_⟩;have A4:=A.on S4';walk_at "rd";refine k_notInD rh.rep A4.rep (fun e he=>by obtain ⟨b,_,rfl⟩:=List.mem_map.mp he;exact ok_dI b 7) (ok_dI h 7) (fun nm=>?_) (fun mm=>?_)
  ·walk_at "rd";refine ⟨A4.ty,?_⟩;walk_at "rd";refine k_appZ A4 rh (small1000 (by rw [List.length_map];omega)) fun H5 A5 _ _ _=>?_
   walk_at "rd";exact ⟨hs++[h],_,_,rfl,by rw [List.map_append];exact A5,by simp;omega,⟨nodup_snoc hp.1 fun z=>nm (mem_dI.mpr z),all_snoc hp.2 oh⟩,by simp⟩
  ·walk_at "rd";exact ⟨hs,_,_,rfl,A4,by omega,hp,fun _ z=>by rw [z] at mm;cases mm⟩
 ·rintro σ H2 ⟨hs,v7,v8,rfl,A,hl,hp,hne⟩;have ne:=hne (by omega);obtain ⟨xs,sx,lx,rx⟩:=A.sq;rw [List.length_map] at lx;walk_at "rd";refine k_lenL sx ?_;walk_at "rd";refine k_ite (fun few=>?_) (fun few=>?_)
  ·have l1:hs.length=1:=by omega
   obtain ⟨h,rfl⟩:∃x,hs=[x]:=List.length_eq_one_iff.mp l1;have oh:=hp.2 h (by simp);obtain ⟨h1,hr,eh⟩:∃h1 hr,h=h1 :: hr:=List.exists_cons_of_length_pos (by have:=oh.1;omega);obtain ⟨v,ev,rv⟩:=RpL.get' (i:=0) rx (d:=dI h) rfl;obtain ⟨ah,ys,e1,sh,rh⟩:=rv.tup_of;cases e1;cases RpL.ints_of rh;walk_at "rd";refine ⟨A.ty,?_⟩;walk_at "rd";refine comp_range fun Dl nD=>⟨fun j H4=>AccZ K H2 Dl H4 ((spare h1 j).map Dat.int),AccZ.start (Same.refl _) nD,?_,?_⟩
   ·intro j H4 hj B
    have put:∀x:Int,x=(if j=0 then (if decide (h1=0)=true then 1 else 0) else 0)→EltK Dl m.toNat j (fun j H4=>AccZ K H2 Dl H4 ((spare h1 j).map Dat.int)) (.int x) H4:=by
     intro x ex;refine pushed hj (B.pushK (.int x) (small1000 ?_) fun H5 B5=>?_)
     ·rw [List.length_map];unfold spare;rw [List.length_map,List.length_range];omega
     ·show AccZ K H2 Dl H5 ((spare h1 (j+1)).map Dat.int);unfold spare;rw [List.range_succ,List.map_append,List.map_append,List.map_singleton,List.map_singleton,← ex];exact B5
    walk_at "rd";refine k_ite (fun j0=>?_) (fun j0=>?_)
    ·walk_at "rd";refine k_ixL (B.same.seq sx) (atI_nat (j:=0) ev) ?_;walk_at "rd";refine k_ixT (B.same.seqT sh) (v:=.int h1) (atI_nat (j:=0) (by rw [eh];rfl)) ?_;walk_at "rd";refine put _ ?_;rw [if_pos (show j=0 by omega)]
    ·walk_at "rd";refine put _ ?_;rw [if_neg (show ¬ j=0 by omega)];rfl
   ·intro H4 B;have eB:=AccZ.ints B;walk_at "rd";refine k_tupL (SqL.of eB) fun p np=>?_
    walk_at "rd";have Sp:=same_new np (.tup ((spare h1 m.toNat).map V.int));have A5:=(A.on B.same).on Sp;refine k_appZ A5 (d:=dI (spare h1 m.toNat)) (.tup upd_same (RpL.ints _)) (small1000 (by simp)) fun H6 A6 _ _ _=>?_
    walk_at "rd"
    have e0:(spare h1 m.toNat)[0]? = some (if decide (h1=0)=true then 1 else 0):=by
     unfold spare;rw [List.getElem?_map,List.getElem?_range (by omega)];rfl
    refine k l H6 ([h]++[_]) (by rw [List.map_append];exact A6) ⟨nodup_snoc hp.1 fun z=>?_,all_snoc hp.2 ⟨?_,fun x hx=>?_⟩⟩ (by simp) (by simp)
    ·have z':=List.mem_singleton.mp z;rw [z',eh] at e0;have z2:h1=(if decide (h1=0)=true then 1 else 0):=Option.some.inj e0;by_cases h10:h1=0
     ·rw [decide_eq_true h10] at z2;simp at z2;omega
     ·rw [decide_eq_false h10] at z2;simp at z2;omega
    ·unfold spare;rw [List.length_map,List.length_range]
    ·unfold spare at hx;obtain ⟨j,_,rfl⟩:=List.mem_map.mp hx;split
     ·split <;> decide
     ·decide
  ·walk_at "rd"
   have:0 < hs.length:=List.length_pos_iff.mpr ne
   exact k l H2 hs A hp (by omega) (by omega)
def dI2(p:Int×Int):Dat:=dI [p.1,p.2]
def FP(s:Int)(p:Int×Int):Prop:=0≤p.1∧p.1 < s∧0≤p.2∧p.1≠p.2
def spPairs2(K:Fg):Sp:=fun vs H Q _=>∃(a:Addr) (ns:List Int) (t s kd:Int) (pl:Bool),vs=[.ref a,.int t,.int s,.int kd,.bl pl]∧SqL K H a (ns.map V.int)∧0≤t∧2≤s∧s≤8∧0≤kd∧kd≤3 ∧
 ∀(p:Addr) (H':Hp) (ps:List (Nat×Nat)),AccZ K H p H' (ps.map dP)→ps.Nodup→ps.length≤8→ps≠[]→(∀q∈ps,PairOk s.toNat q)→Q (.ref p) H'
theorem len_pairs2{K:Fg}{vs:List V}{H:Hp}{Q:VK}{E:XK}{v w x y z:Str}(h:spPairs2 K vs H Q E):vs.length=[v,w,x,y,z].length:=by
 obtain ⟨a,b,c,d,e,f,rfl,_⟩:=h;rfl
def t_pairs2(K:Fg):TS:=(tSeq (tAsg (tLst tNil) (gName 5))
 (tSeq (tFor (iRng1 (tCons (tVar 2) tNil)) (gName 6)
 (tSeq (tAsg (tOp rMod (tOp qAdd (tVar 6) (tC (.int 1))) (tVar 2)) (gName 7))
 (tSeq (tIfS (tAnd (tTest (tOp rEq (tVar 3) (tC (.int 3)))) (tTest (tOp rGt (tVar 2) (tC (.int 3)))))
 (tDrop (tBM K "list" rAppend (tVar 5) (tCons (tTup (tCons (tVar 6) (tCons (tOp qAdd (tOp (rI CMul fun i j=>.int (i*j)) (tOp rDiv (tVar 6) (tC (.int 2))) (tC (.int 2))) (tOp rMod (tOp qAdd (tVar 6) (tC (.int 1))) (tC (.int 2)))) tNil))) tNil)))
 (tIfS (tTest (tOp rGt (tVar 3) (tC (.int 0))))
 (tDrop (tBM K "list" rAppend (tVar 5) (tCons (tTup (tCons (tVar 6) (tCons (tVar 7) tNil))) tNil)))
 tNext))
 (tIfS (tTest (tOp rEq (tVar 3) (tC (.int 2))))
 (tDrop (tBM K "list" rAppend (tVar 5) (tCons (tTup (tCons (tVar 7) (tCons (tVar 6) tNil))) tNil)))
 tNext))))
 (tSeq (tFor (iRng1 (tCons (tC (.int 8)) tNil)) (gName 6)
 (tSeq (tAsg (tCall (spCell K) [] E0 (tCons (tVar 0) (tCons (tOp qAdd (tVar 1) (tVar 6)) tNil))) (gName 8))
 (tIfS (tOr (tTest (tOp rEq (tVar 3) (tC (.int 0)))) (tTest (tOp rEq (tOp rMod (tVar 8) (tC (.int 5))) (tC (.int 1)))))
 (tSeq (tAsg (tOp rMod (tCall spMix2 [] E0 (tCons (tVar 8) (tCons (tC (.int 50)) tNil))) (tVar 2)) (gName 9))
 (tSeq (tAsg (tOp rMod (tCall spMix2 [] E0 (tCons (tVar 8) (tCons (tC (.int 51)) tNil))) (tOp qSub (tVar 2) (tC (.int 1)))) (gName 10))
 (tSeq (tIfS (tB (tVar 4))
 (tSeq (tAsg (tOp rMod (tOp rMod (tOp rDiv (tVar 8) (tC (.int 5))) (tC (.int 8))) (tVar 2)) (gName 9))
 (tAsg (tOp rMod (tOp rMod (tOp rDiv (tVar 8) (tC (.int 40))) (tC (.int 8))) (tOp qSub (tVar 2) (tC (.int 1)))) (gName 10)))
 tNext)
 (tDrop (tBM K "list" rAppend (tVar 5) (tCons (tTup (tCons (tVar 9) (tCons (tOp rMod (tOp qAdd (tOp qAdd (tVar 9) (tC (.int 1))) (tVar 10)) (tVar 2)) tNil))) tNil))))))
 tNext)))
 (tSeq (tAsg (tLst tNil) (gName 11))
 (tSeq (tFor (iList K (tVar 5)) (gTup K 2 (gCons (gName 9) (gCons (gName 12) gNil)))
 (tIfS (tAnd (tTest (tOp (rInD K true) (tTup (tCons (tVar 9) (tCons (tVar 12) tNil))) (tVar 11))) (tAnd (tTest (tOp rLt (tVar 12) (tVar 2))) (tTest (tOp rLt (tCB (rLenQ K) (tCons (tVar 11) tNil)) (tC (.int 8))))))
 (tDrop (tBM K "list" rAppend (tVar 11) (tCons (tTup (tCons (tVar 9) (tCons (tVar 12) tNil))) tNil)))
 tNext))
 (tRet (tVar 11)))))))
theorem k_pair{K:Fg}{H H2:Hp}{l:Addr}{fs:List (Int×Int)}{x y:Int}{Q:VK}{σ : St}(A:AccZ K H l H2 (fs.map dI2))(n:fs.length≤100)(k:∀H3,AccZ K H l H3 ((fs++[(x,y)]).map dI2)→Q .non H3) :
  ([V.int x,.int y].length≤sizeLine∧∀p,H2 p=none→tNil σ (upd H2 p (.tup [.int x,.int y])) fun xs H3=>rAppend (.ref l) (.ref p :: xs) H3 Q):=by
 refine ⟨by show 2≤sizeLine;decide,fun p np=>?_⟩;have S:=same_new np (.tup [V.int x,.int y]);refine k_nil ?_;refine k_appZ (A.on S) (d:=dI2 (x,y)) (.tup upd_same (RpL.ints [x,y])) (small1000 (by rw [List.length_map];omega)) fun H3 A3 _ _ _=>k H3 ?_
 rw [List.map_append];exact A3
theorem fp_snoc{s:Int}{fs:List (Int×Int)}{p:Int×Int}(h:∀q∈fs,FP s q)(n:FP s p):∀q∈fs++[p],FP s q:=all_snoc h n
theorem near2{n u v:Int}(h1:0≤u)(h2:u < n)(h3:0≤v)(h4:v < n - 1):(u+1+v) % n≠u:=by
 intro e;by_cases z:u+1+v < n
 ·rw [Int.emod_eq_of_lt (by omega) z] at e;omega
 ·have e2:(u+1+v) % n=u+1+v - n:=by
   rw [← Int.sub_emod_right,Int.emod_eq_of_lt (by omega) (by omega)]
  omega
theorem ex_snoc{s:Int}{fs:List (Int×Int)}{p:Int×Int}(h:∃q∈fs,q.2 < s):∃q∈fs++[p],q.2 < s:=by
 obtain ⟨q,h1,h2⟩:=h;exact ⟨q,List.mem_append_left _ h1,h2⟩
theorem ex_last{s:Int}{fs:List (Int×Int)}{p:Int×Int}(h:p.2 < s):∃q∈fs++[p],q.2 < s:=⟨p,List.mem_append_right _ (List.mem_singleton.mpr rfl),h⟩
theorem rd_pairs2{K:Fg}{vs:List V}{H:Hp}{Q:VK}{E:XK}{N:List Str}(hN:N.length=13)(h:spPairs2 K vs H Q E):t_pairs2 K (ends Q) (L2.start N vs) H:=by
 obtain ⟨a,ns,t,s,kd,pl,rfl,hS,t0,s2,s8,k0,k3,k⟩:=h;rw [show L2.start N [.ref a,.int t,.int s,.int kd,.bl pl]=[some (.ref a),some (.int t),some (.int s),some (.int kd),some (.bl pl),none,none,none,none,none,none,none,none] by unfold L2.start;rw [hN];rfl];unfold t_pairs2;walk_at "rd";refine ⟨by decide,fun l nl=>?_⟩;walk_at "rd"
 refine fat_range (fun i σ H2=>∃(fs:List (Int×Int)) (v6 v7:Option V),σ = [some (.ref a),some (.int t),some (.int s),some (.int kd),some (.bl pl),some (.ref l),v6,v7,none,none,none,none,none]∧AccZ K H l H2 (fs.map dI2)∧fs.length≤2*i∧(∀q∈fs,FP s q)∧(0 < i→0 < kd→∃q∈fs,q.2 < s))
  ⟨[],none,none,rfl,AccZ.start (Same.refl _) nl,Nat.le_refl _,by simp,by simp⟩ ?_ ?_
 ·rintro i σ H2 hi ⟨fs,v6,v7,rfl,A,hl,hf,hx⟩;have i8:(i:Int) < s:=by omega
  have hm0:=Int.emod_nonneg (0+(i:Int)+1) (b:=s) (by omega);have hm1:=Int.emod_lt_of_pos (0+(i:Int)+1) (b:=s) (by omega)
  have hne:(0+(i:Int)+1) % s≠0+(i:Int):=by
   have z:=near2 (n:=s) (u:=0+(i:Int)) (v:=0) (by omega) (by omega) (by omega) (by omega);rw [Int.add_zero] at z;exact z
  have back:∀(gs:List (Int×Int)) (H3:Hp) (D':Ends),AccZ K H l H3 (gs.map dI2)→gs.length≤2*i+1→(∀q∈gs,FP s q)→(0 < kd→∃q∈gs,q.2 < s) →
    (∀σ' H',(∃(fs:List (Int×Int)) (v6 v7:Option V),σ'=[some (.ref a),some (.int t),some (.int s),some (.int kd),some (.bl pl),some (.ref l),v6,v7,none,none,none,none,none]∧AccZ K H l H' (fs.map dI2)∧fs.length≤2*(i+1)∧(∀q∈fs,FP s q)∧(0 < i+1→0 < kd→∃q∈fs,q.2 < s))→D'.nx σ' H') →
    (tIfS (tTest (tOp rEq (tVar 3) (tC (.int 2))))
     (tDrop (tBM K "list" rAppend (tVar 5) (tCons (tTup (tCons (tVar 7) (tCons (tVar 6) tNil))) tNil))) tNext) D' [some (.ref a),some (.int t),some (.int s),some (.int kd),some (.bl pl),some (.ref l),some (.int (0+(i:Int))),some (.int ((0+(i:Int)+1) % s)),none,none,none,none,none] H3:=by
   intro gs H3 D' B lg fg xg fin;walk_at "rd";refine k_ite (fun _=>?_) (fun _=>?_)
   ·walk_at "rd";refine ⟨B.ty,?_⟩;walk_at "rd";refine k_pair B (by omega) fun H4 B4=>?_
    exact fin _ _ ⟨_,_,_,rfl,B4,by simp;omega,fp_snoc fg ⟨hm0,hm1,by dsimp only;omega,fun e=>hne e⟩,fun _ z=>ex_snoc (xg z)⟩
   ·walk_at "rd";exact fin _ _ ⟨gs,_,_,rfl,B,by omega,fg,fun _ z=>xg z⟩
  walk_at "rd";refine k_ite (fun e3=>?_) (fun e3=>?_)
  ·walk_at "rd";refine k_ite (fun s3=>?_) (fun s3=>?_)
   ·walk_at "rd";refine ⟨A.ty,?_⟩;walk_at "rd";refine k_pair A (by omega) fun H3 B=>?_
    refine back _ _ _ B (by simp;omega) (fp_snoc hf ⟨by dsimp only;omega,by dsimp only;omega,by dsimp only;omega,by dsimp only;omega⟩) (fun z=>?_) fun σ' H' z=>z
    by_cases i0:0 < i
    ·exact ex_snoc (hx i0 z)
    ·exact ex_last (by dsimp only;omega)
   ·walk_at "rd";refine k_ite (fun _=>?_) (fun z=>absurd z (by omega));walk_at "rd";refine ⟨A.ty,?_⟩;walk_at "rd";refine k_pair A (by omega) fun H3 B=>?_
    exact back _ _ _ B (by simp;omega) (fp_snoc hf ⟨by dsimp only;omega,by dsimp only;omega,hm0,fun e=>hne e.symm⟩) (fun z=>ex_last hm1) fun σ' H' z=>z
  ·walk_at "rd";refine k_ite (fun kp=>?_) (fun kp=>?_)
   ·walk_at "rd";refine ⟨A.ty,?_⟩;walk_at "rd";refine k_pair A (by omega) fun H3 B=>?_
    exact back _ _ _ B (by simp;omega) (fp_snoc hf ⟨by dsimp only;omega,by dsimp only;omega,hm0,fun e=>hne e.symm⟩) (fun z=>ex_last hm1) fun σ' H' z=>z
   ·exact back fs _ _ A (by omega) hf (fun z=>absurd z kp) fun σ' H' z=>z
 rintro σ H2 ⟨fs,v6,v7,rfl,A,hl,hf,hx⟩;have s8':s.toNat≤8:=by omega
 walk_at "rd"
 refine fat_range (fun i σ H3=>∃(gs:List (Int×Int)) (u6 u7 u8 u9 u10:Option V),σ = [some (.ref a),some (.int t),some (.int s),some (.int kd),some (.bl pl),some (.ref l),u6,u7,u8,u9,u10,none,none]∧AccZ K H l H3 (gs.map dI2)∧gs.length≤16+i∧(∀q∈gs,FP s q)∧(0 < kd∨0 < i→∃q∈gs,q.2 < s))
  ⟨fs,v6,v7,none,none,none,rfl,A,by omega,hf,fun z=>hx (by omega) (by omega)⟩ ?_ ?_
 ·rintro i σ H3 hi ⟨gs,u6,u7,u8,u9,u10,rfl,B,lg,fg,xg⟩;walk_at "rd";refine ⟨a,ns,t+(0+(i:Int)),rfl,B.same.seq hS,by omega,?_⟩;generalize cellOf ns (t+(0+(i:Int)))=c
  have draw:∀(D':Ends),(∀σ' H',(∃(gs:List (Int×Int)) (u6 u7 u8 u9 u10:Option V),σ'=[some (.ref a),some (.int t),some (.int s),some (.int kd),some (.bl pl),some (.ref l),u6,u7,u8,u9,u10,none,none]∧AccZ K H l H' (gs.map dI2)∧gs.length≤16+(i+1)∧(∀q∈gs,FP s q)∧(0 < kd∨0 < i+1→∃q∈gs,q.2 < s))→D'.nx σ' H') →
    (tSeq (tAsg (tOp rMod (tCall spMix2 [] E0 (tCons (tVar 8) (tCons (tC (.int 50)) tNil))) (tVar 2)) (gName 9))
    (tSeq (tAsg (tOp rMod (tCall spMix2 [] E0 (tCons (tVar 8) (tCons (tC (.int 51)) tNil))) (tOp qSub (tVar 2) (tC (.int 1)))) (gName 10))
    (tSeq (tIfS (tB (tVar 4))
    (tSeq (tAsg (tOp rMod (tOp rMod (tOp rDiv (tVar 8) (tC (.int 5))) (tC (.int 8))) (tVar 2)) (gName 9))
    (tAsg (tOp rMod (tOp rMod (tOp rDiv (tVar 8) (tC (.int 40))) (tC (.int 8))) (tOp qSub (tVar 2) (tC (.int 1)))) (gName 10)))
    tNext)
    (tDrop (tBM K "list" rAppend (tVar 5) (tCons (tTup (tCons (tVar 9) (tCons (tOp rMod (tOp qAdd (tOp qAdd (tVar 9) (tC (.int 1))) (tVar 10)) (tVar 2)) tNil))) tNil)))))) D'
     [some (.ref a),some (.int t),some (.int s),some (.int kd),some (.bl pl),some (.ref l),some (.int (0+(i:Int))),u7,some (.int c),u9,u10,none,none] H3:=by
   intro D' fin
   have last:∀o st:Int,0≤o→o < s→0≤st→st < s - 1→FP s (o,(o+1+st) % s)∧(o+1+st) % s < s:=fun o st h1 h2 h3 h4 =>
    ⟨⟨h1,h2,Int.emod_nonneg _ (by omega),fun e=>near2 h1 h2 h3 h4 e.symm⟩,Int.emod_lt_of_pos _ (by omega)⟩
   walk_at "rd";refine ⟨c,50,rfl,by decide,by decide,fun y hy=>?_⟩;have y0:=Int.emod_nonneg y (b:=s) (by omega);have y1:=Int.emod_lt_of_pos y (b:=s) (by omega);walk_at "rd";refine ⟨c,51,rfl,by decide,by decide,fun w hw=>?_⟩;have w0:=Int.emod_nonneg w (b:=s - 1) (by omega);have w1:=Int.emod_lt_of_pos w (b:=s - 1) (by omega);walk_at "rd";cases pl with
   | true =>
    have z0:=Int.emod_nonneg (c / 5 % 8) (b:=s) (by omega);have z1:=Int.emod_lt_of_pos (c / 5 % 8) (b:=s) (by omega);have x0:=Int.emod_nonneg (c / 40 % 8) (b:=s - 1) (by omega);have x1:=Int.emod_lt_of_pos (c / 40 % 8) (b:=s - 1) (by omega);walk_at "rd";refine ⟨B.ty,?_⟩;walk_at "rd";refine k_pair B (by omega) fun H4 B4=>?_
    obtain ⟨o1,o2⟩:=last (c / 5 % 8 % s) (c / 40 % 8 % (s - 1)) z0 z1 x0 x1;exact fin _ _ ⟨_,_,_,_,_,_,rfl,B4,by simp;omega,fp_snoc fg o1,fun _=>ex_last o2⟩
   | false =>
    walk_at "rd";refine ⟨B.ty,?_⟩;walk_at "rd";refine k_pair B (by omega) fun H4 B4=>?_
    obtain ⟨o1,o2⟩:=last (y % s) (w % (s - 1)) y0 y1 w0 w1;exact fin _ _ ⟨_,_,_,_,_,_,rfl,B4,by simp;omega,fp_snoc fg o1,fun _=>ex_last o2⟩
  walk_at "rd";refine k_ite (fun z=>?_) (fun z=>?_)
  ·walk_at "rd1";exact draw _ fun σ' H' z=>z
  ·walk_at "rd";refine k_ite (fun y=>?_) (fun y=>?_)
   ·exact draw _ fun σ' H' z=>z
   ·walk_at "rd";exact ⟨gs,_,_,_,_,_,rfl,B,by omega,fg,fun _=>xg (.inl (by omega))⟩
 rintro σ H3 ⟨gs,u6,u7,u8,u9,u10,rfl,B,lg,fg,xg⟩;have xg':=xg (.inr (by decide));obtain ⟨xs,hl3,rx⟩:=B.at_;have lx:xs.length=gs.length:=by rw [rx.length,List.length_map]
 walk_at "rd";refine ⟨by decide,fun l2 nl2=>?_⟩;walk_at "rd";have S2:=same_new nl2 (.lst []);refine k_rlF (SqL.of (S2 _ _ hl3)) ?_
 refine fat_list (xs:=xs) (fun i σ H4=>∃(ps:List (Nat×Nat)) (w6 w7 w8 w9 w10 w12:Option V),σ = [some (.ref a),some (.int t),some (.int s),some (.int kd),some (.bl pl),some (.ref l),w6,w7,w8,w9,w10,some (.ref l2),w12]∧AccZ K H3 l2 H4 (ps.map dP)∧ps.Nodup∧ps.length≤8∧(∀q∈ps,PairOk s.toNat q)∧((∃q∈gs.take i,q.2 < s)→ps≠[]))
  ⟨[],u6,u7,u8,u9,u10,none,rfl,AccZ.start (Same.refl _) nl2,List.nodup_nil,by decide,by simp,by simp⟩ ?_ ?_ ?_
 ·rintro i σ H4 _ ⟨ps,w6,w7,w8,w9,w10,w12,rfl,C,_⟩;exact SqL.of (C.same _ _ hl3)
 ·rintro i z σ H4 hz ⟨ps,w6,w7,w8,w9,w10,w12,rfl,C,nd,l8,okp,hne⟩;obtain ⟨dd,g1,g2⟩:=rx.get hz;rw [List.getElem?_map] at g1;obtain ⟨g,eg,rfl⟩:=Option.map_eq_some_iff.mp g1;have og:=fg g (List.mem_of_getElem? eg);obtain ⟨tz,zs,e1,st,rt⟩:=(g2.same C.same).tup_at;cases e1;cases RpL.ints_of (ns:=[g.1,g.2]) rt;obtain ⟨x,y⟩:=g;obtain ⟨o0,o1,o2,o3⟩:=og;dsimp only at o0 o1 o2 o3
  have oo:y < s→PairOk s.toNat (x.toNat,y.toNat):=fun ys=>by
   clear hne xg xg' hx;exact ⟨by show x.toNat < s.toNat;omega,by show y.toNat < s.toNat;omega,by show x.toNat≠y.toNat;omega⟩
  have tk:gs.take (i+1)=gs.take i++[(x,y)]:=by rw [List.take_add_one,eg];rfl
  have old:(∃q∈gs.take (i+1),q.2 < s)→¬ y < s→∃q∈gs.take i,q.2 < s:=by
   rintro ⟨q,h1,h2⟩ ny;rw [tk] at h1;rcases List.mem_append.mp h1 with h | h
   ·exact ⟨q,h,h2⟩
   ·rw [List.mem_singleton.mp h] at h2;exact absurd h2 ny
  have st':H4 tz=some (.tup [.int x,.int y]):=st;refine k_gTup (SqT.of st') rfl ?_;walk_at "rd";refine ⟨by show 2≤sizeLine;decide,fun p np=>?_⟩;have S5:=same_new np (.tup [V.int x,.int y]);have C5:=C.on S5;have r5:Rz K (upd H4 p (.tup [V.int x,.int y])) (.ref p) (dI [x,y]):=.tup upd_same (RpL.ints [x,y])
  have eP:dI [x,y]=dP (x.toNat,y.toNat):=by
   show dI [x,y]=dI [((x.toNat:Nat):Int),((y.toNat:Nat):Int)];rw [Int.toNat_of_nonneg o0,Int.toNat_of_nonneg o2]
  rw [eP] at r5;walk_at "rd";refine k_notInD r5.rep C5.rep (fun e he=>by obtain ⟨b,_,rfl⟩:=List.mem_map.mp he;exact ok_dI _ 7) (ok_dI _ 7) (fun nm=>?_) (fun mm=>?_)
  ·walk_at "rd";refine k_ite (fun ys=>?_) (fun ys=>?_)
   ·obtain ⟨xs5,s5,n5,_⟩:=C5.sq;rw [List.length_map] at n5;walk_at "rd";refine k_lenL s5 ?_;walk_at "rd";refine k_ite (fun lt=>?_) (fun ge=>?_)
    ·walk_at "rd";refine ⟨C5.ty,?_⟩;walk_at "rd";refine ⟨by show 2≤sizeLine;decide,fun p' np'=>?_⟩;have S6:=same_new np' (.tup [V.int x,.int y]);refine k_nil ?_;refine k_appZ (C5.on S6) (d:=dP (x.toNat,y.toNat)) (by rw [← eP];exact .tup upd_same (RpL.ints [x,y])) (small1000 (by rw [List.length_map];omega)) fun H6 C6 _ _ _=>?_
     walk_at "rd";exact ⟨ps++[(x.toNat,y.toNat)],_,_,_,_,_,_,rfl,by rw [List.map_append];exact C6,nodup_snoc nd fun z=>nm (mem_dP.mpr z),by simp;omega,all_snoc okp (oo ys),by simp⟩
    ·have lz:ps=[]→False:=fun z=>by
      have z0:ps.length=0:=by rw [z];rfl
      clear hne xg xg' hx;omega
     walk_at "rd";exact ⟨ps,_,_,_,_,_,_,rfl,C5,nd,l8,okp,fun _ z=>lz z⟩
   ·walk_at "rd";exact ⟨ps,_,_,_,_,_,_,rfl,C5,nd,l8,okp,fun z=>hne (old z ys)⟩
  ·walk_at "rd";exact ⟨ps,_,_,_,_,_,_,rfl,C5,nd,l8,okp,fun _ z=>by rw [z] at mm;cases mm⟩
 ·rintro σ H4 ⟨ps,w6,w7,w8,w9,w10,w12,rfl,C,nd,l8,okp,hne⟩;rw [lx,List.take_of_length_le (Nat.le_refl _)] at hne;walk_at "rd";exact k l2 H4 ps (acc_back B.same C) nd l8 (hne xg') okp
end G2
namespace G2
open PySem L2 Fr G1
open PySem.W (Dat kqdOk)
def spVes2(K:Fg):Sp:=fun vs H Q _=>∃(a:Addr) (ns:List Int) (t:Int),vs=[.ref a,.int t]∧SqL K H a (ns.map V.int)∧0≤t∧∀(p:Addr) (H':Hp) (ws:List Str) (ts:List Tn),Same H H'→VesOk ws ts→Rz K H' (.ref p) (dV ws ts)→Q (.ref p) H'
theorem len_ves2{K:Fg}{vs:List V}{H:Hp}{Q:VK}{E:XK}{x y:Str}(h:spVes2 K vs H Q E):vs.length=[x,y].length:=by
 obtain ⟨a,b,c,rfl,_⟩:=h;rfl
def t_ves2(K:Fg):TS:=(tSeq (tAsg (tCall spMix2 [] E0 (tCons (tCall (spCell K) [] E0 (tCons (tVar 0) (tCons (tVar 1) tNil))) (tCons (tC (.int 1)) tNil))) (gName 2))
 (tSeq (tAsg (tOp qAdd (tC (.int 1)) (tOp rMod (tVar 2) (tC (.int 5)))) (gName 3))
 (tSeq (tAsg (tOp qAdd (tC (.int 2)) (tOp rMod (tOp rDiv (tVar 2) (tC (.int 5))) (tC (.int 3)))) (gName 4))
 (tSeq (tAsg (tOp rEq (tOp rMod (tOp rDiv (tVar 2) (tC (.int 1260))) (tC (.int 2))) (tC (.int 1))) (gName 5))
 (tSeq (tAsg (tCall (spPool2 K) [] E0 (tCons (tVar 0) (tCons (tOp qAdd (tVar 1) (tC (.int 1))) (tCons (tVar 3) (tCons (tOp qAdd (tC (.int 2)) (tOp rMod (tOp rDiv (tVar 2) (tC (.int 15))) (tC (.int 7)))) (tCons (tVar 4) (tCons (tVar 5) tNil))))))) (gName 6))
 (tSeq (tAsg (tCall (spPairs2 K) [] E0 (tCons (tVar 0) (tCons (tOp qAdd (tVar 1) (tC (.int 7))) (tCons (tCB (rLenQ K) (tCons (tVar 6) tNil)) (tCons (tOp rMod (tOp rDiv (tVar 2) (tC (.int 105))) (tC (.int 4))) (tCons (tVar 5) tNil)))))) (gName 7))
 (tSeq (tAsg (tLst tNil) (gName 8))
 (tSeq (tFor (iRng1 (tCons (tCB (rLenQ K) (tCons (tVar 7) tNil)) tNil)) (gName 9)
 (tSeq (tAsg (tCall (spCell K) [] E0 (tCons (tVar 0) (tCons (tOp qAdd (tOp qAdd (tVar 1) (tC (.int 7))) (tVar 9)) tNil))) (gName 10))
 (tSeq (tAsg (tOp (rIxL K) (tVar 7) (tVar 9)) (gTup K 2 (gCons (gName 11) (gCons (gName 12) gNil))))
 (tDrop (tBM K "list" rAppend (tVar 8) (tCons (tTup (tCons (tOp (rIxL K) (tVar 6) (tVar 11)) (tCons (tOp (rIxL K) (tVar 6) (tVar 12)) (tCons (tCall (spPace2 K) [] E0 (tCons (tOp rDiv (tVar 10) (tC (.int 320))) (tCons (tOp rMod (tOp rDiv (tVar 2) (tC (.int 420))) (tC (.int 3))) tNil))) tNil)))) tNil))))))
 (tRet (tTup (tCons (tCall (spWords2 K) [] E0 (tCons (tOp rDiv (tVar 2) (tC (.int 2520))) (tCons (tVar 3) tNil))) (tCons (tCB (rTupOf K) (tCons (tVar 8) tNil)) tNil))))))))))))
theorem rd_ves2{K:Fg}{vs:List V}{H:Hp}{Q:VK}{E:XK}{N:List Str}(hN:N.length=13)(h:spVes2 K vs H Q E):t_ves2 K (ends Q) (L2.start N vs) H:=by
 obtain ⟨a,ns,t,rfl,hS,t0,k⟩:=h;rw [show L2.start N [.ref a,.int t]=[some (.ref a),some (.int t),none,none,none,none,none,none,none,none,none,none,none] by unfold L2.start;rw [hN];rfl];unfold t_ves2;walk_at "rd";refine ⟨a,ns,t,rfl,hS,t0,?_⟩;generalize cellOf ns t=c;walk_at "rd";refine ⟨c,1,rfl,by decide,by decide,fun n ⟨n0,_⟩=>?_⟩;walk_at "rd";generalize decide (n / 1260 % 2=1)=pl;refine ⟨a,ns,t+1,1+n % 5,2+n / 15 % 7,2+n / 5 % 3,pl,rfl,hS,by omega,by omega,by omega,by omega,by omega,by omega,by omega,fun pp H1 hs A1 op h2 h8=>?_⟩;obtain ⟨xs,hpp,rz⟩:=A1.at_;have lx:xs.length=hs.length:=by rw [rz.length,List.length_map]
 have S1:=A1.same;walk_at "rd";refine k_lenL (SqL.of hpp) ?_;walk_at "rd";refine ⟨a,ns,t+7,(xs.length:Int),n / 105 % 4,pl,rfl,S1.seq hS,by omega,by omega,by omega,by omega,by omega,fun pr H2 ps A2 nd l8 ne okp=>?_⟩;obtain ⟨ys,hpr,ry⟩:=A2.at_;have ly:ys.length=ps.length:=by rw [ry.length,List.length_map]
 have S2:=A2.same;have S02:=S1.trans S2;walk_at "rd";refine ⟨by decide,fun l nl=>?_⟩;walk_at "rd";have Sl:=same_new nl (.lst []);refine k_lenL (SqL.of (Sl _ _ hpr)) ?_;rw [ly];walk_at "rd";have et:((ps.length:Nat):Int).toNat=ps.length:=by omega
 rw [et]
 refine fat_range (fun i σ H3=>∃(ts:List Tn) (v9 v10 v11 v12:Option V),σ = [some (.ref a),some (.int t),some (.int n),some (.int (1+n % 5)),some (.int (2+n / 5 % 3)),some (.bl pl),some (.ref pp),some (.ref pr),some (.ref l),v9,v10,v11,v12]∧AccZ K H2 l H3 (ts.map dT)∧ts.map ends2=(ps.take i).map (two hs)∧∀t∈ts,PaceOk t.q t.d)
  ⟨[],none,none,none,none,rfl,AccZ.start (Same.refl _) nl,rfl,by simp⟩ ?_ ?_
 ·rintro i σ H3 hi ⟨ts,v9,v10,v11,v12,rfl,A,em,pc⟩;have S3:=A.same
  have lts:ts.length=i:=by
   have:=congrArg List.length em
   rw [List.length_map,List.length_map,List.length_take] at this;omega
  have eq1:ps[i]? = some ps[i]:=List.getElem?_eq_getElem hi;have oq:=okp _ (List.getElem_mem hi);generalize ps[i]=q at eq1 oq;have oq1:q.1 < hs.length:=by have:=oq.1;omega
  have oq2:q.2 < hs.length:=by have:=oq.2.1;omega
  obtain ⟨w,ew,rw_⟩:=ry.get' (i:=i) (d:=dP q) (by rw [List.getElem?_map,eq1];rfl);walk_at "rd";refine ⟨a,ns,t+7+(0+(i:Int)),rfl,(S02.trans S3).seq hS,by omega,?_⟩;generalize cellOf ns (t+7+(0+(i:Int)))=c2;walk_at "rd";refine k_ixL (SqL.of (S3 _ _ hpr)) (v:=w) (by rw [Int.zero_add];exact atI_nat ew) ?_;obtain ⟨tz,zs,rfl,st,rt⟩:=(rw_.same S3).tup_at;cases RpL.ints_of (ns:=[(q.1:Int),(q.2:Int)]) rt;have st':H3 tz=some (.tup [.int (q.1:Int),.int (q.2:Int)]):=st;refine k_gTup (SqT.of st') rfl ?_;have g1:(hs.map dI)[q.1]? = some (dI (hs.getD q.1 [])):=by rw [List.getElem?_map,List.getD_eq_getElem?_getD,List.getElem?_eq_getElem oq1];rfl
  have g2:(hs.map dI)[q.2]? = some (dI (hs.getD q.2 [])):=by rw [List.getElem?_map,List.getD_eq_getElem?_getD,List.getElem?_eq_getElem oq2];rfl
  obtain ⟨w1,ew1,rw1⟩:=rz.get' g1;obtain ⟨w2,ew2,rw2⟩:=rz.get' g2;have S13:=S2.trans S3;walk_at "rd";refine ⟨A.ty,?_⟩;walk_at "rd";refine k_ixL (SqL.of (S13 _ _ hpp)) (atI_nat ew1) ?_;walk_at "rd";refine k_ixL (SqL.of (S13 _ _ hpp)) (atI_nat ew2) ?_;walk_at "rd";refine ⟨_,_,rfl,fun pa pq pd H4 S4 ok4 r4=>?_⟩;walk_at "rd";refine ⟨by show 3≤sizeLine;decide,fun pt npt=>?_⟩;have S5:=same_new npt (.tup [w1,w2,.ref pa]);have S15:=S13.trans (S4.trans S5);have r5:Rz K (upd H4 pt (.tup [w1,w2,.ref pa])) (.ref pt) (dT ⟨hs.getD q.1 [],hs.getD q.2 [],pq,pd⟩):=.tup upd_same (.cons (rw1.same S15) (.cons (rw2.same S15) (.cons (r4.same S5) .nil)));walk_at "rd";refine k_appZ (A.on (S4.trans S5)) r5 (small1000 (by rw [List.length_map];omega)) fun H6 A6 _ _ _=>?_
  walk_at "rd";refine ⟨ts++[_],_,_,_,_,rfl,by rw [List.map_append];exact A6,?_,all_snoc pc ok4⟩;rw [List.map_append,em,List.take_add_one,eq1,List.map_append];rfl
 ·rintro σ H3 ⟨ts,v9,v10,v11,v12,rfl,A,em,pc⟩;rw [List.take_of_length_le (Nat.le_refl _)] at em;have S3:=A.same;obtain ⟨zs,hl,rzs⟩:=A.at_;have gd:G1.Good hs ps ts:=⟨nd,l8,em,fun p hp=>by have:=okp p hp;have e:((xs.length:Nat):Int).toNat=hs.length:=(by omega);rw [e] at this;exact this,pc⟩
  have tk:=gd.turns op.1 ne;walk_at "rd";refine ⟨n / 2520,1+n % 5,rfl,by omega,by omega,by omega,fun pw H4 ws S4 ow lw r4=>?_⟩;walk_at "rd";refine k_tupL (SqL.of (S4 _ _ hl)) fun p np=>?_
  have S5:=same_new np (.tup zs);walk_at "rd";refine ⟨by show 2≤sizeLine;decide,fun r nr=>?_⟩;have S6:=same_new nr (.tup [.ref pw,.ref p]);have r5:Rz K (upd H4 p (.tup zs)) (.ref p) (.tuple (ts.map dT)):=.tup upd_same ((rzs.same S4).same S5);refine k r _ ws ts (S02.trans (S3.trans (S4.trans (S5.trans S6)))) ⟨ow,by omega,by omega,hs,?_,h8,tk⟩ (.tup upd_same (.cons ((r4.same S5).same S6) (.cons (r5.same S6) .nil)));rw [lw];exact op
end G2
namespace Ti
open PySem L2 Fr G1 Sm Vs G2
open PySem.W (Dat kqdOk)
def ix:List (List Int)→List Int→Nat
 | [],_=>0
 | x :: xs,h=>if x=h then 0 else ix xs h+1
theorem ix_at:∀{hs:List (List Int)} {h:List Int},h∈hs→hs[ix hs h]? = some h
 | x :: xs,h,m=>by
  unfold ix;by_cases e:x=h
  ·rw [if_pos e,e];rfl
  ·rw [if_neg e,List.getElem?_cons_succ];exact ix_at ((List.mem_cons.mp m).resolve_left fun z=>e z.symm)
theorem ix_first:∀{hs:List (List Int)} {h:List Int} {m:Nat},m < ix hs h→hs[m]?≠some h
 | [],_,m,l=>by unfold ix at l;omega
 | x :: xs,h,m,l=>by
  unfold ix at l;by_cases e:x=h
  ·rw [if_pos e] at l;omega
  ·rw [if_neg e] at l;cases m with
   | zero=>intro z;exact e (Option.some.inj z)
   | succ m=>rw [List.getElem?_cons_succ];exact ix_first (by omega)
theorem ix_of:∀{hs:List (List Int)} {h:List Int} {i:Nat},hs.Nodup→hs[i]? = some h→ix hs h=i
 | x :: xs,h,0,nd,e=>by
  unfold ix;rw [if_pos (Option.some.inj e)]
 | x :: xs,h,i+1,nd,e=>by
  rw [List.nodup_cons] at nd;rw [List.getElem?_cons_succ] at e;unfold ix;rw [if_neg (show ¬ x=h from fun z=>nd.1 (by rw [z];exact List.mem_of_getElem? e)),ix_of nd.2 e]
theorem ix_lt{hs:List (List Int)}{h:List Int}(m:h∈hs):ix hs h < hs.length:=(List.getElem?_eq_some_iff.mp (ix_at m)).1
theorem insH_old{hs:List (List Int)}{h x:List Int}(m:x∈hs):x∈insH hs h:=by
 unfold insH;split
 ·exact m
 ·exact List.mem_append_left _ m
theorem insH_new(hs:List (List Int))(h:List Int):h∈insH hs h:=by
 unfold insH;split
 ·assumption
 ·exact List.mem_append_right _ (List.mem_singleton.mpr rfl)
theorem hddF_old:∀{ts:List Tn} {hs:List (List Int)} {x:List Int},x∈hs→x∈hddF hs ts
 | [],_,_,m=>m
 | t :: ts,hs,x,m=>hddF_old (ts:=ts) (insH_old (insH_old m))
theorem hddF_new:∀{ts:List Tn} {hs:List (List Int)} {t:Tn},t∈ts→t.fr∈hddF hs ts∧t.to∈hddF hs ts
 | u :: ts,hs,t,m=>by
  rcases List.mem_cons.mp m with rfl | m
  ·exact ⟨hddF_old (ts:=ts) (insH_old (insH_new _ _)),hddF_old (ts:=ts) (insH_new _ _)⟩
  ·exact hddF_new (ts:=ts) m
theorem insH_nd{hs:List (List Int)}{h:List Int}(nd:hs.Nodup):(insH hs h).Nodup:=by
 unfold insH;split
 ·exact nd
 ·rename_i z;exact nodup_snoc nd z
theorem hddF_nd:∀(ts:List Tn) {hs:List (List Int)},hs.Nodup→(hddF hs ts).Nodup
 | [],_,nd=>nd
 | t :: ts,_,nd=>hddF_nd ts (insH_nd (insH_nd nd))
theorem hdd_nd(ts:List Tn):(hdd ts).Nodup:=hddF_nd ts List.nodup_nil
theorem hdd_len{ts:List Tn}(l:ts.length≤100):(hdd ts).length≤200:=by
 have:=hddF_len ts []
 unfold hdd;simp only [List.length_nil] at this;omega
def endsOf(ts:List Tn):List (Nat×Nat):=ts.map fun t=>(ix (hdd ts) t.fr,ix (hdd ts) t.to)
def EOk(n:Nat)(es:List (Nat×Nat)):Prop:=∀e∈es,e.1 < n∧e.2 < n
theorem ends_ok(ts:List Tn):EOk (hdd ts).length (endsOf ts):=fun e he=>by
 obtain ⟨t,ht,rfl⟩:=List.mem_map.mp he
 have:=hddF_new (hs:=[]) ht
 exact ⟨ix_lt this.1,ix_lt this.2⟩
def t_lheaps(K:Fg):TS:=(tSeq (tAsg (tLst tNil) (gName 1))
 (tSeq (tFor (iTup K (tOp (rIxT K) (tVar 0) (tC (.int 1)))) (gTup K 3 (gCons (gName 2) (gCons (gName 3) (gCons (gName 4) gNil))))
 (tFor (iList K (tLst (tCons (tVar 2) (tCons (tVar 3) tNil)))) (gName 5)
 (tIfS (tTest (tOp (rInD K true) (tVar 5) (tVar 1)))
 (tDrop (tBM K "list" rAppend (tVar 1) (tCons (tVar 5) tNil)))
 tNext)))
 (tRet (tVar 1))))
def part2(hs:List (List Int))(t:Tn):Nat→List (List Int)
 | 0=>hs
 | 1=>insH hs t.fr
 | _=>insH (insH hs t.fr) t.to
theorem rd_lheaps{K:Fg}{vs:List V}{H:Hp}{Q:VK}{E:XK}{N:List Str}(hN:N.length=6)(h:spHeaps K vs H Q E):t_lheaps K (ends Q) (L2.start N vs) H:=by
 obtain ⟨v,ws,ts,rfl,rv,hl,k⟩:=h;obtain ⟨a0,y1,y2,rfl,ha0,_,r2⟩:=dV_at rv;obtain ⟨a,xs,rfl,ha,rx⟩:=r2.tup_at;rw [show L2.start N [.ref a0]=[some (.ref a0),none,none,none,none,none] by unfold L2.start;rw [hN];rfl];have lx:xs.length=ts.length:=by rw [rx.length,List.length_map]
 unfold t_lheaps;walk_at "rd";refine ⟨by decide,fun l nl=>?_⟩;have Sl:=same_new nl (.lst []);walk_at "rd";refine k_ixT (SqT.of (Sl _ _ ha0)) (v:=.ref a) rfl ?_;refine k_rtF (SqT.of (Sl _ _ ha)) ?_;refine fat_tup (xs:=xs) (fun i σ H2=>∃u2 u3 u4 u5:Option V,σ = [some (.ref a0),some (.ref l),u2,u3,u4,u5]∧AccZ K H l H2 ((hdd (ts.take i)).map dI)) ⟨none,none,none,none,rfl,AccZ.start (Same.refl _) nl⟩ ?_ ?_ ?_
 ·rintro i σ H2 _ ⟨u2,u3,u4,u5,rfl,A⟩;exact SqT.of (A.same _ _ ha)
 ·rintro i z σ H2 hz ⟨u2,u3,u4,u5,rfl,A⟩;obtain ⟨dd,g1,g2⟩:=rx.get hz;rw [List.getElem?_map] at g1;obtain ⟨t,ht,rfl⟩:=Option.map_eq_some_iff.mp g1;obtain ⟨at_,v1,v2,v3,rfl,hat,r1,r2,_⟩:=dT_at (g2.same A.same);have ti:i < ts.length:=(List.getElem?_eq_some_iff.mp ht).1;refine k_gTup (SqT.of hat) rfl ?_;walk_at "rd";refine ⟨by show 2≤sizeLine;decide,fun pt npt=>?_⟩;have S3:=same_new npt (.lst [v1,v2]);have hpt:upd H2 pt (.lst [v1,v2]) pt=some (.lst [v1,v2]):=upd_same;have A3:=A.on S3;have q1:=r1.same S3;have q2:=r2.same S3
  have npl:pt≠l:=by
   obtain ⟨_,z,_⟩:=A.at_;exact (ne_of_none z npt).symm
  generalize upd H2 pt (.lst [v1,v2])=H3 at S3 hpt A3 q1 q2 ⊢;refine k_rlF (SqL.of hpt) ?_;have hl2:(hdd (ts.take i)).length≤200:=hdd_len (by rw [List.length_take];omega);generalize hhs:hdd (ts.take i)=hs at A3 hl2 A ⊢;refine fat_list (xs:=[v1,v2]) (fun j σ H4=>∃u:Option V,σ = [some (.ref a0),some (.ref l),some v1,some v2,some v3,u]∧AccZ K H l H4 ((part2 hs t j).map dI)∧H4 pt=some (.lst [v1,v2])∧Rz K H4 v1 (dI t.fr)∧Rz K H4 v2 (dI t.to)) ⟨_,rfl,A3,hpt,q1,q2⟩ ?_ ?_ ?_
  ·rintro j σ H4 _ ⟨u,rfl,_,e,_⟩;exact SqL.of e
  ·rintro j y σ H4 hy ⟨u,rfl,B,e,p1,p2⟩
   have go:∀(w:V) (g:List Int) (ds:List (List Int)) (D':Ends),Rz K H4 w (dI g)→AccZ K H l H4 (ds.map dI)→ds.length≤300→(∀H5,AccZ K H l H5 ((insH ds g).map dI)→H5 pt=some (.lst [v1,v2])→Rz K H5 v1 (dI t.fr)→Rz K H5 v2 (dI t.to)→D'.nx [some (.ref a0),some (.ref l),some v1,some v2,some v3,some w] H5) →
     (tIfS (tTest (tOp (rInD K true) (tVar 5) (tVar 1))) (tDrop (tBM K "list" rAppend (tVar 1) (tCons (tVar 5) tNil))) tNext) D' [some (.ref a0),some (.ref l),some v1,some v2,some v3,some w] H4:=by
    intro w g ds D' rw_ Bd ld fin;walk_at "rd";refine k_notInD rw_.rep Bd.rep (fun e he=>by obtain ⟨b,_,rfl⟩:=List.mem_map.mp he;exact ok_dI b 7) (ok_dI g 7) (fun nm=>?_) (fun mm=>?_)
    ·walk_at "rd";refine ⟨Bd.ty,?_⟩;walk_at "rd";refine k_appZ Bd rw_ (small1000 (by rw [List.length_map];omega)) fun H5 A5 keepZ keepB _=>?_
     refine fin H5 ?_ ((keepB pt npl).trans e) (keepZ p1) (keepZ p2);unfold insH;rw [if_neg (fun z=>nm (mem_dI.mpr z)),List.map_append];exact A5
    ·walk_at "rd";refine fin H4 ?_ e p1 p2;unfold insH;rw [if_pos (mem_dI.mp mm)];exact Bd
   match j,hy with
   | 0,hy =>
    cases Option.some.inj hy;exact go v1 t.fr hs _ p1 B (by omega) fun H5 A5 e5 z1 z2=>⟨_,rfl,A5,e5,z1,z2⟩
   | 1,hy =>
    cases Option.some.inj hy;exact go v2 t.to (insH hs t.fr) _ p2 B (by have:=insH_len hs t.fr;omega) fun H5 A5 e5 z1 z2=>⟨_,rfl,A5,e5,z1,z2⟩
   | j+2,hy=>simp at hy
  ·rintro σ H4 ⟨u,rfl,B,e,p1,p2⟩;refine ⟨_,_,_,_,rfl,?_⟩;have et:ts.take (i+1)=ts.take i++[t]:=by rw [List.take_add_one,ht];rfl
   have ep:hdd (ts.take (i+1))=part2 hs t 2:=by
    rw [et,← hhs];exact hddF_snoc [] (ts.take i) t
   rw [ep];exact B
 ·rintro σ H2 ⟨u2,u3,u4,u5,rfl,A⟩;rw [lx,List.take_of_length_le (Nat.le_refl _)] at A;walk_at "rd";exact k l H2 A
def spEnds(K:Fg):Sp:=fun vs H Q _=>∃(v:V) (ws:List Str) (ts:List Tn),vs=[v]∧Rz K H v (dV ws ts)∧ts.length≤100∧∀(p:Addr) (H':Hp),AccZ K H p H' ((endsOf ts).map dP)→Q (.ref p) H'
theorem len_ends{K:Fg}{vs:List V}{H:Hp}{Q:VK}{E:XK}{x:Str}(h:spEnds K vs H Q E):vs.length=[x].length:=by
 obtain ⟨a,b,c,rfl,_⟩:=h;rfl
theorem ends_at{K:Fg}{H:Hp}{σ : St}{Q:VK}{te:TE}{b:Addr}{xs:List V}{ts:List Tn}(l:ts.length≤100)(hb:H b=some (.tup xs))(rx:RzL K H xs (ts.map dT))
  (ht:∀(H2:Hp) (v:V) (t:Tn) (Q':VK),t∈ts→Same H H2→Rz K H2 v (dT t)→(∀p,H2 p=none→Q' (.ref p) (upd H2 p (.tup [.int (ix (hdd ts) t.fr),.int (ix (hdd ts) t.to)])))→te (some v :: σ) H2 Q')
  (hq:∀(D:Addr) (H':Hp),AccZ K H D H' ((endsOf ts).map dP)→Q (.ref D) H'):CompAt (Itt K b) te σ Q H:=by
 have lx:xs.length=ts.length:=by rw [rx.length,List.length_map]
 refine comp_tup (xs:=xs) fun D nD=>⟨fun i H2=>AccZ K H D H2 (((ts.take i).map fun t=>(ix (hdd ts) t.fr,ix (hdd ts) t.to)).map dP),AccZ.start (Same.refl _) nD,fun i H2 _ A=>SqT.of (A.same _ _ hb),?_,?_⟩
 ·intro i z H2 hz A;obtain ⟨dd,g1,g2⟩:=rx.get hz;rw [List.getElem?_map] at g1;obtain ⟨t,et,rfl⟩:=Option.map_eq_some_iff.mp g1;have li:i < ts.length:=(List.getElem?_eq_some_iff.mp et).1;refine ht H2 z t _ (List.mem_of_getElem? et) A.same (g2.same A.same) fun p np=>?_
  have S3:=same_new np (.tup [V.int (ix (hdd ts) t.fr),.int (ix (hdd ts) t.to)]);refine pushed (by omega) ((A.on S3).pushK (d:=dP (ix (hdd ts) t.fr,ix (hdd ts) t.to)) (.tup upd_same (RpL.ints [_,_])) (small1000 ?_) fun H4 A4=>?_)
  ·rw [List.length_map,List.length_map,List.length_take];omega
  ·show AccZ K H D H4 (((ts.take (i+1)).map fun t=>(ix (hdd ts) t.fr,ix (hdd ts) t.to)).map dP);rw [List.take_add_one,et,List.map_append,List.map_append];exact A4
 ·intro H2 A;rw [lx,List.take_of_length_le (Nat.le_refl _)] at A;exact hq D H2 A
def t_lends(K:Fg):TS:=(tSeq (tAsg (tCall (spHeaps K) [] E0 (tCons (tVar 0) tNil)) (gName 1))
 (tRet (tComp (iTup K (tOp (rIxT K) (tVar 0) (tC (.int 1)))) (tTup (tCons (tBM K "list" (rIndex K) (tVar 2) (tCons (tOp (rIxT K) (tVar 0) (tC (.int 0))) tNil)) (tCons (tBM K "list" (rIndex K) (tVar 2) (tCons (tOp (rIxT K) (tVar 0) (tC (.int 1))) tNil)) tNil))))))
theorem rd_lends{K:Fg}{vs:List V}{H:Hp}{Q:VK}{E:XK}{N:List Str}(hN:N.length=2)(h:spEnds K vs H Q E):t_lends K (ends Q) (L2.start N vs) H:=by
 obtain ⟨v,ws,ts,rfl,rv,hl,k⟩:=h;rw [show L2.start N [v]=[some v,none] by unfold L2.start;rw [hN];rfl];unfold t_lends;walk_at "rd";refine ⟨v,ws,ts,rfl,rv,hl,fun p H1 A1=>?_⟩;have S1:=A1.same;obtain ⟨a0,y1,y2,rfl,ha0,_,r2⟩:=dV_at (rv.same S1);obtain ⟨a,xs,rfl,ha,rx⟩:=r2.tup_at;have hl2:=hdd_len hl;walk_at "rd";refine k_ixT (SqT.of ha0) (v:=.ref a) rfl ?_;refine k_rtC (SqT.of ha) ?_;refine ends_at hl ha rx (fun H2 z t Q' mt S2 rz q=>?_) fun D H' A=>k D H' (acc_back S1 A)
 obtain ⟨b,w1,w2,w3,rfl,hb,q1,q2,_⟩:=dT_at rz;have mm:=hddF_new (hs:=[]) mt;have A2:=A1.on S2;have okd:∀e∈(hdd ts).map dI,kqdOk 8 e=true:=fun e he=>by obtain ⟨b,_,rfl⟩:=List.mem_map.mp he;exact ok_dI b 7
 have first:∀{g:List Int} {m:Nat},m < ix (hdd ts) g→((hdd ts).map dI)[m]?≠some (dI g):=fun hm z=>by
  rw [List.getElem?_map] at z;obtain ⟨g',e1,e2⟩:=Option.map_eq_some_iff.mp z;exact ix_first hm (by rw [e1,dI_inj e2])
 have at_:∀{g:List Int},g∈hdd ts→((hdd ts).map dI)[ix (hdd ts) g]? = some (dI g):=fun m=>by rw [List.getElem?_map,ix_at m];rfl
 walk_at "rd";refine ⟨A2.ty,?_⟩;walk_at "rd";refine k_ixT (SqT.of hb) (v:=w1) rfl ?_;walk_at "rd";refine k_index q1.rep A2.rep okd (ok_dI _ 7) (at_ mm.1) (fun m hm=>first hm) (by rw [List.length_map];omega) ?_;walk_at "rd";refine ⟨A2.ty,?_⟩;walk_at "rd";refine k_ixT (SqT.of hb) (v:=w2) rfl ?_;walk_at "rd";refine k_index q2.rep A2.rep okd (ok_dI _ 7) (at_ mm.2) (fun m hm=>first hm) (by rw [List.length_map];omega) ?_;walk_at "rd";exact ⟨by show 2≤sizeLine;decide,q⟩
def t_hnum(K:Fg):TS:=(tSeq (tAsg tDNewT (gName 1))
 (tSeq (tFor (iEnum K (tCons (tCall (spHeaps K) [] E0 (tCons (tVar 0) tNil)) tNil)) (gTup K 2 (gCons (gName 2) (gCons (gName 3) gNil)))
 (sDPut (tVar 1) (tVar 3) (tVar 2)))
 (tRet (tComp (iTup K (tOp (rIxT K) (tVar 0) (tC (.int 1)))) (tTup (tCons (tDGet (tVar 2) (tOp (rIxT K) (tVar 0) (tC (.int 0)))) (tCons (tDGet (tVar 2) (tOp (rIxT K) (tVar 0) (tC (.int 1)))) tNil)))))))
theorem rd_hnum{K:Fg}{vs:List V}{H:Hp}{Q:VK}{E:XK}{N:List Str}(hN:N.length=4)(h:spEnds K vs H Q E):t_hnum K (ends Q) (L2.start N vs) H:=by
 obtain ⟨v,ws,ts,rfl,rv,hl,k⟩:=h;rw [show L2.start N [v]=[some v,none,none,none] by unfold L2.start;rw [hN];rfl];have hl2:=hdd_len hl;have nd:=hdd_nd ts;unfold t_hnum;walk_at "rd";intro d fd;have S0:=same_new fd (.dT []);walk_at "rd";refine ⟨v,ws,ts,rfl,rv.same S0,hl,fun p H1 A1=>?_⟩;obtain ⟨xs,hp,rx⟩:=A1.at_;have lx:xs.length=(hdd ts).length:=by rw [rx.length,List.length_map]
 have S1:=A1.same;have e1:H1 d=some (.dT []):=S1 _ _ upd_same;walk_at "rd";refine ⟨p,xs,rfl,SqL.of hp,?_⟩
 refine fat_enum (xs:=xs) (fun i σ H2=>∃(kvs:List (List Key×V)) (u2 u3:Option V),σ = [some v,some (.ref d),u2,u3]∧Same H H2∧(∀b o,b≠d→H1 b=some o→H2 b=some o)∧H2 d=some (.dT kvs)∧kvs.length≤i∧∀g:List Int,g∈(hdd ts).take i→valV kvs (toK g)=some (.int (ix (hdd ts) g)))
  ⟨[],none,none,rfl,S0.trans S1,fun _ _ _ z=>z,e1,Nat.le_refl _,by simp⟩ ?_ ?_ ?_
 ·rintro i σ H2 _ ⟨kvs,u2,u3,rfl,S,kp,ed,ek,eg⟩;exact SqL.of (kp p _ (ne_of hp e1 (by intro z;cases z)) hp)
 ·rintro i z σ H2 T hz ⟨kvs,u2,u3,rfl,S,kp,ed,ek,eg⟩ nT;obtain ⟨dd,g1,g2⟩:=rx.get hz;rw [List.getElem?_map] at g1;obtain ⟨g,hg,rfl⟩:=Option.map_eq_some_iff.mp g1;have li:i < (hdd ts).length:=(List.getElem?_eq_some_iff.mp hg).1;obtain ⟨b,rfl,hb⟩:=dI_at g2;have nbd:b≠d:=ne_of hb e1 (by intro z;cases z);have S2:=same_new nT (.tup [.int (i:Int),.ref b]);have nTd:T≠d:=(ne_of_none ed nT).symm;have ed2:=S2 _ _ ed;have hb2:=S2 _ _ (kp b _ nbd hb);refine k_gTup (SqT.of upd_same) rfl ?_;walk_at "rd";refine ⟨d,_,rfl,DPut.t ed2 (k:=toK g) (by rw [toK_kV];exact hb2) (small1000 (by omega)),?_⟩;have le1:=length_putK kvs (toK g) (.int (i:Int));refine ⟨_,_,_,rfl,fun b' o q=>?_,fun b' o n q=>?_,upd_same,by omega,fun g' mg=>?_⟩
  ·rw [upd_ne (ne_of_none q fd)];exact S2 _ _ (S _ _ q)
  ·rw [upd_ne n];exact S2 _ _ (kp b' o n q)
  ·rw [valV_put];by_cases e:toK g'=toK g
   ·rw [if_pos e,toK_inj e,ix_of nd hg]
   ·rw [if_neg e];refine eg g' ?_;rw [List.take_add_one,hg] at mg;rcases List.mem_append.mp mg with m | m
    ·exact m
    ·exact absurd (by rw [List.mem_singleton.mp m]) e
 ·rintro σ H2 ⟨kvs,u2,u3,rfl,S,kp,ed,ek,eg⟩;rw [lx,List.take_of_length_le (Nat.le_refl _)] at eg;obtain ⟨a0,y1,y2,rfl,ha0,_,r2⟩:=dV_at (rv.same S);obtain ⟨a,zs,rfl,ha,rz⟩:=r2.tup_at;walk_at "rd";refine k_ixT (SqT.of ha0) (v:=.ref a) rfl ?_;refine k_rtC (SqT.of ha) ?_;refine ends_at hl ha rz (fun H3 z t Q' mt S3 rt q=>?_) fun D H' A=>k D H' (acc_back S A)
  obtain ⟨b,w1,w2,w3,rfl,hb,q1,q2,_⟩:=dT_at rt;obtain ⟨b1,rfl,hb1⟩:=dI_at q1;obtain ⟨b2,rfl,hb2⟩:=dI_at q2;have mm:=hddF_new (hs:=[]) mt;walk_at "rd";refine k_ixT (SqT.of hb) (v:=.ref b1) rfl ?_;refine ⟨d,_,rfl,(by have:=DGet.t (S3 _ _ ed) (k:=toK t.fr) (b:=b1) (by rw [toK_kV];exact hb1);rw [eg t.fr mm.1] at this;exact this),?_⟩;walk_at "rd";refine k_ixT (SqT.of hb) (v:=.ref b2) rfl ?_;refine ⟨d,_,rfl,(by have:=DGet.t (S3 _ _ ed) (k:=toK t.to) (b:=b2) (by rw [toK_kV];exact hb2);rw [eg t.to mm.2] at this;exact this),?_⟩;walk_at "rd";exact ⟨by show 2≤sizeLine;decide,q⟩
end Ti
namespace Ti
open PySem L2 Fr G1 Sm Vs G2
open PySem.W (Dat kqdOk)
theorem nodup_len{α : Type}[DecidableEq α]:∀{l hs:List α},l.Nodup→(∀x∈l,x∈hs)→l.length≤hs.length
 | [],_,_,_=>Nat.zero_le _
 | x :: l,hs,nd,sub=>by
  rw [List.nodup_cons] at nd;have hx:=sub x List.mem_cons_self
  have h:=nodup_len (l:=l) (hs:=hs.erase x) nd.2 fun y hy=>by
   refine (List.mem_erase_of_ne ?_).mpr (sub y (List.mem_cons_of_mem _ hy));rintro rfl;exact nd.1 hy
  rw [List.length_erase_of_mem hx] at h
  have:=List.length_pos_of_mem hx
  rw [List.length_cons];omega
theorem nodup_full{α : Type}[DecidableEq α]{l hs:List α}(nd:l.Nodup)(sub:∀x∈l,x∈hs)(le:hs.length≤l.length):∀y∈hs,y∈l:=fun y hy=>by
 by_cases z:y∈l
 ·exact z
 ·have h:=nodup_len (l:=l) (hs:=hs.erase y) nd fun x hx=>(List.mem_erase_of_ne (by rintro rfl;exact z hx)).mpr (sub x hx)
  rw [List.length_erase_of_mem hy] at h
  have:=List.length_pos_of_mem hy
  omega
inductive Rch (es:List (Nat×Nat)) (a:Nat):Nat→Prop
 | refl:Rch es a a
 | step {x y:Nat}:Rch es a x→(x,y)∈es→Rch es a y
def Cl(es:List (Nat×Nat))(S:List Nat):Prop:=∀e∈es,e.1∈S→e.2∈S
theorem rch_in{es:List (Nat×Nat)}{S:List Nat}{a b:Nat}(ha:a∈S)(c:Cl es S)(h:Rch es a b):b∈S:=by
 induction h with
 | refl=>exact ha
 | step _ m ih=>exact c _ m ih
def dN(n:Nat):Dat:=.int (n:Int)
theorem mem_dN{x:Nat}{ns:List Nat}:dN x∈ns.map dN↔x∈ns:=by
 rw [List.mem_map];constructor
 ·rintro ⟨b,hb,e⟩;have e':=Dat.int.inj e
  have:b=x:=Int.ofNat.inj e'
  rw [← this];exact hb
 ·intro h;exact ⟨x,h,rfl⟩
theorem ok_dN(ns:List Nat):∀e∈ns.map dN,kqdOk 8 e=true:=fun e he=>by
 obtain ⟨b,_,rfl⟩:=List.mem_map.mp he;rfl
def spReach(K:Fg):Sp:=fun vs H Q _=>∃(p:Addr) (xs:List V) (es:List (Nat×Nat)) (a:Nat),vs=[.ref p,.int (a:Int)]∧H p=some (.lst xs)∧RzL K H xs (es.map dP)∧es.length≤100 ∧
 ∀(q:Addr) (H':Hp) (ns:List Nat),AccZ K H q H' (ns.map dN)→ns.Nodup→(∀x,x∈ns↔Rch es a x)→Q (.ref q) H'
theorem len_reach{K:Fg}{vs:List V}{H:Hp}{Q:VK}{E:XK}{x y:Str}(h:spReach K vs H Q E):vs.length=[x,y].length:=by
 obtain ⟨a,b,c,d,rfl,_⟩:=h;rfl
theorem dP_at{K:Fg}{H:Hp}{v:V}{q:Nat×Nat}(h:Rz K H v (dP q)):∃a:Addr,v = .ref a∧H a=some (.tup [.int (q.1:Int),.int (q.2:Int)]):=by
 obtain ⟨a,xs,e,ha,r⟩:=h.tup_at;cases RpL.ints_of (ns:=[(q.1:Int),(q.2:Int)]) r;exact ⟨a,e,ha⟩
def t_reach(K:Fg):TS:=(tSeq (tAsg (tLst (tCons (tVar 1) tNil)) (gName 2))
 (tSeq (tFor (iRng1 (tCons (tCB (rLenQ K) (tCons (tVar 0) tNil)) tNil)) (gName 3)
 (tFor (iList K (tVar 0)) (gTup K 2 (gCons (gName 4) (gCons (gName 5) gNil)))
 (tIfS (tAnd (tTest (tOp (rInD K false) (tVar 4) (tVar 2))) (tTest (tOp (rInD K true) (tVar 5) (tVar 2))))
 (tDrop (tBM K "list" rAppend (tVar 2) (tCons (tVar 5) tNil)))
 tNext)))
 (tRet (tVar 2))))
theorem rd_reach{K:Fg}{vs:List V}{H:Hp}{Q:VK}{E:XK}{N:List Str}(hN:N.length=6)(h:spReach K vs H Q E):t_reach K (ends Q) (L2.start N vs) H:=by
 obtain ⟨p,xs,es,a,rfl,hp,rx,le,k⟩:=h;rw [show L2.start N [.ref p,.int (a:Int)]=[some (.ref p),some (.int (a:Int)),none,none,none,none] by unfold L2.start;rw [hN];rfl];have lx:xs.length=es.length:=by rw [rx.length,List.length_map]
 unfold t_reach;walk_at "rd";refine ⟨by show 1≤sizeLine;decide,fun l nl=>?_⟩;have Sl:=same_new nl (.lst [.int (a:Int)]);have A0:AccZ K H l (upd H l (.lst [.int (a:Int)])) ([a].map dN):=⟨Sl,nl,[.int (a:Int)],upd_same,.cons (.int _) .nil⟩
 walk_at "rd";refine k_lenL (SqL.of (Sl _ _ hp)) ?_;rw [lx];walk_at "rd";have et:((es.length:Nat):Int).toNat=es.length:=by omega
 rw [et]
 refine fat_range (fun i σ H2=>∃(ns:List Nat) (u3 u4 u5:Option V),σ = [some (.ref p),some (.int (a:Int)),some (.ref l),u3,u4,u5]∧AccZ K H l H2 (ns.map dN)∧ns.Nodup∧(∀x∈ns,Rch es a x)∧a∈ns∧(∀x∈ns,x∈a :: es.map (·.2))∧(Cl es ns∨i+1≤ns.length))
  ⟨[a],none,none,none,rfl,A0,by simp,fun x hx=>by rw [List.mem_singleton.mp hx];exact .refl,by simp,fun x hx=>by rw [List.mem_singleton.mp hx];exact List.mem_cons_self,.inr (Nat.le_refl _)⟩ ?_ ?_
 ·rintro i σ H2 hi ⟨ns,u3,u4,u5,rfl,A,nd,rc,ma,sub,cl⟩;walk_at "rd";refine k_rlF (SqL.of (A.same _ _ hp)) ?_
  refine fat_list (xs:=xs) (fun j σ H3=>∃(ms:List Nat) (w4 w5:Option V),σ = [some (.ref p),some (.int (a:Int)),some (.ref l),some (.int (0+(i:Int))),w4,w5]∧AccZ K H l H3 (ms.map dN)∧ms.Nodup∧(∀x∈ms,Rch es a x)∧a∈ms∧(∀x∈ms,x∈a :: es.map (·.2)) ∧
    ((ms=ns∧∀m < j,∀e,es[m]? = some e→e.1∈ns→e.2∈ns)∨(ns.length < ms.length∧¬ Cl es ns)))
   ⟨ns,u4,u5,rfl,A,nd,rc,ma,sub,.inl ⟨rfl,fun m hm=>absurd hm (Nat.not_lt_zero _)⟩⟩ ?_ ?_ ?_
  ·rintro j σ H3 _ ⟨ms,w4,w5,rfl,B,_⟩;exact SqL.of (B.same _ _ hp)
  ·rintro j z σ H3 hz ⟨ms,w4,w5,rfl,B,nd2,rc2,ma2,sub2,alt⟩;obtain ⟨dd,g1,g2⟩:=rx.get hz;rw [List.getElem?_map] at g1;obtain ⟨e,he,rfl⟩:=Option.map_eq_some_iff.mp g1;obtain ⟨x,y⟩:=e;obtain ⟨b,rfl,hb⟩:=dP_at (g2.same B.same);have mem:(x,y)∈es:=List.mem_of_getElem? he
   have lm:ms.length≤101:=by
    have:=nodup_len nd2 sub2
    rw [List.length_cons,List.length_map] at this;omega
   have keep:(x∈ms→y∈ms)→((ms=ns∧∀m < j+1,∀e,es[m]? = some e→e.1∈ns→e.2∈ns)∨(ns.length < ms.length∧¬ Cl es ns)):=fun z=>by
    rcases alt with ⟨e1,e2⟩ | q
    ·refine .inl ⟨e1,fun m hm e' ge=>?_⟩;by_cases mj:m < j
     ·exact e2 m mj e' ge
     ·have:m=j:=by omega
      rw [this,he] at ge;cases Option.some.inj ge;rw [← e1];exact z
    ·exact .inr q
   refine k_gTup (SqT.of hb) rfl ?_;walk_at "rd";refine k_inD (d:=dN x) (.int _) B.rep (ok_dN ms) rfl (fun mx=>?_) (fun mx=>?_)
   ·walk_at "rd";refine k_notInD (d:=dN y) (.int _) B.rep (ok_dN ms) rfl (fun my=>?_) (fun my=>?_)
    ·have ny:y∉ms:=fun z=>my (mem_dN.mpr z)
     have mx':=mem_dN.mp mx;walk_at "rd";refine ⟨B.ty,?_⟩;walk_at "rd";refine k_appZ B (d:=dN y) (.int _) (small1000 (by rw [List.length_map];omega)) fun H4 B4 _ _ _=>?_
     walk_at "rd";refine ⟨ms++[y],_,_,rfl,by rw [List.map_append];exact B4,nodup_snoc nd2 ny,all_snoc rc2 (.step (rc2 x mx') mem),List.mem_append_left _ ma2,all_snoc sub2 (List.mem_cons_of_mem _ (List.mem_map.mpr ⟨_,mem,rfl⟩)),.inr ?_⟩;rcases alt with ⟨e1,e2⟩ | ⟨q1,q2⟩
     ·rw [← e1];exact ⟨by simp,fun c=>ny (c _ mem mx')⟩
     ·exact ⟨by simp;omega,q2⟩
    ·walk_at "rd";exact ⟨ms,_,_,rfl,B,nd2,rc2,ma2,sub2,keep fun _=>mem_dN.mp my⟩
   ·walk_at "rd";exact ⟨ms,_,_,rfl,B,nd2,rc2,ma2,sub2,keep fun z=>absurd (mem_dN.mpr z) mx⟩
  ·rintro σ H3 ⟨ms,w4,w5,rfl,B,nd2,rc2,ma2,sub2,alt⟩;refine ⟨ms,_,_,_,rfl,B,nd2,rc2,ma2,sub2,?_⟩;rcases alt with ⟨e1,e2⟩ | ⟨q1,q2⟩
   ·refine .inl fun e he=>?_
    obtain ⟨m,hm,ge⟩:=List.mem_iff_getElem.mp he;rw [e1];exact e2 m (by omega) e (by rw [List.getElem?_eq_getElem hm,ge])
   ·exact .inr (by have:=cl.resolve_left q2;omega)
 ·rintro σ H2 ⟨ns,u3,u4,u5,rfl,A,nd,rc,ma,sub,cl⟩
  have c:Cl es ns:=by
   rcases cl with c | l1
   ·exact c
   ·have f:=nodup_full nd sub (by rw [List.length_cons,List.length_map];exact l1);exact fun e he _=>f _ (List.mem_cons_of_mem _ (List.mem_map.mpr ⟨e,he,rfl⟩))
  walk_at "rd";exact k l H2 ns A nd fun x=>⟨rc x,rch_in ma c⟩
end Ti
namespace L2
open PySem
open PySem.W (Dat)
theorem RpL.erase{K:Fg}{S:Addr→Prop}{H:Hp}:∀{vs:List V} {ds:List Dat} (j:Nat),RpL K S H vs ds→RpL K S H (vs.eraseIdx j) (ds.eraseIdx j)
 | _,_,_,.nil=>.nil
 | _,_,0,.cons _ r=>r
 | _,_,j+1,.cons h r=>.cons h (RpL.erase j r)
end L2
namespace Sz
open PySem L2 Fr G1 Sm Vs G2 Rk
open PySem.W (Dat kqdOk)
def dL(r:List Int):Dat:=.list (r.map Dat.int)
theorem dL_inj{a b:List Int}(h:dL a=dL b):a=b:=by
 have:=Dat.list.inj h
 exact (List.map_inj_right (fun x y e=>Dat.int.inj e)).mp this
theorem ok_dL(ns:List Int)(n:Nat):kqdOk (n+1) (dL ns)=true:=by
 show ((ns.map Dat.int).all (kqdOk n))=true;rw [List.all_eq_true];intro x hx;obtain ⟨i,_,rfl⟩:=List.mem_map.mp hx;cases n <;> rfl
theorem dL_at{K:Fg}{S:Addr→Prop}{H:Hp}{v:V}{r:List Int}(h:Rp K S H v (dL r)):∃b,v = .ref b∧S b∧H b=some (.lst (r.map V.int)):=by
 obtain ⟨b,xs,rfl,s,hb,rx⟩:=Rp.lst_at h;rw [RpL.ints_of rx] at hb;exact ⟨b,rfl,s,hb⟩
theorem dL_of{K:Fg}{S:Addr→Prop}{H:Hp}{b:Addr}{r:List Int}(s:S b)(h:H b=some (.lst (r.map V.int))):Rp K S H (.ref b) (dL r):=.lst s h (RpL.ints r)
def Bnd(n:Nat)(R:List (List Int)):Prop:=∀r∈R,∀c∈r,c.natAbs < 2 ^ n
theorem pt_bnd{n:Nat}{r:List Int}(h:∀c∈r,c.natAbs < 2 ^ n)(p:Nat):(pt r p).natAbs < 2 ^ n:=by
 unfold pt;rw [List.getD_eq_getElem?_getD];cases e:r[p]? with
 | none=>exact Nat.two_pow_pos n
 | some c=>exact h c (List.mem_of_getElem? e)
theorem clr_bnd{n:Nat}{by_ r:List Int}{p:Nat}(hb:∀c∈by_,c.natAbs < 2 ^ n)(hr:∀c∈r,c.natAbs < 2 ^ n):∀c∈clr by_ p r,c.natAbs < 2 ^ (2*n+1):=by
 intro c hc;unfold clr at hc;obtain ⟨i,hi⟩:=List.getElem?_of_mem hc;rw [List.getElem?_zipWith] at hi;cases e1:r[i]? with
 | none=>rw [e1] at hi;simp at hi
 | some one =>
  cases e2:by_[i]? with
  | none=>rw [e1,e2] at hi;simp at hi
  | some two =>
   rw [e1,e2] at hi;have hi':=Option.some.inj hi;subst hi'
   have m1:(one*pt by_ p).natAbs < 2 ^ n*2 ^ n:=by
    rw [Int.natAbs_mul];exact Nat.mul_lt_mul'' (hr one (List.mem_of_getElem? e1)) (pt_bnd hb p)
   have m2:(pt r p*two).natAbs < 2 ^ n*2 ^ n:=by
    rw [Int.natAbs_mul];exact Nat.mul_lt_mul'' (pt_bnd hr p) (hb two (List.mem_of_getElem? e2))
   have e:2 ^ (2*n+1)=2 ^ n*2 ^ n+2 ^ n*2 ^ n:=by
    rw [Nat.pow_succ,Nat.two_mul n,Nat.pow_add];omega
   rw [e];generalize one*pt by_ p=x at m1 ⊢;generalize pt r p*two=y at m2 ⊢;generalize 2 ^ n*2 ^ n=z at m1 m2 ⊢;show (x - y).natAbs < z+z;omega
def szAt(R:List (List Int))(i:Nat):Nat×List (List Int):=(List.range i).foldl szStep (0,R)
theorem szAt_succ(R:List (List Int))(i:Nat):szAt R (i+1)=szStep (szAt R i) i:=by
 unfold szAt;rw [List.range_succ,List.foldl_append];rfl
theorem rmv_mem{by_ r:List Int}{R:List (List Int)}(h:r∈rmv by_ R):r∈R:=by
 induction R with
 | nil=>exact h
 | cons x R ih =>
  unfold rmv at h;split at h
  ·exact List.mem_cons_of_mem _ h
  ·rcases List.mem_cons.mp h with rfl | h
   ·exact List.mem_cons_self
   ·exact List.mem_cons_of_mem _ (ih h)
theorem rmv_len{by_:List Int}{R:List (List Int)}:(rmv by_ R).length≤R.length:=by
 induction R with
 | nil=>exact Nat.le_refl _
 | cons x R ih =>
  unfold rmv;split
  ·exact Nat.le_succ _
  ·exact Nat.succ_le_succ ih
structure SzK (w L b i:Nat) (st:Nat×List (List Int)):Prop where
 wide:Wide w st.2
 len:st.2.length≤L
 many:st.1≤i
 bnd:Bnd ((b+1)*2 ^ i - 1) st.2
theorem Bnd.mono{m n:Nat}{R:List (List Int)}(h:Bnd m R)(l:m≤n):Bnd n R:=fun r hr c hc=>Nat.lt_of_lt_of_le (h r hr c hc) (Nat.pow_le_pow_right (by decide) l)
theorem szK_step{w L b i:Nat}{st:Nat×List (List Int)}(I:SzK w L b i st):SzK w L b (i+1) (szStep st i):=by
 have e2:(b+1)*2 ^ (i+1)=2*((b+1)*2 ^ i):=by rw [Nat.pow_succ,← Nat.mul_assoc,Nat.mul_comm]
 have pos:0 < (b+1)*2 ^ i:=Nat.mul_pos (Nat.succ_pos _) (Nat.two_pow_pos i);unfold szStep;split
 ·exact ⟨I.wide,I.len,Nat.le_succ_of_le I.many,I.bnd.mono (by omega)⟩
 ·rename_i by_ rest e;have mb:by_∈st.2:=(List.mem_filter.mp (show by_∈st.2.filter (fun r=>pt r i≠0) by rw [e];exact List.mem_cons_self)).1;refine ⟨fun r hr=>?_,?_,Nat.succ_le_succ I.many,fun r hr=>?_⟩
  ·obtain ⟨s,hs,rfl⟩:=List.mem_map.mp hr;rw [clr_len (by rw [I.wide s (rmv_mem hs),I.wide by_ mb]),I.wide by_ mb]
  ·rw [List.length_map];exact Nat.le_trans rmv_len I.len
  ·obtain ⟨s,hs,rfl⟩:=List.mem_map.mp hr
   have:=clr_bnd (p:=i) (I.bnd by_ mb) (I.bnd s (rmv_mem hs))
   have e3:2*((b+1)*2 ^ i - 1)+1=(b+1)*2 ^ (i+1) - 1:=by omega
   rw [e3] at this;exact this
theorem szK_at{w L b:Nat}{R:List (List Int)}(hw:Wide w R)(hl:R.length≤L)(hb:Bnd b R):∀i,SzK w L b i (szAt R i)
 | 0=>⟨hw,hl,Nat.le_refl _,by simpa [szAt] using hb⟩
 | i+1=>by rw [szAt_succ];exact szK_step (szK_at hw hl hb i)
theorem rmv_at{by_:List Int}:∀{R:List (List Int)},by_∈R→∃j,R[j]? = some by_∧(∀m,m < j→R[m]?≠some by_)∧R.eraseIdx j=rmv by_ R
 | r :: R,h=>by
  unfold rmv;by_cases e:r=by_
  ·exact ⟨0,by rw [e];rfl,fun m hm=>absurd hm (Nat.not_lt_zero _),by rw [if_pos e];rfl⟩
  ·obtain ⟨j,h1,h2,h3⟩:=rmv_at ((List.mem_cons.mp h).resolve_left fun z=>e z.symm);refine ⟨j+1,h1,fun m hm=>?_,by rw [if_neg e,List.eraseIdx_cons_succ,h3]⟩;cases m with
   | zero=>exact fun z=>e (Option.some.inj z)
   | succ m=>exact h2 m (by omega)
def spSize(K:Fg):Sp:=fun vs H Q _=>∃(v:V) (R:List (List Int)) (w b:Nat),vs=[v]∧Rp K (fun _=>True) H v (.list (R.map dL))∧Wide w R∧R.length≤100∧w≤100∧Bnd b R∧(b+1)*2 ^ w≤40000∧∀H',Same H H'→Q (.int (size w R)) H'
theorem len_size{K:Fg}{vs:List V}{H:Hp}{Q:VK}{E:XK}{x:Str}(h:spSize K vs H Q E):vs.length=[x].length:=by
 obtain ⟨a,b,c,d,rfl,_⟩:=h;rfl
theorem mul_ok{n:Nat}{x y:Int}(h:n≤20000)(hx:x.natAbs < 2 ^ n)(hy:y.natAbs < 2 ^ n):CMulW x y:=⟨Nat.lt_of_lt_of_le hx (Nat.pow_le_pow_right (by decide) h),Nat.lt_of_lt_of_le hy (Nat.pow_le_pow_right (by decide) h)⟩
def t_size(K:Fg):TS:=(tSeq (tAsg (tComp (iList K (tVar 0)) (tCB (rListOf K) (tCons (tVar 0) tNil))) (gName 1))
 (tSeq (tAsg (tC (.int 0)) (gName 2))
 (tSeq (tAsg (tCB (rMaxL K) (tCons (tOp rCat (tLst (tCons (tC (.int 0)) tNil)) (tComp (iList K (tVar 1)) (tCB (rLenQ K) (tCons (tVar 0) tNil)))) tNil)) (gName 3))
 (tSeq (tFor (iRng1 (tCons (tVar 3) tNil)) (gName 4)
 (tSeq (tAsg (tCompF (iList K (tVar 1)) 1 (gName 0) (tTest (tOp rNe (tOp (rIxL K) (tVar 0) (tVar 5)) (tC (.int 0)))) (tVar 0)) (gName 5))
 (tIfS (tTest (tOp rGt (tCB (rLenQ K) (tCons (tVar 5) tNil)) (tC (.int 0))))
 (tSeq (tAsg (tOp (rIxL K) (tVar 5) (tC (.int 0))) (gName 6))
 (tSeq (tDrop (tBM K "list" (rRemove K) (tVar 1) (tCons (tVar 6) tNil)))
 (tSeq (tAsg (tOp qAdd (tVar 2) (tC (.int 1))) (gName 2))
 (tAsg (tCompG (iList K (tVar 1)) 1 (gName 0) (tCompG (iZip K .L .L (tCons (tVar 0) (tCons (tVar 7) tNil))) 2 (gTup K 2 (gCons (gName 0) (gCons (gName 1) gNil))) (tOp qSub (tOp rMulW (tVar 0) (tOp (rIxL K) (tVar 9) (tVar 7))) (tOp rMulW (tOp (rIxL K) (tVar 2) (tVar 7)) (tVar 1))))) (gName 1)))))
 tNext)))
 (tRet (tVar 2))))))
theorem size_nil(n:Nat):size n []=0:=by
 have:∀n,(List.range n).foldl szStep (0,[])=(0,[]):=by
  intro n
  induction n with
  | zero=>rfl
  | succ n ih=>rw [List.range_succ,List.foldl_append,ih];rfl
 unfold size;rw [this]
theorem atI_row{r:List Int}{i:Nat}(h:i < r.length):atI (r.map V.int) ((i:Nat):Int)=some (V.int (pt r i)):=by
 refine atI_nat ?_;unfold pt;rw [List.getElem?_map,List.getD_eq_getElem?_getD,List.getElem?_eq_getElem h];rfl
theorem map_erase{α β : Type}(f : α→β):∀(l:List α) (j:Nat),(l.map f).eraseIdx j=(l.eraseIdx j).map f
 | [],_=>rfl
 | _ :: _,0=>rfl
 | x :: l,j+1=>by
  show f x :: (l.map f).eraseIdx j=f x :: (l.eraseIdx j).map f;rw [map_erase f l j]
theorem rd_size{K:Fg}{vs:List V}{H:Hp}{Q:VK}{E:XK}{N:List Str}(hN:N.length=7)(h:spSize K vs H Q E):t_size K (ends Q) (L2.start N vs) H:=by
 obtain ⟨v,R,w,b,rfl,rv,hw,hl,hw1,hb,hbw,k⟩:=h;obtain ⟨a,xs,rfl,_,ha,rx⟩:=Rp.lst_at rv;rw [show L2.start N [.ref a]=[some (.ref a),none,none,none,none,none,none] by unfold L2.start;rw [hN];rfl];have lx:xs.length=R.length:=by rw [rx.length,List.length_map]
 unfold t_size;walk_at "rd";refine k_rlC (SqL.of ha) ?_;refine comp_list (xs:=xs) fun D nD=>⟨fun i H2=>Acc K H D H2 ((R.take i).map dL),by simpa using Acc.start nD,fun i H2 _ A=>SqL.of (A.same _ _ ha),?_,?_⟩
 ·intro i x H2 hx A;obtain ⟨d,g1,g2⟩:=rx.get hx;rw [List.getElem?_map] at g1;obtain ⟨r,hr,rfl⟩:=Option.map_eq_some_iff.mp g1;obtain ⟨b0,rfl,_,hb0⟩:=dL_at g2;walk_at "rd";refine k_listL (SqL.of (A.same _ _ hb0)) fun l nl=>?_
  refine pushed (List.getElem?_eq_some_iff.mp hx).1 ?_;refine A.pushK (same_new nl _) (d:=dL r) (dL_of nl upd_same) (small1000 ?_) fun H3 A3=>?_
  ·rw [List.length_map,List.length_take];omega
  ·show Acc K H D H3 ((R.take (i+1)).map dL);rw [List.take_add_one,hr,List.map_append];exact A3
 intro H1 A;rw [List.take_of_length_le (by omega)] at A;walk_at "rd";refine ⟨by decide,fun p np=>?_⟩;have S1:=same_new np (.lst [.int 0]);have hp:upd H1 p (.lst [.int 0]) p=some (.lst [.int 0]):=upd_same;have A1:=A.on S1;generalize upd H1 p (.lst [.int 0])=H2 at S1 hp A1 ⊢;walk_at "rd";obtain ⟨ys,hD,ry⟩:=A1.at_;have ly:ys.length=R.length:=by rw [ry.length,List.length_map]
 refine k_rlC (SqL.of hD) ?_;refine comp_list (xs:=ys) fun D2 nD2=>⟨fun i H3=>AccZ K H2 D2 H3 (((R.take i).map fun r=>(r.length:Int)).map Dat.int),by simpa using AccZ.start (Same.refl _) nD2,fun i H3 _ B=>SqL.of (B.same _ _ hD),?_,?_⟩
 ·intro i x H3 hx B;obtain ⟨d,g1,g2⟩:=ry.get hx;rw [List.getElem?_map] at g1;obtain ⟨r,hr,rfl⟩:=Option.map_eq_some_iff.mp g1;obtain ⟨b0,rfl,_,hb0⟩:=dL_at g2;walk_at "rd";refine k_lenL (SqL.of (B.same _ _ hb0)) ?_;refine pushed (List.getElem?_eq_some_iff.mp hx).1 ?_;refine B.pushK (.int _) (small1000 ?_) fun H4 B4=>?_
  ·rw [List.length_map,List.length_map,List.length_take];omega
  ·show AccZ K H2 D2 H4 (((R.take (i+1)).map fun r=>(r.length:Int)).map Dat.int);rw [List.take_add_one,hr,List.map_append,List.map_append];rw [List.length_map] at B4;exact B4
 intro H3 B;rw [List.take_of_length_le (by omega)] at B;have hD2:=AccZ.ints B;refine ⟨p,D2,_,_,rfl,rfl,B.same _ _ hp,hD2,?_,fun q nq=>?_⟩
 ·have:([V.int 0]).length+((R.map fun r=>(r.length:Int)).map V.int).length < sizeLine:=small1000 (by simp;omega)
  omega
 have S4:=same_new nq (.lst ([V.int 0]++(R.map fun r=>(r.length:Int)).map V.int));have hq:upd H3 q (.lst ([V.int 0]++(R.map fun r=>(r.length:Int)).map V.int)) q=some (.lst ((0 :: R.map fun r=>(r.length:Int)).map V.int)):=upd_same;have A4:=(A1.on B.same).on S4;generalize upd H3 q (.lst ([V.int 0]++(R.map fun r=>(r.length:Int)).map V.int))=H4 at S4 hq A4 ⊢;walk_at "rd";refine ⟨q,_,rfl,SqL.of hq,List.cons_ne_nil _ _,fun m hm hx=>?_⟩
 obtain ⟨W,rfl,hWw,hWs⟩:∃W:Nat,m=W∧W≤w∧size W R=size w R:=by
  cases R with
  | nil =>
   have:m=0:=by simpa using hm
   exact ⟨0,this,Nat.zero_le _,by rw [size_nil,size_nil]⟩
  | cons r R =>
   have h1:=hx (r.length:Int) (by simp);have hr:=hw r List.mem_cons_self;rcases List.mem_cons.mp hm with e | e
   ·exact ⟨w,by omega,Nat.le_refl _,rfl⟩
   ·obtain ⟨r',h',e'⟩:=List.mem_map.mp e
    have:=hw r' h'
    exact ⟨w,by omega,Nat.le_refl _,rfl⟩
 clear hm hx;walk_at "rd";rw [Int.toNat_natCast];refine fat_range (fun i σ H5=>∃(D:Addr) (u4 u5 u6:Option V),σ = [some (.ref a),some (.ref D),some (.int (szAt R i).1),some (.int W),u4,u5,u6]∧Acc K H D H5 ((szAt R i).2.map dL)) ⟨D,_,_,_,rfl,A4⟩ ?_ ?_
 ·clear A4 hq S4 hD2 B nq q D2 nD2 hD ry A1 S1 hp np p A nD D ly ys hWs;rintro i σ H2 hi ⟨D,u4,u5,u6,rfl,A⟩;have I:=szK_at hw hl hb i;have en:=szAt_succ R i
  have bits:(b+1)*2 ^ i≤20000:=by
   have h1:2 ^ (i+1)≤2 ^ w:=Nat.pow_le_pow_right (by decide) (by omega);have h2:=Nat.mul_le_mul_left (b+1) h1;have h3:(b+1)*2 ^ (i+1)=(b+1)*2 ^ i*2:=by rw [Nat.pow_succ,Nat.mul_assoc]
   omega
  rw [en];generalize szAt R i=st at I A ⊢;obtain ⟨ys,hD,ry⟩:=A.at_;have ly:ys.length=st.2.length:=by rw [ry.length,List.length_map]
  have iw:i < w:=by omega
  have lst:st.2.length≤100:=I.len;rw [Int.zero_add];walk_at "rd";refine ⟨D,rfl,⟨ys,SqL.of hD⟩,?_⟩;refine compF_list (xs:=ys) fun P nP=>⟨fun j H3=>Same H2 H3∧∃ps,H3 P=some (.lst ps)∧RpL K (fun a=>H2 a≠none∧a≠D) H3 ps (((st.2.take j).filter (fun r=>pt r i≠0)).map dL),⟨same_new nP _,[],upd_same,by simpa using RpL.nil⟩,fun j H3 _ q=>SqL.of (q.1 _ _ hD),?_,?_⟩
  ·rintro j x H3 hx ⟨S3,ps,hP,rp⟩ us hu;obtain ⟨u0,rfl⟩:∃u,us=[u]:=List.length_eq_one_iff.mp hu;obtain ⟨d,g1,g2⟩:=ry.get hx;rw [List.getElem?_map] at g1;obtain ⟨r,hr,rfl⟩:=Option.map_eq_some_iff.mp g1;obtain ⟨b0,rfl,s0,hb0⟩:=dL_at g2;have lj:=(List.getElem?_eq_some_iff.mp hx).1;have lr:i < r.length:=by rw [I.wide r (List.mem_of_getElem? hr)];exact iw
   walk_at "rd";refine ⟨⟨[some (.ref b0)],rfl,rfl⟩,?_⟩;walk_at "rd";refine k_ixL (SqL.of (S3 _ _ hb0)) (atI_row lr) ?_;walk_at "rd";refine k_iteN (fun nz=>?_) (fun z=>?_)
   ·walk_at "rd";refine pushed lj ⟨ps,hP,small1000 ?_,fun b o q=>?_,_,upd_same,?_⟩
    ·have h1:=rp.length;rw [List.length_map] at h1;have h2:=List.length_filter_le (fun r=>decide (pt r i≠0)) (st.2.take j);rw [List.length_take] at h2;omega
    ·rw [upd_ne (ne_of_none q nP)];exact S3 b o q
    ·have e:(st.2.take (j+1)).filter (fun r=>pt r i≠0)=(st.2.take j).filter (fun r=>pt r i≠0)++[r]:=by
      rw [List.take_add_one,hr,List.filter_append];simp [nz]
     rw [e,List.map_append];refine (rp.append (.cons (dL_of ⟨by rw [hb0];simp,s0.2⟩ (S3 _ _ hb0)) .nil)).agr (Agr.of_upd hP fun z=>z.1 nP)
   ·refine skipped lj ⟨S3,ps,hP,?_⟩
    have e:(st.2.take (j+1)).filter (fun r=>pt r i≠0)=(st.2.take j).filter (fun r=>pt r i≠0):=by
     rw [List.take_add_one,hr,List.filter_append];simp [z]
    rw [e];exact rp
  rintro H3 ⟨S3,ps,hP,rp⟩;rw [List.take_of_length_le (by omega)] at rp;walk_at "rd";refine k_lenL (SqL.of hP) ?_;walk_at "rd";cases hf:st.2.filter (fun r=>pt r i≠0) with
  | nil =>
   rw [hf] at rp;have e0:ps=[]:=by cases rp;rfl
   subst e0;refine k_ite (fun l0=>absurd l0 (by decide)) (fun _=>?_);walk_at "rd";have eS:szStep st i=st:=by unfold szStep;rw [hf]
   rw [eS];exact ⟨D,_,_,_,rfl,A.on S3⟩
  | cons by_ rest =>
   rw [hf] at rp
   obtain ⟨v0,ps',rfl,r0⟩:∃v0 ps',ps=v0 :: ps'∧Rp K (fun a=>H2 a≠none∧a≠D) H3 v0 (dL by_):=by
    cases rp with
    | cons h r=>exact ⟨_,_,rfl,h⟩
   obtain ⟨bb,rfl,sb,hbb⟩:=dL_at r0;refine k_ite (fun _=>?_) (fun l0=>absurd (by simp) l0);walk_at "rd";refine k_ixL (SqL.of hP) (v:=.ref bb) (atI_nat (j:=0) rfl) ?_;walk_at "rd";refine ⟨k_tyL (S3 _ _ hD),?_⟩;walk_at "rd";have mb:by_∈st.2:=(List.mem_filter.mp (show by_∈st.2.filter (fun r=>pt r i≠0) by rw [hf];exact List.mem_cons_self)).1;obtain ⟨j,j1,j2,j3⟩:=rmv_at mb;refine ⟨D,ys,.ref bb,st.2.map dL,dL by_,j,rfl,rfl,S3 _ _ hD,(ry.same S3).rep,r0.rep,fun e he=>by obtain ⟨x,_,rfl⟩:=List.mem_map.mp he;exact ok_dL x 7,ok_dL by_ 7,by rw [List.getElem?_map,j1];rfl,fun m hm z=>?_,?_⟩
   ·rw [List.getElem?_map] at z;obtain ⟨x,h1,h2⟩:=Option.map_eq_some_iff.mp z;exact j2 m hm (by rw [h1,dL_inj h2])
   have ry4:=(RpL.erase j (ry.same S3)).agr (Agr.of_upd (S3 _ _ hD) (o:=.lst (ys.eraseIdx j)) fun z=>z.2 rfl);rw [map_erase,j3] at ry4;have same4:Same H (upd H3 D (.lst (ys.eraseIdx j))):=fun b o q=>by rw [upd_ne (ne_of_none q A.new)];exact S3 b o (A.same b o q)
   have hbb4:upd H3 D (.lst (ys.eraseIdx j)) bb=some (.lst (by_.map V.int)):=by rw [upd_ne sb.2];exact hbb
   have hD4:upd H3 D (.lst (ys.eraseIdx j)) D=some (.lst (ys.eraseIdx j)):=upd_same;generalize upd H3 D (.lst (ys.eraseIdx j))=H4 at ry4 same4 hbb4 hD4 ⊢;have eS:szStep st i=(st.1+1,(rmv by_ st.2).map (clr by_ i)):=by unfold szStep;rw [hf]
   have hbw:=I.wide by_ mb;have lrm:(rmv by_ st.2).length≤100:=Nat.le_trans rmv_len lst;have ly4:(ys.eraseIdx j).length=(rmv by_ st.2).length:=by rw [ry4.length,List.length_map]
   walk_at "rd";refine ⟨D,rfl,⟨_,SqL.of hD4⟩,?_⟩;refine comp_listG (xs:=ys.eraseIdx j) fun D2 nD2=>⟨fun m H5=>Acc K H4 D2 H5 ((((rmv by_ st.2).take m).map (clr by_ i)).map dL),by simpa using Acc.start nD2,fun m H5 _ B=>SqL.of (B.same _ _ hD4),?_,?_⟩
   ·intro m x H5 hx B us hu;obtain ⟨u0,rfl⟩:∃u,us=[u]:=List.length_eq_one_iff.mp hu;obtain ⟨d,g1,g2⟩:=ry4.get hx;rw [List.getElem?_map] at g1;obtain ⟨r,hr,rfl⟩:=Option.map_eq_some_iff.mp g1;obtain ⟨b0,rfl,s0,hb0⟩:=dL_at g2;have mr:r∈st.2:=rmv_mem (List.mem_of_getElem? hr);have hrw:=I.wide r mr;walk_at "rd";refine ⟨⟨[some (.ref b0)],rfl,rfl⟩,?_⟩;walk_at "rd";refine ⟨b0,bb,_,_,rfl,SqL.of (B.same _ _ hb0),SqL.of (B.same _ _ hbb4),?_⟩;refine comp_zip (xs:=r.map V.int) (ys:=by_.map V.int) fun D3 nD3=>⟨fun m H6=>AccZ K H5 D3 H6 (((clr by_ i r).take m).map Dat.int),AccZ.start (Same.refl _) nD3,fun m H6 _ C=>⟨SqL.of (C.same _ _ (B.same _ _ hb0)),SqL.of (C.same _ _ (B.same _ _ hbb4))⟩,?_,?_⟩
    ·intro m y1 y2 H6 T e1 e2 C nT us hu
     obtain ⟨u1,u2,rfl⟩:∃u0 u1,us=[u0,u1]:=by
      match us,hu with
      | [u0,u1],_=>exact ⟨u0,u1,rfl⟩
     rw [List.getElem?_map] at e1 e2;obtain ⟨m1,f1,rfl⟩:=Option.map_eq_some_iff.mp e1;obtain ⟨m2,f2,rfl⟩:=Option.map_eq_some_iff.mp e2;have ec:(clr by_ i r)[m]? = some (m1*pt by_ i - pt r i*m2):=by unfold clr;rw [List.getElem?_zipWith,f1,f2]
     have lm:=(List.getElem?_eq_some_iff.mp f1).1;have lm2:=(List.getElem?_eq_some_iff.mp f2).1;have C2:=C.on (same_new nT (.tup [.int m1,.int m2]));have hT:upd H6 T (.tup [.int m1,.int m2]) T=some (.tup [.int m1,.int m2]):=upd_same;generalize upd H6 T (.tup [.int m1,.int m2])=H7 at C2 hT ⊢;refine k_gTup (SqT.of hT) rfl ?_;walk_at "rd";refine ⟨⟨[some (.int m1),some (.int m2)],rfl,rfl⟩,?_⟩;walk_at "rd";refine k_ixL (SqL.of (C2.same _ _ (B.same _ _ hbb4))) (atI_row (by omega)) ?_;refine ⟨m1,pt by_ i,rfl,rfl,mul_ok (by omega) (I.bnd r mr _ (List.mem_of_getElem? f1)) (pt_bnd (I.bnd by_ mb) i),?_⟩;walk_at "rd";refine k_ixL (SqL.of (C2.same _ _ (B.same _ _ hb0))) (atI_row (by omega)) ?_;walk_at "rd";refine ⟨pt r i,m2,rfl,rfl,mul_ok (by omega) (pt_bnd (I.bnd r mr) i) (I.bnd by_ mb _ (List.mem_of_getElem? f2)),?_⟩;walk_at "rd";refine pushed (by rw [List.length_map,List.length_map];omega) ?_;refine C2.pushK (.int _) (small1000 ?_) fun H8 C8=>?_
     ·rw [List.length_map,List.length_take];omega
     ·show AccZ K H5 D3 H8 (((clr by_ i r).take (m+1)).map Dat.int);rw [List.take_add_one,ec,List.map_append];exact C8
    ·intro H6 C;have lc:(clr by_ i r).length=by_.length:=clr_len (by omega);rw [List.take_of_length_le (by rw [List.length_map,List.length_map];omega)] at C;refine pushed (List.getElem?_eq_some_iff.mp hx).1 ?_;refine B.pushK C.same (d:=dL (clr by_ i r)) C.ref (small1000 ?_) fun H8 B8=>?_
     ·rw [List.length_map,List.length_map,List.length_take];omega
     ·show Acc K H4 D2 H8 ((((rmv by_ st.2).take (m+1)).map (clr by_ i)).map dL);rw [List.take_add_one,hr,List.map_append,List.map_append];exact B8
   ·intro H5 B;rw [List.take_of_length_le (by omega)] at B;walk_at "rd";refine ⟨D2,_,_,_,by rw [eS];rfl,?_⟩;rw [eS];obtain ⟨zs,z1,z2⟩:=B.at_;exact ⟨same4.trans B.same,same4.free B.new,zs,z1,z2.mono fun _ z=>⟨same4.free z.1,z.2⟩⟩
 ·rintro σ H5 ⟨D,u4,u5,u6,rfl,A⟩;walk_at "rd"
  have:=k H5 A.same
  rw [← hWs] at this;exact this
def chg(t:Tn):List Int:=List.zipWith (fun a b=>b - a) t.fr t.to
def spChanges(K:Fg):Sp:=fun vs H Q _=>∃(v:V) (ws:List Str) (ts:List Tn),vs=[v]∧Rz K H v (dV ws ts)∧ts.length≤100∧(∀t∈ts,t.fr.length≤100)∧∀(p:Addr) (H':Hp),Acc K H p H' ((ts.map chg).map dL)→Q (.ref p) H'
theorem len_changes{K:Fg}{vs:List V}{H:Hp}{Q:VK}{E:XK}{x:Str}(h:spChanges K vs H Q E):vs.length=[x].length:=by
 obtain ⟨a,b,c,rfl,_⟩:=h;rfl
def t_lchgs(K:Fg):TS:=(tSeq (tAsg (tLst tNil) (gName 1))
 (tSeq (tFor (iTup K (tOp (rIxT K) (tVar 0) (tC (.int 1)))) (gTup K 3 (gCons (gName 2) (gCons (gName 3) (gCons (gName 4) gNil))))
 (tDrop (tBM K "list" rAppend (tVar 1) (tCons (tCompG (iZip K .T .T (tCons (tVar 2) (tCons (tVar 3) tNil))) 2 (gTup K 2 (gCons (gName 0) (gCons (gName 1) gNil))) (tOp qSub (tVar 1) (tVar 0))) tNil))))
 (tRet (tVar 1))))
theorem rd_lchgs{K:Fg}{vs:List V}{H:Hp}{Q:VK}{E:XK}{N:List Str}(hN:N.length=5)(h:spChanges K vs H Q E):t_lchgs K (ends Q) (L2.start N vs) H:=by
 obtain ⟨v,ws,ts,rfl,rv,hl,hf,k⟩:=h;obtain ⟨a0,y1,y2,rfl,ha0,_,r2⟩:=dV_at rv;obtain ⟨a,xs,rfl,ha,rx⟩:=r2.tup_at;rw [show L2.start N [.ref a0]=[some (.ref a0),none,none,none,none] by unfold L2.start;rw [hN];rfl];have lx:xs.length=ts.length:=by rw [rx.length,List.length_map]
 unfold t_lchgs;walk_at "rd";refine ⟨by decide,fun l nl=>?_⟩;have Sl:=same_new nl (.lst []);walk_at "rd";refine k_ixT (SqT.of (Sl _ _ ha0)) (v:=.ref a) rfl ?_;refine k_rtF (SqT.of (Sl _ _ ha)) ?_;refine fat_tup (xs:=xs) (fun i σ H2=>∃u2 u3 u4:Option V,σ = [some (.ref a0),some (.ref l),u2,u3,u4]∧Acc K H l H2 (((ts.take i).map chg).map dL)) ⟨none,none,none,rfl,by simpa using Acc.start nl⟩ ?_ ?_ ?_
 ·rintro i σ H2 _ ⟨u2,u3,u4,rfl,A⟩;exact SqT.of (A.same _ _ ha)
 ·rintro i z σ H2 hz ⟨u2,u3,u4,rfl,A⟩;obtain ⟨dd,g1,g2⟩:=rx.get hz;rw [List.getElem?_map] at g1;obtain ⟨t,ht,rfl⟩:=Option.map_eq_some_iff.mp g1;obtain ⟨at_,v1,v2,v3,rfl,hat,r1,r2,_⟩:=dT_at (g2.same A.same);have ti:i < ts.length:=(List.getElem?_eq_some_iff.mp ht).1;have hf3:=hf t (List.mem_of_getElem? ht);obtain ⟨b1,rfl,hb1⟩:=dI_at r1;obtain ⟨b2,rfl,hb2⟩:=dI_at r2;refine k_gTup (SqT.of hat) rfl ?_;walk_at "rd";refine ⟨A.ty,?_⟩;walk_at "rd";refine ⟨b1,b2,_,_,rfl,SqT.of hb1,SqT.of hb2,?_⟩;refine comp_zip (xs:=t.fr.map V.int) (ys:=t.to.map V.int) fun D nD=>?_
  have ml:min (t.fr.map V.int).length (t.to.map V.int).length=(chg t).length:=by unfold chg;rw [List.length_zipWith,List.length_map,List.length_map]
  refine ⟨fun i H3=>AccZ K H2 D H3 (((chg t).take i).map Dat.int),AccZ.start (Same.refl _) nD,fun i H3 _ B=>⟨SqT.of (B.same _ _ hb1),SqT.of (B.same _ _ hb2)⟩,?_,?_⟩
  ·intro i y1 y2 H3 T e1 e2 B nT us hu
   obtain ⟨u0,u1,rfl⟩:∃u0 u1,us=[u0,u1]:=by
    match us,hu with
    | [u0,u1],_=>exact ⟨u0,u1,rfl⟩
   rw [List.getElem?_map] at e1 e2;obtain ⟨m1,f1,rfl⟩:=Option.map_eq_some_iff.mp e1;obtain ⟨m2,f2,rfl⟩:=Option.map_eq_some_iff.mp e2;have ec:(chg t)[i]? = some (m2 - m1):=by unfold chg;rw [List.getElem?_zipWith,f1,f2]
   have li:i < (chg t).length:=(List.getElem?_eq_some_iff.mp ec).1;refine k_gTup (SqT.of upd_same) rfl ?_;walk_at "rd";refine ⟨⟨[some (.int m1),some (.int m2)],rfl,rfl⟩,?_⟩;walk_at "rd";refine pushed (by rw [ml];exact li) ?_;refine (B.on (same_new nT _)).pushK (.int (m2 - m1)) (small1000 ?_) fun H4 A4=>?_
   ·rw [List.length_map,List.length_take]
    have:=(List.getElem?_eq_some_iff.mp f1).1
    omega
   ·show AccZ K H2 D H4 (((chg t).take (i+1)).map Dat.int);rw [List.take_add_one,ec,List.map_append];exact A4
  ·intro H3 B;rw [ml,List.take_of_length_le (Nat.le_refl _)] at B;walk_at "rd";obtain ⟨zs,z1,z2,z3⟩:=A.pushN B.same (d:=dL (chg t)) B.ref;refine ⟨l,zs,_,rfl,rfl,z1,small1000 (by rw [z2,List.length_map,List.length_map,List.length_take];omega),?_⟩;refine ⟨_,_,_,rfl,?_⟩;rw [List.take_add_one,ht,List.map_append,List.map_append];exact z3
 ·rintro σ H2 ⟨u2,u3,u4,rfl,A⟩;rw [List.take_of_length_le (by omega)] at A;walk_at "rd";exact k l H2 A
end Sz
namespace Sf
open Rk Sz
def fp(r:List Int):Option Nat:=r.findIdx? (fun x=>decide (x≠0))
theorem fp_some{r:List Int}{i:Nat}(h:fp r=some i):i < r.length∧pt r i≠0∧∀j,j < i→pt r j=0:=by
 unfold fp at h;rw [List.findIdx?_eq_some_iff_getElem] at h;obtain ⟨l,h1,h2⟩:=h;refine ⟨l,?_,fun j hj=>?_⟩
 ·unfold pt;rw [List.getD_eq_getElem?_getD,List.getElem?_eq_getElem l];simpa using h1
 ·have:=h2 j hj
  unfold pt;rw [List.getD_eq_getElem?_getD,List.getElem?_eq_getElem (by omega)];simpa using this
theorem fp_none{r:List Int}(h:fp r=none)(q:Nat):pt r q=0:=by
 unfold fp at h;rw [List.findIdx?_eq_none_iff] at h;unfold pt;rw [List.getD_eq_getElem?_getD];cases e:r[q]? with
 | none=>rfl
 | some c=>simpa using h c (List.mem_of_getElem? e)
def gcdL(r:List Int):Int:=r.foldl Gd.gd 0
theorem gd_dvd(a b:Int):Gd.gd a b∣a∧Gd.gd a b∣b:=⟨Int.gcd_dvd_left ..,Int.gcd_dvd_right ..⟩
theorem gcdF_dvd:∀(r:List Int) (g:Int),r.foldl Gd.gd g∣g∧∀x∈r,r.foldl Gd.gd g∣x
 | [],g=>⟨Int.dvd_refl g,by simp⟩
 | y :: r,g=>by
  obtain ⟨h1,h2⟩:=gcdF_dvd r (Gd.gd g y);obtain ⟨d1,d2⟩:=gd_dvd g y;refine ⟨Int.dvd_trans h1 d1,fun x hx=>?_⟩;rcases List.mem_cons.mp hx with rfl | hx
  ·exact Int.dvd_trans h1 d2
  ·exact h2 x hx
theorem gcdL_ne{r:List Int}{i:Nat}(h:pt r i≠0):gcdL r≠0:=by
 intro z;unfold pt at h;rw [List.getD_eq_getElem?_getD] at h;cases e:r[i]? with
 | none=>rw [e] at h;exact h rfl
 | some c =>
  rw [e] at h
  have:=(gcdF_dvd r 0).2 c (List.mem_of_getElem? e)
  unfold gcdL at z;rw [z] at this;exact h (Int.zero_dvd.mp this)
def dvs(r:List Int)(i:Nat):Int:=if pt r i < 0 then -gcdL r else gcdL r
def lowR(r:List Int):List Int:=match fp r with
 | none=>r
 | some i=>r.map fun x=>x.fdiv (dvs r i)
theorem dvs_ne{r:List Int}{i:Nat}(h:pt r i≠0):dvs r i≠0:=by
 have:=gcdL_ne h
 unfold dvs;split <;> omega
theorem dvs_dvd(r:List Int)(i:Nat):∀x∈r,dvs r i∣x:=fun x hx=>by
 have:=(gcdF_dvd r 0).2 x hx
 unfold dvs;split
 ·exact (Int.neg_dvd).mpr this
 ·exact this
theorem lowR_len(r:List Int):(lowR r).length=r.length:=by
 unfold lowR;split
 ·rfl
 ·rw [List.length_map]
theorem lowR_made(r:List Int):∃g:Int,g≠0∧∀q,g*pt (lowR r) q=pt r q:=by
 unfold lowR;split
 ·exact ⟨1,by decide,fun q=>Int.one_mul _⟩
 ·rename_i i e
  have:=(fp_some e).2.1
  refine ⟨dvs r i,dvs_ne this,fun q=>?_⟩;unfold pt;rw [List.getD_eq_getElem?_getD,List.getElem?_map,List.getD_eq_getElem?_getD];cases e2:r[q]? with
  | none=>exact Int.mul_zero _
  | some c=>exact Int.mul_fdiv_cancel' (dvs_dvd r i c (List.mem_of_getElem? e2))
theorem lowR_bnd{n:Nat}{r:List Int}(h:∀c∈r,c.natAbs < 2 ^ n):∀c∈lowR r,c.natAbs < 2 ^ n:=by
 unfold lowR;split
 ·exact h
 ·rename_i i e;intro c hc;obtain ⟨x,hx,rfl⟩:=List.mem_map.mp hc;exact Nat.lt_of_le_of_lt (Gd.fdiv_abs (dvs_ne (fp_some e).2.1) (dvs_dvd r i x hx)) (h x hx)
def stp(row s:List Int):List Int:=lowR (clr s ((fp s).getD 0) row)
def clearedR(row:List Int)(S:List (List Int)):List Int:=S.foldl stp row
def ownR(n i:Nat):List Int:=(List.range n).map fun o=>if o=i then 1 else 0
structure St5 where
 stairs:List (List Int)
 free:List Nat
 makers:List (List Int)
def restR(n:Nat)(st:St5)(i:Nat)(r:List Int):List Int:=clearedR (r++ownR n i) st.stairs
def sStep(n:Nat)(st:St5)(i:Nat)(r:List Int):St5 :=
 if (fp (restR n st i r)).getD (r.length+n) < r.length then ⟨st.stairs++[restR n st i r],st.free++[i],st.makers⟩
 else ⟨st.stairs,st.free,st.makers++[lowR ((restR n st i r).drop r.length)]⟩
def sAt(R:List (List Int)):Nat→St5
 | 0=>⟨[],[],[]⟩
 | i+1=>sStep R.length (sAt R i) i (R.getD i [])
def rowsOf(R:List (List Int))(ix:List Nat):List (List Int):=ix.map fun i=>R.getD i []
open Classical in
noncomputable def grd (R:List (List Int)):Nat→List Nat
 | 0=>[]
 | i+1=>if Free (rowsOf R (grd R i)++[R.getD i []]) then grd R i++[i] else grd R i
open Classical in
theorem grd_yes{R:List (List Int)}{i:Nat}{r:List Int}(e:R.getD i []=r)(h:Free (rowsOf R (grd R i)++[r])):grd R (i+1)=grd R i++[i]:=by
 subst e;exact if_pos h
open Classical in
theorem grd_no{R:List (List Int)}{i:Nat}{r:List Int}(e:R.getD i []=r)(h : ¬ Free (rowsOf R (grd R i)++[r])):grd R (i+1)=grd R i:=by
 subst e;exact if_neg h
theorem pt_take{s:List Int}{w q:Nat}:pt (s.take w) q=if q < w then pt s q else 0:=by
 unfold pt;rw [List.getD_eq_getElem?_getD,List.getElem?_take,List.getD_eq_getElem?_getD];split
 ·rfl
 ·rfl
theorem dot_take{w q:Nat}:∀(d:List Int) (S:List (List Int)),dot d (S.map (List.take w)) q=if q < w then dot d S q else 0
 | [],S=>by cases S <;> simp [dot]
 | x :: d,[]=>by simp [dot]
 | x :: d,s :: S=>by
  have ih:=dot_take (w:=w) (q:=q) d S;show x*pt (s.take w) q+dot d (S.map (List.take w)) q=_;rw [ih,pt_take];split
  ·rfl
  ·simp
theorem stair_take{w:Nat}:∀{S:List (List Int)} {ps:List Nat},Stair S ps→(∀p∈ps,p < w)→Stair (S.map (List.take w)) ps
 | _,_,.nil,_=>.nil
 | _,_,.cons h1 h2 r,hp=>.cons (by rw [pt_take,if_pos (hp _ List.mem_cons_self)];exact h1) (fun t ht=>by
   obtain ⟨u,hu,rfl⟩:=List.mem_map.mp ht
   rw [pt_take,if_pos (hp _ List.mem_cons_self)]
   exact h2 u hu) (stair_take r fun p hpp=>hp p (List.mem_cons_of_mem _ hpp))
theorem clrd_take{w:Nat}{S:List (List Int)}{ps:List Nat}{x x':List Int}(c:Clrd S ps x x')(hp:∀p∈ps,p < w):Clrd (S.map (List.take w)) ps (x.take w) (x'.take w):=by
 obtain ⟨d,c0,G,ld,hc,hG,e⟩:=c.made;refine ⟨⟨d,c0,G,by rw [ld,List.length_map],hc,hG,fun q=>?_⟩,fun q hq=>by rw [pt_take,if_pos (hp q hq)];exact c.nought q hq,by rw [List.length_take,List.length_take,c.len]⟩;rw [pt_take,pt_take,dot_take];split
 ·exact e q
 ·simp
theorem clrd_all{x:List Int}{L:Nat}(lx:x.length=L):∀{S:List (List Int)} {ps:List Nat},Stair S ps→(∀s∈S,s.length=L)→S.map fp=ps.map some→Clrd S ps x (clearedR x S):=by
 have go:∀(T:List (List Int)) (qs:List Nat) (S:List (List Int)) (ps:List Nat) (y:List Int),Clrd S ps x y→S.length=ps.length→Stair (S++T) (ps++qs)→(∀s∈T,s.length=L)→T.map fp=qs.map some→Clrd (S++T) (ps++qs) x (clearedR y T):=by
  intro T
  induction T with
  | nil =>
   intro qs S ps y c _ _ _ e;cases qs with
   | nil=>simpa [clearedR] using c
   | cons=>simp at e
  | cons s T ih =>
   intro qs S ps y c l st hl e;cases qs with
   | nil=>simp at e
   | cons p qs =>
    obtain ⟨e1,e2⟩:=List.cons.inj e;rw [show S++s :: T=(S++[s])++T by simp,show ps++p :: qs=(ps++[p])++qs by simp] at st ⊢
    have st':Stair (S++[s]) (ps++[p]):=by
     have:∀(T:List (List Int)) {S:List (List Int)} {qs ps:List Nat},S.length=ps.length→Stair (S++T) (ps++qs)→Stair S ps:=by
      intro T S
      induction S with
      | nil =>
       intro qs ps l _
       have:ps=[]:=List.length_eq_zero_iff.mp l.symm
       subst this;exact .nil
      | cons t S ihS =>
       intro qs ps l h;cases ps with
       | nil=>simp at l
       | cons q ps =>
        cases h with
        | cons h1 h2 r=>exact .cons h1 (fun u hu=>h2 u (List.mem_append_left _ hu)) (ihS (by simpa using l) r)
     exact this T (by simp [l]) st
    obtain ⟨g,hg,eg⟩:=lowR_made (clr s ((fp s).getD 0) y);have ls:s.length=L:=hl s List.mem_cons_self;have ly:y.length=s.length:=by rw [c.len,lx,ls]
    have lz:(stp y s).length=y.length:=by
     unfold stp;rw [lowR_len,clr_len ly,ly]
    refine ih qs (S++[s]) (ps++[p]) (stp y s) (Clrd.snoc c st' l ly hg lz fun q=>?_) (by simp [l]) st (fun u hu=>hl u (List.mem_cons_of_mem _ hu)) e2
    have:=eg q
    rw [e1] at this;unfold stp;rw [e1];exact this
 intro S ps st hl e
 have:=go S ps [] [] x Clrd.start rfl st hl e
 simpa using this
def bits(b k:Nat):Nat:=(b+1)*2 ^ k - 1
theorem bits_succ(b k:Nat):bits b (k+1)=2*bits b k+1:=by
 unfold bits;have pos:0 < (b+1)*2 ^ k:=Nat.mul_pos (Nat.succ_pos _) (Nat.two_pow_pos k)
 have:(b+1)*2 ^ (k+1)=2*((b+1)*2 ^ k):=by rw [Nat.pow_succ,← Nat.mul_assoc,Nat.mul_comm]
 omega
theorem bits_mono{b k m:Nat}(h:k≤m):bits b k≤bits b m:=by
 unfold bits
 have:=Nat.mul_le_mul_left (b+1) (Nat.pow_le_pow_right (by decide:0 < 2) h)
 omega
def BndAt(b:Nat)(S:List (List Int)):Prop:=∀k s,S[k]? = some s→∀c∈s,c.natAbs < 2 ^ bits b k
theorem cleared_bnd{b:Nat}{x:List Int}(hx:∀c∈x,c.natAbs < 2 ^ b){S:List (List Int)}(hS:BndAt b S):∀k,k≤S.length→∀c∈clearedR x (S.take k),c.natAbs < 2 ^ bits b k
 | 0,_=>by simpa [clearedR,bits] using hx
 | k+1,h=>by
  have ih:=cleared_bnd hx hS k (by omega);have lk:k < S.length:=by omega
  rw [List.take_add_one,List.getElem?_eq_getElem lk];show ∀c∈(S.take k++[S[k]]).foldl stp x,c.natAbs < 2 ^ bits b (k+1);rw [List.foldl_append];show ∀c∈stp (clearedR x (S.take k)) S[k],c.natAbs < 2 ^ bits b (k+1);rw [bits_succ];exact lowR_bnd (clr_bnd (hS k _ (List.getElem?_eq_getElem lk)) ih)
theorem own_at{w n i j:Nat}{r:List Int}(lr:r.length=w):pt (r++ownR n i) (w+j)=if j < n∧j=i then 1 else 0:=by
 unfold pt ownR;rw [List.getD_eq_getElem?_getD,List.getElem?_append_right (by omega),lr,show w+j - w=j by omega,List.getElem?_map];by_cases h:j < n
 ·rw [List.getElem?_range h];by_cases e:j=i
  ·simp [e,e ▸ h]
  ·simp [e]
 ·rw [List.getElem?_eq_none (by simpa using h)];simp [h]
theorem dot_nought{d:List Int}{q:Nat}:∀{S:List (List Int)},(∀s∈S,pt s q=0)→dot d S q=0:=by
 induction d with
 | nil=>intro S _;cases S <;> rfl
 | cons x d ih =>
  intro S h;cases S with
  | nil=>rfl
  | cons s S =>
   show x*pt s q+dot d S q=0;rw [h s List.mem_cons_self,ih fun t ht=>h t (List.mem_cons_of_mem _ ht)];omega
structure SI (R:List (List Int)) (w b i:Nat) (st:St5):Prop where
 sta:∃ps,Stair st.stairs ps∧(∀p∈ps,p < w)∧st.stairs.map fp=ps.map some∧Eqv (rowsOf R st.free) (st.stairs.map (List.take w))
 len:∀s∈st.stairs,s.length=w+R.length
 own:∀s∈st.stairs,∀j,i≤j→pt s (w+j)=0
 cnt:st.stairs.length≤i
 bnd:BndAt b st.stairs
 free:st.free=grd R i
 mks:st.makers.length≤i
structure RI (R:List (List Int)) (w b i:Nat) (st:St5) (r rest:List Int):Prop where
 len:rest.length=w+R.length
 ne:∃q,fp rest=some q∧q≤w+i
 bnd:∀c∈rest,c.natAbs < 2 ^ bits b st.stairs.length
 own:∀j,i+1≤j→pt rest (w+j)=0
 free:Free (rowsOf R (grd R i)++[r])↔∃q,fp rest=some q∧q < w
theorem ri_of{R:List (List Int)}{w b i:Nat}{st:St5}{r:List Int}(I:SI R w b i st)(hb:1≤b)(hi:i < R.length)(lr:r.length=w)(br:∀c∈r,c.natAbs < 2 ^ b) :
  RI R w b i st r (restR R.length st i r)∧∃ps,Stair st.stairs ps∧(∀p∈ps,p < w)∧st.stairs.map fp=ps.map some∧Eqv (rowsOf R st.free) (st.stairs.map (List.take w))∧Clrd st.stairs ps (r++ownR R.length i) (restR R.length st i r):=by
 obtain ⟨ps,s1,s2,s3,s4⟩:=I.sta;have lx:(r++ownR R.length i).length=w+R.length:=by unfold ownR;rw [List.length_append,List.length_map,List.length_range,lr]
 have C:=clrd_all lx s1 I.len s3
 have hx:∀c∈r++ownR R.length i,c.natAbs < 2 ^ b:=by
  intro c hc;rcases List.mem_append.mp hc with m | m
  ·exact br c m
  ·unfold ownR at m;obtain ⟨o,_,rfl⟩:=List.mem_map.mp m
   have:2 ^ 1≤2 ^ b:=Nat.pow_le_pow_right (by decide) hb
   split <;> omega
 have hbn:=cleared_bnd hx I.bnd st.stairs.length (Nat.le_refl _);rw [List.take_length] at hbn;obtain ⟨d,c,G,ld,hc,hG,e⟩:=C.made
 have at_i:pt (restR R.length st i r) (w+i)≠0:=by
  intro z;have e1:=e (w+i);have z':pt (clearedR (r++ownR R.length i) st.stairs) (w+i)=0:=z;rw [z',own_at lr,dot_nought fun s hs=>I.own s hs i (Nat.le_refl _),if_pos ⟨hi,rfl⟩] at e1;omega
 have fq:∃q,fp (restR R.length st i r)=some q∧q≤w+i:=by
  cases f:fp (restR R.length st i r) with
  | none=>exact absurd (fp_none f (w+i)) at_i
  | some q =>
   refine ⟨q,rfl,?_⟩;by_cases l:q≤w+i
   ·exact l
   ·exact absurd ((fp_some f).2.2 (w+i) (by omega)) at_i
 have tk:(r++ownR R.length i).take w=r:=by rw [List.take_append_of_le_length (by omega),List.take_of_length_le (by omega)]
 refine ⟨⟨?_,fq,hbn,fun j hj=>?_,?_⟩,ps,s1,s2,s3,s4,C⟩
 ·show (clearedR _ _).length=_;rw [C.len,lx]
 ·have e1:=e (w+j);rw [own_at lr,dot_nought fun s hs=>I.own s hs j (by omega),if_neg (by omega)] at e1
  have:G*pt (restR R.length st i r) (w+j)=0:=by
   show G*pt (clearedR (r++ownR R.length i) st.stairs) (w+j)=0;rw [e1];omega
  exact (Int.mul_eq_zero.mp this).resolve_left hG
 ·rw [← I.free]
  have:=clrd_free s4 (stair_take s1 s2) (clrd_take C s2)
  rw [tk] at this;rw [this];constructor
  ·rintro ⟨q,hq⟩;rw [pt_take] at hq;split at hq
   ·rename_i lq;obtain ⟨q',f1,f2⟩:=fq;refine ⟨q',f1,?_⟩;by_cases l:q' < w
    ·exact l
    ·exact absurd ((fp_some f1).2.2 q (by omega)) hq
   ·exact absurd rfl hq
  ·rintro ⟨q,f1,f2⟩;refine ⟨q,?_⟩;rw [pt_take,if_pos f2];exact (fp_some f1).2.1
theorem own_ne{R:List (List Int)}{w b i:Nat}{st:St5}{r:List Int}(I:SI R w b i st)(hb:1≤b)(hi:i < R.length)(lr:r.length=w)(br:∀c∈r,c.natAbs < 2 ^ b):pt (restR R.length st i r) (w+i)≠0:=by
 obtain ⟨_,ps,_,_,_,_,C⟩:=ri_of I hb hi lr br;obtain ⟨d,c,G,ld,hc,hG,e⟩:=C.made;intro z;have e1:=e (w+i);rw [z,own_at lr,dot_nought fun s hs=>I.own s hs i (Nat.le_refl _),if_pos ⟨hi,rfl⟩] at e1;omega
theorem si_step{R:List (List Int)}{w b i:Nat}{st:St5}{r:List Int}(I:SI R w b i st)(hb:1≤b)(hr:R[i]? = some r)(lr:r.length=w)(br:∀c∈r,c.natAbs < 2 ^ b):SI R w b (i+1) (sStep R.length st i r):=by
 have hi:i < R.length:=(List.getElem?_eq_some_iff.mp hr).1;obtain ⟨Y,ps,s1,s2,s3,s4,C⟩:=ri_of I hb hi lr br;have er:R.getD i []=r:=by rw [List.getD_eq_getElem?_getD,hr];rfl
 unfold sStep;generalize hz:restR R.length st i r=z at Y C;obtain ⟨q,f1,f2⟩:=Y.ne;rw [f1];show SI R w b (i+1) (if q < r.length then _ else _);split
 ·rename_i lq;rw [lr] at lq;have fr:Free (rowsOf R (grd R i)++[r]):=Y.free.mpr ⟨q,f1,lq⟩;have tk:(r++ownR R.length i).take w=r:=by rw [List.take_append_of_le_length (by omega),List.take_of_length_le (by omega)]
  refine ⟨⟨ps++[q],s1.snoc C.nought (fp_some f1).2.1,fun p hp=>?_,?_,?_⟩,fun s hs=>?_,fun s hs j hj=>?_,?_,fun k s hk=>?_,?_,Nat.le_succ_of_le I.mks⟩
  ·rcases List.mem_append.mp hp with m | m
   ·exact s2 p m
   ·rw [List.mem_singleton.mp m];exact lq
  ·show (st.stairs++[z]).map fp=_;rw [List.map_append,List.map_append,s3];show _++[fp z]=_++[some q]
   rw [f1]
  ·show Eqv (rowsOf R (st.free++[i])) ((st.stairs++[z]).map (List.take w));unfold rowsOf at s4 ⊢;rw [List.map_append,List.map_append];show Eqv (_++[R.getD i []]) (_++[z.take w]);rw [er];obtain ⟨d,c,G,ld,hc,hG,e⟩:=(clrd_take C s2).made;rw [tk] at e;exact s4.snoc ld hc hG e
  ·rcases List.mem_append.mp hs with m | m
   ·exact I.len s m
   ·rw [List.mem_singleton.mp m];exact Y.len
  ·rcases List.mem_append.mp hs with m | m
   ·exact I.own s m j (by omega)
   ·rw [List.mem_singleton.mp m];exact Y.own j hj
  ·show (st.stairs++[z]).length≤i+1;rw [List.length_append];exact Nat.succ_le_succ I.cnt
  ·have hk':(st.stairs++[z])[k]? = some s:=hk;by_cases l:k < st.stairs.length
   ·rw [List.getElem?_append_left l] at hk';exact I.bnd k s hk'
   ·rw [List.getElem?_append_right (by omega)] at hk'
    have k0:k=st.stairs.length:=by
     have:=(List.getElem?_eq_some_iff.mp hk').1
     simp at this;omega
    subst k0;rw [Nat.sub_self] at hk';rw [← Option.some.inj hk'];exact Y.bnd
  ·show st.free++[i]=grd R (i+1);rw [I.free];rw [grd_yes er fr]
 ·rename_i lq;rw [lr] at lq
  have nf : ¬ Free (rowsOf R (grd R i)++[r]):=fun h=>by
   obtain ⟨q',g1,g2⟩:=Y.free.mp h;rw [f1] at g1;cases g1;exact lq g2
  refine ⟨I.sta,I.len,fun s hs j hj=>I.own s hs j (by omega),Nat.le_succ_of_le I.cnt,I.bnd,?_,?_⟩
  ·show st.free=grd R (i+1);rw [I.free];rw [grd_no er nf]
  ·show (st.makers++[_]).length≤i+1;rw [List.length_append];exact Nat.succ_le_succ I.mks
theorem si_at{R:List (List Int)}{w b:Nat}(hw:Wide w R)(hb:1≤b)(br:Bnd b R):∀i,i≤R.length→SI R w b i (sAt R i)
 | 0,_=>⟨⟨[],.nil,(by simp),rfl,fun T=>Iff.rfl⟩,(fun s hs=>by cases hs),(fun s hs=>by cases hs),Nat.le_refl _,(fun k s hk=>by simp [sAt] at hk),rfl,Nat.le_refl _⟩
 | i+1,h=>by
  have hr:R[i]? = some (R.getD i []):=by rw [List.getD_eq_getElem?_getD,List.getElem?_eq_getElem (by omega)];rfl
  exact si_step (si_at hw hb br i (by omega)) hb hr (hw _ (List.mem_of_getElem? hr)) (br _ (List.mem_of_getElem? hr))
end Sf
namespace Rw
open PySem L2 Fr G1 Sm Vs G2 Rk Sz Sf
open PySem.W (Dat kqdOk)
def fpV(r:List Int):V:=match fp r with
 | some i=>.int i
 | none=>.non
def spFirst(K:Fg):Sp:=fun vs H Q _=>∃(a:Addr) (r:List Int),vs=[.ref a]∧H a=some (.lst (r.map V.int))∧∀H',Same H H'→Q (fpV r) H'
theorem len_first{K:Fg}{vs:List V}{H:Hp}{Q:VK}{E:XK}{x:Str}(h:spFirst K vs H Q E):vs.length=[x].length:=by
 obtain ⟨a,b,rfl,_⟩:=h;rfl
theorem fp_at{r:List Int}{i:Nat}{c:Int}(h:∀j,j < i→pt r j=0)(hi:r[i]? = some c)(hc:c≠0):fp r=some i:=by
 unfold fp;rw [List.findIdx?_eq_some_iff_getElem];obtain ⟨l,e⟩:=List.getElem?_eq_some_iff.mp hi;refine ⟨l,by rw [e];simpa using hc,fun j hj=>?_⟩
 have:=h j hj
 unfold pt at this;rw [List.getD_eq_getElem?_getD,List.getElem?_eq_getElem (by omega)] at this;simpa using this
theorem fp_no{r:List Int}(h:∀j,j < r.length→pt r j=0):fp r=none:=by
 unfold fp;rw [List.findIdx?_eq_none_iff];intro x hx;obtain ⟨j,l,rfl⟩:=List.mem_iff_getElem.mp hx
 have:=h j l
 unfold pt at this;rw [List.getD_eq_getElem?_getD,List.getElem?_eq_getElem l] at this;simpa using this
def t_first(K:Fg):TS:=(tSeq (tFor (iEnum K (tCons (tVar 0) tNil)) (gTup K 2 (gCons (gName 1) (gCons (gName 2) gNil)))
 (tIfS (tTest (tOp rNe (tVar 2) (tC (.int 0))))
 (tRet (tVar 1))
 tNext))
 (tRet (tC .non)))
theorem rd_first{K:Fg}{vs:List V}{H:Hp}{Q:VK}{E:XK}{N:List Str}(hN:N.length=3)(h:spFirst K vs H Q E):t_first K (ends Q) (L2.start N vs) H:=by
 obtain ⟨a,r,rfl,ha,k⟩:=h;rw [show L2.start N [.ref a]=[some (.ref a),none,none] by unfold L2.start;rw [hN];rfl];unfold t_first;walk_at "rd";refine ⟨a,_,rfl,SqL.of ha,?_⟩;refine fat_enum (xs:=r.map V.int) (fun i σ H2=>∃u1 u2:Option V,σ = [some (.ref a),u1,u2]∧Same H H2∧∀j < i,pt r j=0) ⟨none,none,rfl,Same.refl _,fun j hj=>absurd hj (Nat.not_lt_zero _)⟩ (fun i σ H2 _ ⟨_,_,_,S,_⟩=>SqL.of (S _ _ ha)) ?_ ?_
 ·rintro i z σ H2 T hz ⟨u1,u2,rfl,S,d⟩ nT;rw [List.getElem?_map] at hz;obtain ⟨c,hc,rfl⟩:=Option.map_eq_some_iff.mp hz;have S2:=S.trans (same_new nT (.tup [.int (i:Int),.int c]));have hT:upd H2 T (.tup [.int (i:Int),.int c]) T=some (.tup [.int (i:Int),.int c]):=upd_same;generalize upd H2 T (.tup [.int (i:Int),.int c])=H3 at S2 hT ⊢;refine k_gTup (SqT.of hT) rfl ?_;walk_at "rd";have ec:pt r i=c:=by unfold pt;rw [List.getD_eq_getElem?_getD,hc];rfl
  refine k_iteN (fun nz=>?_) (fun z=>?_)
  ·walk_at "rd"
   have:=k H3 S2
   unfold fpV at this;rw [fp_at d hc nz] at this;exact this
  ·walk_at "rd";refine ⟨_,_,rfl,S2,fun j hj=>?_⟩;by_cases e:j=i
   ·rw [e,ec,z]
   ·exact d j (by omega)
 ·rintro σ H2 ⟨u1,u2,rfl,S,d⟩;walk_at "rd"
  have:=k H2 S
  unfold fpV at this;rw [fp_no fun j hj=>d j (by rw [List.length_map];exact hj)] at this;exact this
def spLowR(K:Fg):Sp:=fun vs H Q _=>∃(a:Addr) (r:List Int),vs=[.ref a]∧H a=some (.lst (r.map V.int))∧r.length≤100∧(∀c∈r,c.natAbs < 2 ^ 9000)∧∀(p:Addr) (H':Hp),AccZ K H p H' ((lowR r).map Dat.int)→Q (.ref p) H'
theorem len_lowR{K:Fg}{vs:List V}{H:Hp}{Q:VK}{E:XK}{x:Str}(h:spLowR K vs H Q E):vs.length=[x].length:=by
 obtain ⟨a,b,rfl,_⟩:=h;rfl
theorem gcdF_take{r:List Int}{i:Nat}{c:Int}(h:r[i]? = some c):(r.take (i+1)).foldl Gd.gd 0=Gd.gd ((r.take i).foldl Gd.gd 0) c:=by
 rw [List.take_add_one,h,List.foldl_append];rfl
theorem gcd_abs{r:List Int}{i n:Nat}(h:pt r i≠0)(hb:∀c∈r,c.natAbs < 2 ^ n):(gcdL r).natAbs < 2 ^ n:=by
 have d:gcdL r∣pt r i:=by
  unfold pt at h ⊢;rw [List.getD_eq_getElem?_getD] at h ⊢;cases e:r[i]? with
  | none=>rw [e] at h;exact absurd rfl h
  | some c=>exact (gcdF_dvd r 0).2 c (List.mem_of_getElem? e)
 have:=Nat.le_of_dvd (by omega) (Int.natAbs_dvd_natAbs.mpr d)
 exact Nat.lt_of_le_of_lt this (pt_bnd hb i)
def spCom(K:Fg):Sp:=fun vs H Q _=>∃(a:Addr) (r:List Int),vs=[.ref a]∧H a=some (.lst (r.map V.int))∧∀H',Same H H'→Q (.int (gcdL r)) H'
theorem len_com{K:Fg}{vs:List V}{H:Hp}{Q:VK}{E:XK}{x:Str}(h:spCom K vs H Q E):vs.length=[x].length:=by
 obtain ⟨a,b,rfl,_⟩:=h;rfl
def t_com(K:Fg):TS:=(tSeq (tAsg (tC (.int 0)) (gName 1))
 (tSeq (tFor (iList K (tVar 0)) (gName 2)
 (tAsg (tCall spDiv [] E0 (tCons (tVar 1) (tCons (tVar 2) tNil))) (gName 1)))
 (tRet (tVar 1))))
theorem rd_com{K:Fg}{vs:List V}{H:Hp}{Q:VK}{E:XK}{N:List Str}(hN:N.length=3)(h:spCom K vs H Q E):t_com K (ends Q) (L2.start N vs) H:=by
 obtain ⟨a,r,rfl,ha,k⟩:=h;rw [show L2.start N [.ref a]=[some (.ref a),none,none] by unfold L2.start;rw [hN];rfl];unfold t_com;walk_at "rd";refine k_rlF (SqL.of ha) ?_;refine fat_list (xs:=r.map V.int) (fun j σ H2=>∃u3:Option V,σ = [some (.ref a),some (.int ((r.take j).foldl Gd.gd 0)),u3]∧Same H H2) ⟨_,rfl,Same.refl _⟩ (fun j σ H2 _ ⟨_,_,S⟩=>SqL.of (S _ _ ha)) ?_ ?_
 ·rintro j z σ H2 hz ⟨u3,rfl,S⟩;rw [List.getElem?_map] at hz;obtain ⟨c,hc,rfl⟩:=Option.map_eq_some_iff.mp hz;walk_at "rd";refine ⟨_,_,rfl,?_⟩;walk_at "rd";refine ⟨_,by rw [gcdF_take hc];rfl,S⟩
 ·rintro σ H2 ⟨u3,rfl,S⟩;rw [List.take_of_length_le (by rw [List.length_map];exact Nat.le_refl _)];walk_at "rd";exact k H2 S
def t_lowR(K:Fg):TS:=(tSeq (tAsg (tCall (spFirst K) [] E0 (tCons (tVar 0) tNil)) (gName 1))
 (tSeq (tIfS (tTest (tOp rIsN (tVar 1) (tC .non)))
 (tRet (tCB (rListOf K) (tCons (tVar 0) tNil)))
 tNext)
 (tSeq (tAsg (tCall (spCom K) [] E0 (tCons (tVar 0) tNil)) (gName 2))
 (tSeq (tIfS (tTest (tOp rLt (tOp (rIxL K) (tVar 0) (tVar 1)) (tC (.int 0))))
 (tAsg (tUn (rU fun i=>.int (-i)) (tVar 2)) (gName 2))
 tNext)
 (tRet (tComp (iList K (tVar 0)) (tOp rDivW (tVar 0) (tVar 3))))))))
theorem rd_lowR{K:Fg}{vs:List V}{H:Hp}{Q:VK}{E:XK}{N:List Str}(hN:N.length=3)(h:spLowR K vs H Q E):t_lowR K (ends Q) (L2.start N vs) H:=by
 obtain ⟨a,r,rfl,ha,hl,hb,k⟩:=h;rw [show L2.start N [.ref a]=[some (.ref a),none,none] by unfold L2.start;rw [hN];rfl];unfold t_lowR;walk_at "rd";refine ⟨a,r,rfl,ha,fun H1 S1=>?_⟩;unfold fpV;cases f:fp r with
 | none =>
  walk_at "rd";refine k_ite (fun _=>?_) (fun z=>absurd rfl z);walk_at "rd";refine k_listL (SqL.of (S1 _ _ ha)) fun l nl=>?_
  have e:lowR r=r:=by unfold lowR;rw [f]
  rw [e] at k;exact k l _ ⟨S1.trans (same_new nl _),S1.free nl,_,upd_same,RpL.ints r⟩
 | some i =>
  obtain ⟨f1,f2,f3⟩:=fp_some f;walk_at "rd";refine k_ite (fun z=>by cases z) (fun _=>?_);walk_at "rd";refine ⟨a,r,rfl,S1 _ _ ha,fun H2 S2=>?_⟩;have S:=S1.trans S2;walk_at "rd";refine k_ixL (SqL.of (S _ _ ha)) (atI_row f1) ?_
  have fin:CompAt (Itl K a) (tOp rDivW (tVar 0) (tVar 3)) [some (.ref a),some (.int i),some (.int (dvs r i))] (ends Q).rt H2:=by
   refine comp_list (xs:=r.map V.int) fun D nD=>⟨fun j H3=>AccZ K H D H3 (((lowR r).take j).map Dat.int),by simpa using AccZ.start S nD,fun j H3 _ A=>SqL.of (A.same _ _ ha),?_,?_⟩
   ·intro j x H3 hx A;have lj:=(List.getElem?_eq_some_iff.mp hx).1;rw [List.getElem?_map] at hx;obtain ⟨c,hc,rfl⟩:=Option.map_eq_some_iff.mp hx;walk_at "rd";refine ⟨c,dvs r i,rfl,rfl,⟨dvs_ne f2,?_⟩,?_⟩
    ·have:=gcd_abs f2 hb
     have e:(dvs r i).natAbs=(gcdL r).natAbs:=by unfold dvs;split <;> omega
     rw [e];exact this
    refine pushed lj ?_;refine A.pushK (.int _) (small1000 (by rw [List.length_map,List.length_take,lowR_len];omega)) fun H4 A4=>?_
    have e:(lowR r)[j]? = some (c.fdiv (dvs r i)):=by unfold lowR;rw [f];show (r.map _)[j]? = _;rw [List.getElem?_map,hc];rfl
    show AccZ K H D H4 (((lowR r).take (j+1)).map Dat.int);rw [List.take_add_one,e,List.map_append];exact A4
   ·intro H3 A;rw [List.take_of_length_le (by rw [lowR_len,List.length_map];exact Nat.le_refl _)] at A;exact k D H3 A
  walk_at "rd";refine k_ite (fun ng=>?_) (fun ng=>?_)
  ·walk_at "rd";refine k_rlC (SqL.of (S _ _ ha)) ?_;have e:dvs r i = -gcdL r:=by unfold dvs;rw [if_pos ng]
   rw [e] at fin;exact fin
  ·walk_at "rd";refine k_rlC (SqL.of (S _ _ ha)) ?_;have e:dvs r i=gcdL r:=by unfold dvs;rw [if_neg ng]
   rw [e] at fin;exact fin
def Stairs(K:Fg)(S:Addr→Prop)(H:Hp)(a:Addr)(T:List (List Int)):Prop:=∃xs,H a=some (.lst xs)∧RpL K S H xs (T.map dL)
def spClr(K:Fg):Sp:=fun vs H Q _=>∃(a s:Addr) (r:List Int) (T:List (List Int)) (b:Nat),vs=[.ref a,.ref s]∧H a=some (.lst (r.map V.int))∧Stairs K (fun _=>True) H s T∧r.length≤100∧(∀t∈T,t.length=r.length∧∃i,fp t=some i)∧(∀c∈r,c.natAbs < 2 ^ b)∧BndAt b T∧bits b T.length≤9000 ∧
 ∀(p:Addr) (H':Hp),Same H H'→(p=a∨H p=none)→H' p=some (.lst ((clearedR r T).map V.int))→Q (.ref p) H'
theorem len_clrR{K:Fg}{vs:List V}{H:Hp}{Q:VK}{E:XK}{x y:Str}(h:spClr K vs H Q E):vs.length=[x,y].length:=by
 obtain ⟨a,b,c,d,e,rfl,_⟩:=h;rfl
theorem clearedR_len{r:List Int}:∀{T:List (List Int)},(∀t∈T,t.length=r.length)→(clearedR r T).length=r.length:=by
 intro T
 have go:∀(T:List (List Int)) (y:List Int),y.length=r.length→(∀t∈T,t.length=r.length)→(clearedR y T).length=r.length:=by
  intro T
  induction T with
  | nil=>intro y ly _;exact ly
  | cons t T ih =>
   intro y ly h;refine ih (stp y t) ?_ fun u hu=>h u (List.mem_cons_of_mem _ hu)
   unfold stp
   have:=h t List.mem_cons_self
   rw [lowR_len,clr_len (by omega)];exact this
 exact go T r rfl
theorem clearedR_take{r t:List Int}{T:List (List Int)}{i:Nat}(h:T[i]? = some t):clearedR r (T.take (i+1))=stp (clearedR r (T.take i)) t:=by
 unfold clearedR;rw [List.take_add_one,h,List.foldl_append];rfl
def t_clrR(K:Fg):TS:=(tSeq (tFor (iList K (tVar 1)) (gName 2)
 (tSeq (tAsg (tCall (spFirst K) [] E0 (tCons (tVar 2) tNil)) (gName 3))
 (tAsg (tCall (spLowR K) [] E0 (tCons (tCompG (iZip K .L .L (tCons (tVar 0) (tCons (tVar 2) tNil))) 2 (gTup K 2 (gCons (gName 0) (gCons (gName 1) gNil))) (tOp qSub (tOp rMulW (tOp (rIxL K) (tVar 4) (tVar 5)) (tVar 0)) (tOp rMulW (tOp (rIxL K) (tVar 2) (tVar 5)) (tVar 1)))) tNil)) (gName 0))))
 (tRet (tVar 0)))
theorem rd_clrR{K:Fg}{vs:List V}{H:Hp}{Q:VK}{E:XK}{N:List Str}(hN:N.length=4)(h:spClr K vs H Q E):t_clrR K (ends Q) (L2.start N vs) H:=by
 obtain ⟨a,s,r,T,b,rfl,ha,⟨xs,hs,rx⟩,hl,hT,hb,hB,hbits,k⟩:=h;rw [show L2.start N [.ref a,.ref s]=[some (.ref a),some (.ref s),none,none] by unfold L2.start;rw [hN];rfl];have lx:xs.length=T.length:=by rw [rx.length,List.length_map]
 unfold t_clrR;walk_at "rd";refine k_rlF (SqL.of hs) ?_;refine fat_list (xs:=xs) (fun j σ H2=>∃(p:Addr) (u2 u3:Option V),σ = [some (.ref p),some (.ref s),u2,u3]∧Same H H2∧(p=a∨H p=none)∧H2 p=some (.lst ((clearedR r (T.take j)).map V.int))) ⟨a,none,none,rfl,Same.refl _,.inl rfl,by simpa [clearedR] using ha⟩ (fun j σ H2 _ ⟨_,_,_,_,S,_⟩=>SqL.of (S _ _ hs)) ?_ ?_
 ·rintro j z σ H2 hz ⟨p,u2,u3,rfl,S,hp,h2⟩;obtain ⟨d,g1,g2⟩:=rx.get hz;rw [List.getElem?_map] at g1;obtain ⟨t,ht,rfl⟩:=Option.map_eq_some_iff.mp g1;obtain ⟨b0,rfl,_,hb0⟩:=dL_at g2;obtain ⟨lt,i,fi⟩:=hT t (List.mem_of_getElem? ht);obtain ⟨f1,f2,f3⟩:=fp_some fi;have lj:j < T.length:=(List.getElem?_eq_some_iff.mp ht).1;have ly:(clearedR r (T.take j)).length=r.length:=clearedR_len fun t ht=>(hT t (List.mem_of_mem_take ht)).1
  have by_:=cleared_bnd hb hB j (by omega);have bm:bits b (j+1)≤bits b T.length:=bits_mono (by omega);rw [bits_succ] at bm;have hBt:=hB j t ht;rw [clearedR_take ht];generalize clearedR r (T.take j)=y at h2 ly by_ ⊢;walk_at "rd";refine ⟨b0,t,rfl,S _ _ hb0,fun H3 S3=>?_⟩;have fv:fpV t = .int i:=by unfold fpV;rw [fi]
  rw [fv];have S4:=S.trans S3;have h3:=S3 _ _ h2;walk_at "rd";refine ⟨p,b0,_,_,rfl,SqL.of h3,SqL.of (S4 _ _ hb0),?_⟩;refine comp_zip (xs:=y.map V.int) (ys:=t.map V.int) fun D nD=>⟨fun m H5=>AccZ K H3 D H5 (((clr t i y).take m).map Dat.int),AccZ.start (Same.refl _) nD,fun m H5 _ C=>⟨SqL.of (C.same _ _ h3),SqL.of (C.same _ _ (S4 _ _ hb0))⟩,?_,?_⟩
  ·intro m y1 y2 H5 T' e1 e2 C nT us hu
   obtain ⟨u1,u2',rfl⟩:∃u0 u1,us=[u0,u1]:=by
    match us,hu with
    | [u0,u1],_=>exact ⟨u0,u1,rfl⟩
   rw [List.getElem?_map] at e1 e2;obtain ⟨m1,g1,rfl⟩:=Option.map_eq_some_iff.mp e1;obtain ⟨m2,g2,rfl⟩:=Option.map_eq_some_iff.mp e2;have ec:(clr t i y)[m]? = some (m1*pt t i - pt y i*m2):=by unfold clr;rw [List.getElem?_zipWith,g1,g2]
   have lm:=(List.getElem?_eq_some_iff.mp g1).1;have lm2:=(List.getElem?_eq_some_iff.mp g2).1;have C2:=C.on (same_new nT (.tup [.int m1,.int m2]));have hT':upd H5 T' (.tup [.int m1,.int m2]) T'=some (.tup [.int m1,.int m2]):=upd_same;generalize upd H5 T' (.tup [.int m1,.int m2])=H7 at C2 hT' ⊢;refine k_gTup (SqT.of hT') rfl ?_;walk_at "rd";refine ⟨⟨[some (.int m1),some (.int m2)],rfl,rfl⟩,?_⟩;walk_at "rd";refine k_ixL (SqL.of (C2.same _ _ (S4 _ _ hb0))) (atI_row f1) ?_;walk_at "rd";refine ⟨pt t i,m1,rfl,rfl,mul_ok (by omega) (pt_bnd hBt i) (by_ _ (List.mem_of_getElem? g1)),?_⟩;walk_at "rd";refine k_ixL (SqL.of (C2.same _ _ h3)) (atI_row (by omega)) ?_;walk_at "rd";refine ⟨pt y i,m2,rfl,rfl,mul_ok (by omega) (pt_bnd by_ i) (hBt _ (List.mem_of_getElem? g2)),?_⟩;walk_at "rd";refine pushed (by rw [List.length_map,List.length_map];omega) ?_;rw [Int.mul_comm (pt t i) m1];refine C2.pushK (.int _) (small1000 ?_) fun H8 C8=>?_
   ·rw [List.length_map,List.length_take];omega
   ·show AccZ K H3 D H8 (((clr t i y).take (m+1)).map Dat.int);rw [List.take_add_one,ec,List.map_append];exact C8
  ·intro H5 C;have lc:(clr t i y).length=t.length:=clr_len (by omega);rw [List.take_of_length_le (by rw [List.length_map,List.length_map];omega)] at C;walk_at "rd";refine ⟨D,clr t i y,rfl,AccZ.ints C,by omega,fun c hc=>?_,fun p2 H6 A6=>?_⟩
   ·exact Nat.lt_of_lt_of_le (clr_bnd hBt by_ c hc) (Nat.pow_le_pow_right (by decide) (by omega))
   ·walk_at "rd";refine ⟨p2,_,_,rfl,S4.trans (C.same.trans A6.same),.inr ((S4.trans C.same).free A6.new),?_⟩;have e:stp y t=lowR (clr t i y):=by unfold stp;rw [fi];rfl
    rw [e];exact AccZ.ints A6
 ·rintro σ H2 ⟨p,u2,u3,rfl,S,hp,h2⟩;rw [List.take_of_length_le (by omega)] at h2;walk_at "rd";exact k p H2 S hp h2
def SS(H:Hp)(D1 D2 D3:Addr):Addr→Prop:=fun a=>H a=none∧a≠D1∧a≠D2∧a≠D3
def ni(l:List Nat):List Int:=l.map fun i:Nat=>(i:Int)
structure SH (K:Fg) (H H2:Hp) (D1 D2 D3:Addr) (st:St5):Prop where
 same:Same H H2
 n1:H D1=none
 n2:H D2=none
 n3:H D3=none
 d12:D1≠D2
 d13:D1≠D3
 d23:D2≠D3
 a1:∃xs,H2 D1=some (.lst xs)∧RpL K (SS H D1 D2 D3) H2 xs (st.stairs.map dL)
 a2:H2 D2=some (.lst ((ni st.free).map V.int))
 a3:∃xs,H2 D3=some (.lst xs)∧RpL K (SS H D1 D2 D3) H2 xs (st.makers.map dL)
theorem SH.on{K:Fg}{H H2 H3:Hp}{D1 D2 D3:Addr}{st:St5}(A:SH K H H2 D1 D2 D3 st)(e:Same H2 H3):SH K H H3 D1 D2 D3 st:=by
 obtain ⟨xs,h1,r1⟩:=A.a1;obtain ⟨zs,h3,r3⟩:=A.a3;exact ⟨A.same.trans e,A.n1,A.n2,A.n3,A.d12,A.d13,A.d23,⟨xs,e _ _ h1,r1.same e⟩,e _ _ A.a2,⟨zs,e _ _ h3,r3.same e⟩⟩
theorem SH.stair{K:Fg}{H H2:Hp}{D1 D2 D3:Addr}{st:St5}{p:Addr}{z:List Int}{i:Nat}(A:SH K H H2 D1 D2 D3 st)(hp:SS H D1 D2 D3 p)(h:H2 p=some (.lst (z.map V.int))):∃xs,H2 D1=some (.lst xs)∧xs.length=st.stairs.length∧upd H2 D1 (.lst (xs++[.ref p])) D2=some (.lst ((ni st.free).map V.int)) ∧
  SH K H (upd (upd H2 D1 (.lst (xs++[.ref p]))) D2 (.lst ((ni st.free).map V.int++[.int i]))) D1 D2 D3 ⟨st.stairs++[z],st.free++[i],st.makers⟩:=by
 obtain ⟨xs,h1,r1⟩:=A.a1;obtain ⟨zs,h3,r3⟩:=A.a3;have e2:upd H2 D1 (.lst (xs++[.ref p])) D2=some (.lst ((ni st.free).map V.int)):=by rw [upd_ne A.d12.symm];exact A.a2
 refine ⟨xs,h1,by rw [r1.length,List.length_map],e2,⟨fun b o q=>?_,A.n1,A.n2,A.n3,A.d12,A.d13,A.d23,⟨xs++[.ref p],?_,?_⟩,?_,⟨zs,?_,?_⟩⟩⟩
 ·rw [upd_ne (ne_of_none q A.n2),upd_ne (ne_of_none q A.n1)];exact A.same b o q
 ·rw [upd_ne A.d12];exact upd_same
 ·show RpL K (SS H D1 D2 D3) _ _ ((st.stairs++[z]).map dL);rw [List.map_append];exact ((r1.append (.cons (dL_of hp h) .nil)).agr (Agr.of_upd h1 fun w=>w.2.1 rfl)).agr (Agr.of_upd e2 fun w=>w.2.2.1 rfl)
 ·show upd _ D2 _ D2=some (.lst ((ni (st.free++[i])).map V.int));rw [upd_same];unfold ni;rw [List.map_append,List.map_append];rfl
 ·rw [upd_ne A.d23.symm,upd_ne A.d13.symm];exact h3
 ·exact (r3.agr (Agr.of_upd h1 fun w=>w.2.1 rfl)).agr (Agr.of_upd e2 fun w=>w.2.2.1 rfl)
theorem SH.maker{K:Fg}{H H2:Hp}{D1 D2 D3:Addr}{st:St5}{p:Addr}{z:List Int}(A:SH K H H2 D1 D2 D3 st)(hp:SS H D1 D2 D3 p)(h:H2 p=some (.lst (z.map V.int))):∃xs,H2 D3=some (.lst xs)∧xs.length=st.makers.length ∧
  SH K H (upd H2 D3 (.lst (xs++[.ref p]))) D1 D2 D3 ⟨st.stairs,st.free,st.makers++[z]⟩:=by
 obtain ⟨xs,h1,r1⟩:=A.a1;obtain ⟨zs,h3,r3⟩:=A.a3;refine ⟨zs,h3,by rw [r3.length,List.length_map],⟨fun b o q=>?_,A.n1,A.n2,A.n3,A.d12,A.d13,A.d23,⟨xs,?_,?_⟩,?_,⟨zs++[.ref p],upd_same,?_⟩⟩⟩
 ·rw [upd_ne (ne_of_none q A.n3)];exact A.same b o q
 ·rw [upd_ne A.d13];exact h1
 ·exact r1.agr (Agr.of_upd h3 fun w=>w.2.2.2 rfl)
 ·rw [upd_ne A.d23];exact A.a2
 ·show RpL K (SS H D1 D2 D3) _ _ ((st.makers++[z]).map dL);rw [List.map_append];exact (r3.append (.cons (dL_of hp h) .nil)).agr (Agr.of_upd h3 fun w=>w.2.2.2 rfl)
def RowV(H:Hp)(x:V)(r:List Int):Prop:=∃c,x = .ref c∧(H c=some (.lst (r.map V.int))∨H c=some (.tup (r.map V.int)))
def RowsAt(H:Hp)(a:Addr)(R:List (List Int)):Prop:=∃xs,H a=some (.lst xs)∧xs.length=R.length∧∀(i:Nat) (x:V) (r:List Int),xs[i]? = some x→R[i]? = some r→RowV H x r
theorem RowV.same{H H':Hp}{x:V}{r:List Int}(h:RowV H x r)(e:Same H H'):RowV H' x r:=by
 obtain ⟨c,rfl,h⟩:=h;exact ⟨c,rfl,h.imp (e _ _) (e _ _)⟩
def sft(R:List (List Int)):St5:=sAt R R.length
def dS(st:St5):Dat:=.tuple [dL (ni st.free),.list (st.makers.map dL)]
def spSift(K:Fg):Sp:=fun vs H Q _=>∃(a:Addr) (R:List (List Int)) (w b:Nat),vs=[.ref a]∧RowsAt H a R∧Wide w R∧R.length≤20∧w≤20∧Bnd b R∧1≤b∧bits b R.length≤9000 ∧
 ∀(p:Addr) (H':Hp),Same H H'→Rp K (fun a=>H a=none) H' (.ref p) (dS (sft R))→Q (.ref p) H'
theorem len_sift{K:Fg}{vs:List V}{H:Hp}{Q:VK}{E:XK}{x:Str}(h:spSift K vs H Q E):vs.length=[x].length:=by
 obtain ⟨a,b,c,d,rfl,_⟩:=h;rfl
theorem sAt_succ{R:List (List Int)}{i:Nat}{r:List Int}(h:R[i]? = some r):sAt R (i+1)=sStep R.length (sAt R i) i r:=by
 show sStep R.length (sAt R i) i (R.getD i [])=_;rw [List.getD_eq_getElem?_getD,h];rfl
theorem k_listR{K:Fg}{H:Hp}{Q:VK}{x:V}{r:List Int}(e:RowV H x r)(h:∀l,H l=none→Q (.ref l) (upd H l (.lst (r.map V.int)))):rListOf K [x] H Q:=by
 obtain ⟨c,rfl,e | e⟩:=e
 ·exact k_listL (SqL.of e) h
 ·exact k_listT (SqT.of e) h
theorem k_lenR{K:Fg}{H:Hp}{Q:VK}{x:V}{r:List Int}(e:RowV H x r)(h:Q (.int r.length) H):rLenQ K [x] H Q:=by
 obtain ⟨c,rfl,e | e⟩:=e
 ·exact k_lenL (SqL.of e) (by rw [List.length_map];exact h)
 ·exact k_lenT (SqT.of e) (by rw [List.length_map];exact h)
theorem cutV_drop(xs:List V)(k:Nat):cutV xs (some (k:Int)) none=xs.drop k:=by
 have e:HT.sIx xs.length 0 (some (k:Int))=min k xs.length:=by
  show (if (k:Int) < 0 then ((k:Int)+(xs.length:Nat)).toNat else min (k:Int).toNat xs.length)=_;rw [if_neg (by omega),Int.toNat_natCast]
 have e2:HT.sIx xs.length xs.length none=xs.length:=rfl;unfold cutV;rw [e,e2];by_cases h:k≤xs.length
 ·rw [Nat.min_eq_left h,List.take_of_length_le (by rw [List.length_drop];exact Nat.le_refl _)]
 ·rw [Nat.min_eq_right (by omega),List.drop_eq_nil_of_le (Nat.le_refl _),List.drop_eq_nil_of_le (by omega),List.take_nil]
def spUnitR(K:Fg):Sp:=fun vs H Q _=>∃n i:Nat,vs=[.int (n:Int),.int (i:Int)]∧n≤100∧∀(p:Addr) (H':Hp),AccZ K H p H' ((ownR n i).map Dat.int)→Q (.ref p) H'
theorem len_unitR{K:Fg}{vs:List V}{H:Hp}{Q:VK}{E:XK}{x y:Str}(h:spUnitR K vs H Q E):vs.length=[x,y].length:=by
 obtain ⟨a,b,rfl,_⟩:=h;rfl
theorem ownR_len(n i:Nat):(ownR n i).length=n:=by unfold ownR;rw [List.length_map,List.length_range]
def t_unitR(K:Fg):TS:=(tRet (tComp (iRng1 (tCons (tVar 0) tNil)) (tIf (tTest (tOp rEq (tVar 0) (tVar 2))) (tC (.int 1)) (tC (.int 0)))))
theorem rd_unitR{K:Fg}{vs:List V}{H:Hp}{Q:VK}{E:XK}{N:List Str}(hN:N.length=2)(h:spUnitR K vs H Q E):t_unitR K (ends Q) (L2.start N vs) H:=by
 obtain ⟨n,i,rfl,hn,k⟩:=h;rw [show L2.start N [.int (n:Int),.int (i:Int)]=[some (.int (n:Int)),some (.int (i:Int))] by unfold L2.start;rw [hN];rfl];unfold t_unitR;walk_at "rd";rw [Int.toNat_natCast];refine comp_range (n:=n) fun D nD=>⟨fun j H4=>AccZ K H D H4 (((ownR n i).take j).map Dat.int),by simpa using AccZ.start (Same.refl _) nD,?_,?_⟩
 ·intro j H4 hj B;have eo:(ownR n i)[j]? = some (if j=i then 1 else 0):=by unfold ownR;rw [List.getElem?_map,List.getElem?_range hj];rfl
  have fin:∀(v:Int),v=(if j=i then 1 else 0)→EltK D n j (fun j H4=>AccZ K H D H4 (((ownR n i).take j).map Dat.int)) (.int v) H4:=by
   rintro v rfl;refine pushed hj ?_;refine B.pushK (.int _) (small1000 (by rw [List.length_map,List.length_take];omega)) fun H5 B5=>?_
   show AccZ K H D H5 (((ownR n i).take (j+1)).map Dat.int);rw [List.take_add_one,eo,List.map_append];exact B5
  rw [Int.zero_add];walk_at "rd";refine k_ite (fun e=>?_) (fun e=>?_)
  ·walk_at "rd";exact fin 1 (by rw [if_pos (by omega)])
  ·walk_at "rd";exact fin 0 (by rw [if_neg (by omega)])
 intro H4 B;rw [List.take_of_length_le (by rw [ownR_len];exact Nat.le_refl _)] at B;exact k D H4 B
def ownsR(n:Nat):List (List Int):=(List.range n).map (ownR n)
theorem ownsR_len(n:Nat):(ownsR n).length=n:=by unfold ownsR;rw [List.length_map,List.length_range]
theorem ownsR_at{n i:Nat}(h:i < n):(ownsR n)[i]? = some (ownR n i):=by unfold ownsR;rw [List.getElem?_map,List.getElem?_range h];rfl
def spUnits(K:Fg):Sp:=fun vs H Q _=>∃n:Nat,vs=[.int (n:Int)]∧n≤100∧∀(p:Addr) (H':Hp),Acc K H p H' ((ownsR n).map dL)→Q (.ref p) H'
theorem len_units{K:Fg}{vs:List V}{H:Hp}{Q:VK}{E:XK}{x:Str}(h:spUnits K vs H Q E):vs.length=[x].length:=by
 obtain ⟨a,rfl,_⟩:=h;rfl
def t_units(K:Fg):TS:=(tRet (tComp (iRng1 (tCons (tVar 0) tNil)) (tCall (spUnitR K) [] E0 (tCons (tVar 1) (tCons (tVar 0) tNil)))))
theorem rd_units{K:Fg}{vs:List V}{H:Hp}{Q:VK}{E:XK}{N:List Str}(hN:N.length=1)(h:spUnits K vs H Q E):t_units K (ends Q) (L2.start N vs) H:=by
 obtain ⟨n,rfl,hn,k⟩:=h;rw [show L2.start N [.int (n:Int)]=[some (.int (n:Int))] by unfold L2.start;rw [hN];rfl];unfold t_units;walk_at "rd";rw [Int.toNat_natCast];refine comp_range (n:=n) fun D nD=>⟨fun j H3=>Acc K H D H3 (((ownsR n).take j).map dL),by simpa using Acc.start nD,?_,?_⟩
 ·intro j H3 hj A;rw [Int.zero_add];walk_at "rd";refine ⟨n,j,rfl,hn,fun p H4 C=>?_⟩;refine pushed hj ?_;refine A.pushK C.same (d:=dL (ownR n j)) C.ref (small1000 (by rw [List.length_map,List.length_take];omega)) fun H5 A5=>?_
  show Acc K H D H5 (((ownsR n).take (j+1)).map dL);rw [List.take_add_one,ownsR_at hj,List.map_append];exact A5
 ·intro H3 A;rw [List.take_of_length_le (by rw [ownsR_len];exact Nat.le_refl _)] at A;exact k D H3 A
structure UN (K:Fg) (H H2:Hp) (D1 D2 D3 U:Addr) (n:Nat):Prop where
 s:SS H D1 D2 D3 U
 at_:∃xs,H2 U=some (.lst xs)∧RpL K (SS H D1 D2 D3) H2 xs ((ownsR n).map dL)
theorem UN.on{K:Fg}{H H2 H3:Hp}{D1 D2 D3 U:Addr}{n:Nat}(A:UN K H H2 D1 D2 D3 U n)(e:Same H2 H3):UN K H H3 D1 D2 D3 U n:=by
 obtain ⟨xs,h1,r1⟩:=A.at_;exact ⟨A.s,xs,e _ _ h1,r1.same e⟩
theorem UN.upd{K:Fg}{H H2:Hp}{D1 D2 D3 U D:Addr}{n:Nat}{l:List V}{o:HO}(A:UN K H H2 D1 D2 D3 U n)(hD:D=D1∨D=D2∨D=D3)(h:H2 D=some (.lst l)):UN K H (L2.upd H2 D o) D1 D2 D3 U n:=by
 obtain ⟨xs,h1,r1⟩:=A.at_
 have no:∀a,SS H D1 D2 D3 a→a≠D:=fun a z e=>by
  rcases hD with rfl | rfl | rfl
  ·exact z.2.1 e
  ·exact z.2.2.1 e
  ·exact z.2.2.2 e
 exact ⟨A.s,xs,by rw [upd_ne (no _ A.s)];exact h1,r1.agr (Agr.of_upd h fun w=>no _ w rfl)⟩
theorem UN.get{K:Fg}{H H2:Hp}{D1 D2 D3 U:Addr}{n i:Nat}(A:UN K H H2 D1 D2 D3 U n)(hi:i < n):∃xs c,H2 U=some (.lst xs)∧xs[i]? = some (.ref c)∧H2 c=some (.lst ((ownR n i).map V.int)):=by
 obtain ⟨xs,h1,r1⟩:=A.at_;obtain ⟨x,e0,q0⟩:=r1.get' (i:=i) (d:=dL (ownR n i)) (by rw [List.getElem?_map,ownsR_at hi];rfl);obtain ⟨c,rfl,_,hc⟩:=dL_at q0;exact ⟨xs,c,h1,e0,hc⟩
def t_sift(K:Fg):TS:=(tSeq (tAsg (tLst tNil) (gName 1))
 (tSeq (tAsg (tLst tNil) (gName 2))
 (tSeq (tAsg (tLst tNil) (gName 3))
 (tSeq (tAsg (tCall (spUnits K) [] E0 (tCons (tCB (rLenQ K) (tCons (tVar 0) tNil)) tNil)) (gName 4))
 (tSeq (tFor (iEnum K (tCons (tVar 0) tNil)) (gTup K 2 (gCons (gName 5) (gCons (gName 6) gNil)))
 (tSeq (tAsg (tCall (spClr K) [] E0 (tCons (tOp rCat (tCB (rListOf K) (tCons (tVar 6) tNil)) (tOp (rIxL K) (tVar 4) (tVar 5))) (tCons (tVar 1) tNil))) (gName 7))
 (tIfS (tTest (tOp rLt (tCall (spFirst K) [] E0 (tCons (tVar 7) tNil)) (tCB (rLenQ K) (tCons (tVar 6) tNil))))
 (tSeq (tDrop (tBM K "list" rAppend (tVar 1) (tCons (tVar 7) tNil)))
 (tDrop (tBM K "list" rAppend (tVar 2) (tCons (tVar 5) tNil))))
 (tDrop (tBM K "list" rAppend (tVar 3) (tCons (tCall (spLowR K) [] E0 (tCons (tSl (rSlL K) (tVar 7) (tPart (tCB (rLenQ K) (tCons (tVar 6) tNil))) tNoPart) tNil)) tNil))))))
 (tRet (tTup (tCons (tVar 2) (tCons (tVar 3) tNil)))))))))
theorem rd_sift{K:Fg}{vs:List V}{H:Hp}{Q:VK}{E:XK}{N:List Str}(hN:N.length=8)(h:spSift K vs H Q E):t_sift K (ends Q) (L2.start N vs) H:=by
 obtain ⟨a,R,w,b,rfl,⟨xs,ha,lx,rx⟩,hw,hl,hw1,hb,hb1,hbits,k⟩:=h;rw [show L2.start N [.ref a]=[some (.ref a),none,none,none,none,none,none,none] by unfold L2.start;rw [hN];rfl];unfold t_sift;walk_at "rd";refine ⟨by decide,fun D1 n1=>?_⟩;walk_at "rd";refine ⟨by decide,fun D2 n2=>?_⟩;walk_at "rd";refine ⟨by decide,fun D3 n3=>?_⟩
 have A0:SH K H (upd (upd (upd H D1 (.lst [])) D2 (.lst [])) D3 (.lst [])) D1 D2 D3 (sAt R 0):=by
  have S1:=same_new n1 (.lst []);have S2:=same_new n2 (.lst []);have S3:=same_new n3 (.lst []);have h1:upd H D1 (.lst []) D1=some (.lst []):=upd_same;have h2:upd (upd H D1 (.lst [])) D2 (.lst []) D2=some (.lst []):=upd_same;exact ⟨S1.trans (S2.trans S3),n1,S1.free n2,(S1.trans S2).free n3,ne_of_none h1 n2,ne_of_none (S2 _ _ h1) n3,ne_of_none h2 n3,⟨[],S3 _ _ (S2 _ _ h1),.nil⟩,S3 _ _ h2,⟨[],upd_same,.nil⟩⟩
 generalize upd (upd (upd H D1 (.lst [])) D2 (.lst [])) D3 (.lst [])=H0 at A0 ⊢;walk_at "rd";refine k_lenL (SqL.of (A0.same _ _ ha)) ?_;rw [lx];walk_at "rd";refine ⟨R.length,rfl,by omega,fun U H1 AU=>?_⟩
 have B0:UN K H H1 D1 D2 D3 U R.length:=by
  obtain ⟨x1,hx1,_⟩:=A0.a1;obtain ⟨x3,hx3,_⟩:=A0.a3;have ss:∀q,H0 q=none→SS H D1 D2 D3 q:=fun q nq=>⟨A0.same.free nq,(ne_of_none hx1 nq).symm,(ne_of_none A0.a2 nq).symm,(ne_of_none hx3 nq).symm⟩
  obtain ⟨ys,hy,ry⟩:=AU.at_;exact ⟨ss U AU.new,ys,hy,ry.mono fun q z=>ss q z.1⟩
 replace A0:=A0.on AU.same;clear AU;walk_at "rd";refine ⟨a,xs,rfl,SqL.of (A0.same _ _ ha),?_⟩;refine fat_enum (xs:=xs) (fun i σ H2=>∃u5 u6 u7:Option V,σ = [some (.ref a),some (.ref D1),some (.ref D2),some (.ref D3),some (.ref U),u5,u6,u7]∧SH K H H2 D1 D2 D3 (sAt R i)∧UN K H H2 D1 D2 D3 U R.length) ⟨none,none,none,rfl,A0,B0⟩ (fun i σ H2 _ ⟨_,_,_,_,A,_⟩=>SqL.of (A.same _ _ ha)) ?_ ?_
 ·clear A0 B0 n1 n2 n3;rintro i x σ H2 T hx ⟨u5,u6,u7,rfl,A,B⟩ nT;have li:i < R.length:=by rw [← lx];exact (List.getElem?_eq_some_iff.mp hx).1
  obtain ⟨r,hr⟩:∃r,R[i]? = some r:=⟨_,List.getElem?_eq_getElem li⟩
  have rv:=rx i x r hx hr;have I:=si_at hw hb1 hb i (by omega);have lr:=hw r (List.mem_of_getElem? hr);have Y:=(ri_of I hb1 li lr (hb r (List.mem_of_getElem? hr))).1;have es:=sAt_succ hr;rw [es];generalize sAt R i=st at A I Y ⊢;have A2:=A.on (same_new nT (.tup [.int (i:Int),x]));have B2:=B.on (same_new nT (.tup [.int (i:Int),x]));have hT:upd H2 T (.tup [.int (i:Int),x]) T=some (.tup [.int (i:Int),x]):=upd_same;generalize upd H2 T (.tup [.int (i:Int),x])=H3 at A2 B2 hT ⊢;refine k_gTup (SqT.of hT) rfl ?_;have lo:(ownR R.length i).length=R.length:=ownR_len _ _;walk_at "rd";refine k_listR (rv.same A2.same) fun l nl=>?_
  have A5:=A2.on (same_new nl (.lst (r.map V.int)));have B5:=B2.on (same_new nl (.lst (r.map V.int)));have hl5:upd H3 l (.lst (r.map V.int)) l=some (.lst (r.map V.int)):=upd_same;generalize upd H3 l (.lst (r.map V.int))=H5 at A5 B5 hl5 ⊢;obtain ⟨us,D,hU,eD,hD5⟩:=B5.get li;walk_at "rd";refine k_ixL (SqL.of hU) (v:=.ref D) (atI_nat (j:=i) eD) ?_;walk_at "rd";refine ⟨l,D,_,_,rfl,rfl,hl5,hD5,?_,fun q nq=>?_⟩
  ·have:(r.map V.int).length+((ownR R.length i).map V.int).length < sizeLine:=small1000 (by rw [List.length_map,List.length_map];omega)
   omega
  rw [← List.map_append];have hq6:upd H5 q (.lst ((r++ownR R.length i).map V.int)) q=some (.lst ((r++ownR R.length i).map V.int)):=upd_same;have A6:=A5.on (same_new nq (.lst ((r++ownR R.length i).map V.int)));have B6:=B5.on (same_new nq (.lst ((r++ownR R.length i).map V.int)));obtain ⟨x1,hx1,rx1⟩:=A5.a1;obtain ⟨x3,hx3,rx3⟩:=A5.a3;have sq:SS H D1 D2 D3 q:=⟨A5.same.free nq,(ne_of_none hx1 nq).symm,(ne_of_none A5.a2 nq).symm,(ne_of_none hx3 nq).symm⟩
  generalize upd H5 q (.lst ((r++ownR R.length i).map V.int))=H6 at hq6 A6 B6 ⊢;walk_at "rd";obtain ⟨ps,s1,s2,s3,_⟩:=I.sta;have lxo:(r++ownR R.length i).length=w+R.length:=by rw [List.length_append,lo,lr]
  have bst:bits b st.stairs.length≤bits b R.length:=bits_mono (by have:=I.cnt;omega);refine ⟨q,D1,r++ownR R.length i,st.stairs,b,rfl,hq6,?_,by omega,fun t ht=>⟨by rw [I.len t ht,lxo],?_⟩,?_,I.bnd,by omega,fun p H7 S7 hp h7=>?_⟩
  ·obtain ⟨y1,hy1,ry1⟩:=A6.a1;exact ⟨y1,hy1,ry1.mono fun _ _=>trivial⟩
  ·have:fp t∈st.stairs.map fp:=List.mem_map.mpr ⟨t,ht,rfl⟩
   rw [s3] at this;obtain ⟨p0,_,e0⟩:=List.mem_map.mp this;exact ⟨p0,e0.symm⟩
  ·intro c hc;rcases List.mem_append.mp hc with m | m
   ·exact hb r (List.mem_of_getElem? hr) c m
   ·unfold ownR at m;obtain ⟨o,_,rfl⟩:=List.mem_map.mp m
    have:2 ^ 1≤2 ^ b:=Nat.pow_le_pow_right (by decide) hb1
    split <;> omega
  have A7:=A6.on S7;have B7:=B6.on S7
  have sp:SS H D1 D2 D3 p:=by
   rcases hp with rfl | np
   ·exact sq
   ·obtain ⟨y1,hy1,_⟩:=A6.a1;obtain ⟨y3,hy3,_⟩:=A6.a3;exact ⟨A6.same.free np,(ne_of_none hy1 np).symm,(ne_of_none A6.a2 np).symm,(ne_of_none hy3 np).symm⟩
  have h7':H7 p=some (.lst ((restR R.length st i r).map V.int)):=h7;walk_at "rd";refine ⟨p,restR R.length st i r,rfl,h7',fun H8 S8=>?_⟩;have A8:=A7.on S8;have B8:=B7.on S8;have h8:=S8 _ _ h7';obtain ⟨f,f1,f2⟩:=Y.ne;have fv:fpV (restR R.length st i r) = .int f:=by unfold fpV;rw [f1]
  rw [fv];walk_at "rd";refine k_lenR (rv.same A8.same) ?_;walk_at "rd";refine k_ite (fun c=>?_) (fun c=>?_)
  ·have c':f < r.length:=by omega
   have e1:sStep R.length st i r = ⟨st.stairs++[restR R.length st i r],st.free++[i],st.makers⟩:=by
    unfold sStep;rw [f1];exact if_pos c'
   obtain ⟨zs,z1,z2,z3,z4⟩:=A8.stair (i:=i) sp h8;walk_at "rd";refine ⟨k_tyL z1,?_⟩;walk_at "rd";refine ⟨D1,zs,_,rfl,rfl,z1,small1000 (by have:=I.cnt;omega),?_⟩;walk_at "rd";refine ⟨k_tyL z3,?_⟩;walk_at "rd";refine ⟨D2,_,_,rfl,rfl,z3,small1000 ?_,?_⟩
   ·have:st.free.length≤i:=by
     rw [I.free]
     have:∀i,(grd R i).length≤i:=by
      intro i
      induction i with
      | zero=>exact Nat.le_refl _
      | succ i ih =>
       by_cases g:Free (rowsOf R (grd R i)++[R.getD i []])
       ·rw [grd_yes rfl g,List.length_append];exact Nat.succ_le_succ ih
       ·rw [grd_no rfl g];omega
     exact this i
    unfold ni;rw [List.length_map,List.length_map];omega
   ·rw [e1];exact ⟨_,_,_,rfl,z4,(B8.upd (.inl rfl) z1).upd (.inr (.inl rfl)) z3⟩
  ·have c' : ¬ f < r.length:=by omega
   have e1:sStep R.length st i r = ⟨st.stairs,st.free,st.makers++[lowR ((restR R.length st i r).drop r.length)]⟩:=by
    unfold sStep;rw [f1];exact if_neg c'
   obtain ⟨y3,hy3,_⟩:=A8.a3;walk_at "rd";refine ⟨k_tyL hy3,?_⟩;walk_at "rd";refine k_lenR (rv.same A8.same) ?_;walk_at "rd";refine ⟨p,_,rfl,SqL.of h8,fun t nt=>?_⟩;rw [cutV_drop,← List.map_drop];have A9:=A8.on (same_new nt (.lst (((restR R.length st i r).drop r.length).map V.int)));have B9:=B8.on (same_new nt (.lst (((restR R.length st i r).drop r.length).map V.int)));have h9:upd H8 t (.lst (((restR R.length st i r).drop r.length).map V.int)) t=some (.lst (((restR R.length st i r).drop r.length).map V.int)):=upd_same;generalize upd H8 t (.lst (((restR R.length st i r).drop r.length).map V.int))=H9 at A9 B9 h9 ⊢;walk_at "rd";refine ⟨t,_,rfl,h9,by rw [List.length_drop,Y.len];omega,fun c hc=>?_,fun p2 H10 C2=>?_⟩
   ·exact Nat.lt_of_lt_of_le (Y.bnd c (List.mem_of_mem_drop hc)) (Nat.pow_le_pow_right (by decide) (by omega))
   ·have A10:=A9.on C2.same;obtain ⟨y1,hy1,_⟩:=A9.a1;obtain ⟨y4,hy4,_⟩:=A9.a3;have sp2:SS H D1 D2 D3 p2:=⟨A9.same.free C2.new,(ne_of_none hy1 C2.new).symm,(ne_of_none A9.a2 C2.new).symm,(ne_of_none hy4 C2.new).symm⟩
    obtain ⟨zs,z1,z2,z3⟩:=A10.maker sp2 (AccZ.ints C2);walk_at "rd";refine ⟨D3,zs,_,rfl,rfl,z1,small1000 (by have:=I.mks;omega),?_⟩;rw [e1];exact ⟨_,_,_,rfl,z3,(B9.on C2.same).upd (.inr (.inr rfl)) z1⟩
 ·rintro σ H2 ⟨u5,u6,u7,rfl,A,_⟩;rw [lx] at A;walk_at "rd";refine ⟨by show 2≤sizeLine;decide,fun p np=>?_⟩;obtain ⟨x3,h3,r3⟩:=A.a3;have S:=same_new np (.tup [.ref D2,.ref D3]);refine k p _ (A.same.trans S) (.tup upd_same (.cons (dL_of A.n2 (S _ _ A.a2)) (.cons (.lst A.n3 (S _ _ h3) ((r3.same S).mono fun _ z=>z.1)) .nil)))
end Rw
namespace Rw
open PySem L2 Fr G1 Sm Vs G2 Rk Sz Sf
open PySem.W (Dat kqdOk)
def spTurnAt(K:Fg):Sp:=fun vs H Q _=>∃(v:V) (n:Nat) (ws:List Str) (ts:List Tn) (t:Tn),vs=[v,.int (n:Int)]∧Rz K H v (dV ws ts)∧ts[n]? = some t∧∀z,Rz K H z (dT t)→Q z H
theorem len_turnAt{K:Fg}{vs:List V}{H:Hp}{Q:VK}{E:XK}{x y:Str}(h:spTurnAt K vs H Q E):vs.length=[x,y].length:=by
 obtain ⟨a,b,c,d,e,rfl,_⟩:=h;rfl
def t_turnAt(K:Fg):TS:=(tSeq (tAsg (tOp (rIxT K) (tVar 0) (tC (.int 1))) (gName 2))
 (tSeq (tIfS (tOr (tNot (tB (tCall spWhole [] E0 (tCons (tVar 1) tNil)))) (tNot (tTest (tChain rLe rLt (tC (.int 0)) (tVar 1) (tCB (rLenQ K) (tCons (tVar 2) tNil))))))
 tNever
 tNext)
 (tRet (tOp (rIxT K) (tVar 2) (tVar 1)))))
theorem rd_turnAt{K:Fg}{vs:List V}{H:Hp}{Q:VK}{E:XK}{N:List Str}(hN:N.length=3)(h:spTurnAt K vs H Q E):t_turnAt K (ends Q) (L2.start N vs) H:=by
 obtain ⟨v,n,ws,ts,t,rfl,rv,ht,k⟩:=h;obtain ⟨a,v1,v2,rfl,ha,_,r2⟩:=dV_at rv;obtain ⟨b,xs,rfl,hb,rx⟩:=r2.tup_at;have lx:xs.length=ts.length:=by rw [rx.length,List.length_map]
 have ln:n < ts.length:=(List.getElem?_eq_some_iff.mp ht).1;rw [show L2.start N [.ref a,.int (n:Int)]=[some (.ref a),some (.int (n:Int)),none] by unfold L2.start;rw [hN];rfl];unfold t_turnAt;walk_at "rd";refine k_ixT (SqT.of ha) (v:=.ref b) rfl ?_;walk_at "rd";refine ⟨(n:Int),rfl,?_⟩;walk_at "rd";refine k_ite (fun _=>?_) (fun z=>absurd z (by omega));walk_at "rd";refine k_lenT (SqT.of hb) ?_;walk_at "rd";refine k_iteN (fun z=>absurd z (by omega)) (fun _=>?_);walk_at "rd";obtain ⟨u,eu,ru⟩:=rx.get' (i:=n) (d:=dT t) (by rw [List.getElem?_map,ht];rfl);refine k_ixT (SqT.of hb) (v:=u) (atI_nat eu) ?_;exact k u ru
def spChg(K:Fg):Sp:=fun vs H Q _=>∃(v:V) (n:Nat) (ws:List Str) (ts:List Tn) (t:Tn),vs=[v,.int (n:Int)]∧Rz K H v (dV ws ts)∧ts[n]? = some t∧t.fr.length≤100∧∀(p:Addr) (H':Hp),Same H H'→Rz K H' (.ref p) (dI (chg t))→Q (.ref p) H'
theorem len_chg{K:Fg}{vs:List V}{H:Hp}{Q:VK}{E:XK}{x y:Str}(h:spChg K vs H Q E):vs.length=[x,y].length:=by
 obtain ⟨a,b,c,d,e,rfl,_⟩:=h;rfl
def t_chg(K:Fg):TS:=(tSeq (tAsg (tCall (spTurnAt K) [] E0 (tCons (tVar 0) (tCons (tVar 1) tNil))) (gName 2))
 (tRet (tCB (rTupOf K) (tCons (tCompG (iZip K .T .T (tCons (tOp (rIxT K) (tVar 2) (tC (.int 0))) (tCons (tOp (rIxT K) (tVar 2) (tC (.int 1))) tNil))) 2 (gTup K 2 (gCons (gName 0) (gCons (gName 1) gNil))) (tOp qSub (tVar 1) (tVar 0))) tNil))))
theorem rd_chg{K:Fg}{vs:List V}{H:Hp}{Q:VK}{E:XK}{N:List Str}(hN:N.length=3)(h:spChg K vs H Q E):t_chg K (ends Q) (L2.start N vs) H:=by
 obtain ⟨v,n,ws,ts,t,rfl,rv,ht,hf3,k3⟩:=h;rw [show L2.start N [v,.int (n:Int)]=[some v,some (.int (n:Int)),none] by unfold L2.start;rw [hN];rfl];unfold t_chg;walk_at "rd";refine ⟨v,n,ws,ts,t,rfl,rv,ht,fun u ru=>?_⟩;obtain ⟨at_,w1,w2,w3,rfl,hat,q1,q2,_⟩:=dT_at ru;obtain ⟨b1,rfl,hb1⟩:=dI_at q1;obtain ⟨b2,rfl,hb2⟩:=dI_at q2;walk_at "rd";refine k_ixT (SqT.of hat) (v:=.ref b1) rfl ?_;walk_at "rd";refine k_ixT (SqT.of hat) (v:=.ref b2) rfl ?_;walk_at "rd";refine ⟨b1,b2,_,_,rfl,SqT.of hb1,SqT.of hb2,?_⟩;refine comp_zip (xs:=t.fr.map V.int) (ys:=t.to.map V.int) fun D nD=>?_
 have ml:min (t.fr.map V.int).length (t.to.map V.int).length=(chg t).length:=by unfold chg;rw [List.length_zipWith,List.length_map,List.length_map]
 refine ⟨fun i H2=>AccZ K H D H2 (((chg t).take i).map Dat.int),AccZ.start (Same.refl _) nD,fun i H2 _ A=>⟨SqT.of (A.same _ _ hb1),SqT.of (A.same _ _ hb2)⟩,?_,?_⟩
 ·intro i y1 y2 H2 T e1 e2 A nT us hu
  obtain ⟨u0,u1,rfl⟩:∃u0 u1,us=[u0,u1]:=by
   match us,hu with
   | [u0,u1],_=>exact ⟨u0,u1,rfl⟩
  rw [List.getElem?_map] at e1 e2;obtain ⟨m1,f1,rfl⟩:=Option.map_eq_some_iff.mp e1;obtain ⟨m2,f2,rfl⟩:=Option.map_eq_some_iff.mp e2;have ec:(chg t)[i]? = some (m2 - m1):=by unfold chg;rw [List.getElem?_zipWith,f1,f2]
  have li:i < (chg t).length:=(List.getElem?_eq_some_iff.mp ec).1;refine k_gTup (SqT.of upd_same) rfl ?_;walk_at "rd";refine ⟨⟨[some (.int m1),some (.int m2)],rfl,rfl⟩,?_⟩;walk_at "rd";refine pushed (by rw [ml];exact li) ?_;refine (A.on (same_new nT _)).pushK (.int (m2 - m1)) (small1000 ?_) fun H4 A4=>?_
  ·rw [List.length_map,List.length_take]
   have:=(List.getElem?_eq_some_iff.mp f1).1
   omega
  ·show AccZ K H D H4 (((chg t).take (i+1)).map Dat.int);rw [List.take_add_one,ec,List.map_append];exact A4
 ·intro H2 A;rw [ml,List.take_of_length_le (Nat.le_refl _)] at A;walk_at "rd";refine k_tupL (SqL.of (AccZ.ints A)) fun p np=>?_
  exact k3 p _ (A.same.trans (same_new np _)) (.tup upd_same (RpL.ints _))
def spChgs(K:Fg):Sp:=fun vs H Q _=>∃(v:V) (ws:List Str) (ts:List Tn),vs=[v]∧Rz K H v (dV ws ts)∧ts.length≤100∧(∀t∈ts,t.fr.length≤100)∧∀(p:Addr) (H':Hp),AccZ K H p H' ((ts.map chg).map dI)→Q (.ref p) H'
theorem len_chgs{K:Fg}{vs:List V}{H:Hp}{Q:VK}{E:XK}{x:Str}(h:spChgs K vs H Q E):vs.length=[x].length:=by
 obtain ⟨a,b,c,rfl,_⟩:=h;rfl
def t_chgs(K:Fg):TS:=(tRet (tComp (iRng1 (tCons (tCB (rLenQ K) (tCons (tOp (rIxT K) (tVar 0) (tC (.int 1))) tNil)) tNil)) (tCall (spChg K) [] E0 (tCons (tVar 1) (tCons (tVar 0) tNil)))))
theorem rd_chgs{K:Fg}{vs:List V}{H:Hp}{Q:VK}{E:XK}{N:List Str}(hN:N.length=1)(h:spChgs K vs H Q E):t_chgs K (ends Q) (L2.start N vs) H:=by
 obtain ⟨v,ws,ts,rfl,rv,hl,hf,k⟩:=h;have rv0:=rv;obtain ⟨a,v1,v2,rfl,ha,_,r2⟩:=dV_at rv;obtain ⟨b,xs,rfl,hb,rx⟩:=r2.tup_at;have lx:xs.length=ts.length:=by rw [rx.length,List.length_map]
 rw [show L2.start N [.ref a]=[some (.ref a)] by unfold L2.start;rw [hN];rfl];unfold t_chgs;walk_at "rd";refine k_ixT (SqT.of ha) (v:=.ref b) rfl ?_;walk_at "rd";refine k_lenT (SqT.of hb) ?_;walk_at "rd";rw [lx,Int.toNat_natCast];refine comp_range (n:=ts.length) fun D nD=>⟨fun j H2=>AccZ K H D H2 (((ts.take j).map chg).map dI),by simpa using AccZ.start (Same.refl _) nD,?_,?_⟩
 ·intro j H2 hj A;obtain ⟨t,ht⟩:∃t,ts[j]? = some t:=⟨_,List.getElem?_eq_getElem hj⟩
  rw [Int.zero_add];walk_at "rd";refine ⟨.ref a,j,ws,ts,t,rfl,rv0.same A.same,ht,hf t (List.mem_of_getElem? ht),fun p H3 S3 rp=>?_⟩;refine pushed hj ?_;refine (A.on S3).pushK rp (small1000 (by rw [List.length_map,List.length_map,List.length_take];omega)) fun H4 A4=>?_
  show AccZ K H D H4 (((ts.take (j+1)).map chg).map dI);rw [List.take_add_one,ht,List.map_append,List.map_append];exact A4
 ·intro H2 A;rw [List.take_of_length_le (Nat.le_refl _)] at A;exact k D H2 A
def spFreeP(K:Fg):Sp:=fun vs H Q _=>∃(a:Addr) (R:List (List Int)) (w b:Nat),vs=[.ref a]∧RowsAt H a R∧Wide w R∧R.length≤20∧w≤20∧Bnd b R∧1≤b∧bits b R.length≤9000 ∧
 ∀(p:Addr) (H':Hp),AccZ K H p H' ((ni (sft R).free).map Dat.int)→Q (.ref p) H'
theorem len_freeP{K:Fg}{vs:List V}{H:Hp}{Q:VK}{E:XK}{x:Str}(h:spFreeP K vs H Q E):vs.length=[x].length:=by
 obtain ⟨a,b,c,d,rfl,_⟩:=h;rfl
def t_freeP(K:Fg):TS:=(tRet (tOp (rIxT K) (tCall (spSift K) [] E0 (tCons (tVar 0) tNil)) (tC (.int 0))))
theorem rd_freeP{K:Fg}{vs:List V}{H:Hp}{Q:VK}{E:XK}{N:List Str}(hN:N.length=1)(h:spFreeP K vs H Q E):t_freeP K (ends Q) (L2.start N vs) H:=by
 obtain ⟨a,R,w,b,rfl,hr,hw,hl,hw1,hb,hb1,hbits,k⟩:=h;rw [show L2.start N [.ref a]=[some (.ref a)] by unfold L2.start;rw [hN];rfl];unfold t_freeP;walk_at "rd";refine ⟨a,R,w,b,rfl,hr,hw,hl,hw1,hb,hb1,hbits,fun p H1 S1 rp=>?_⟩;obtain ⟨q,xs,e,hq,rx⟩:=rp.tup_at;cases e;cases rx with
 | cons h1 r1 =>
  obtain ⟨c,rfl,nc,hc⟩:=dL_at h1;walk_at "rd";refine k_ixT (SqT.of hq) (v:=.ref c) (atI_nat (j:=0) rfl) ?_;exact k c H1 ⟨S1,nc,_,hc,RpL.ints _⟩
structure ChOk (w:Nat) (ts:List Tn):Prop where
 le:ts.length≤8
 w5:w≤5
 fr:∀t∈ts,t.fr.length=w
 wide:Wide w (ts.map chg)
 bnd:Bnd 2 (ts.map chg)
theorem chOk{ws:List Str}{ts:List Tn}(vo:VesOk ws ts):ChOk ws.length ts:=by
 obtain ⟨hs,po,_,tk⟩:=vo.turns;have ho:∀t∈ts,HeapOk ws.length t.fr∧HeapOk ws.length t.to:=fun t ht=>⟨po.2 _ (tk.ok t ht).1,po.2 _ (tk.ok t ht).2.1⟩
 refine ⟨tk.le,vo.w5,fun t ht=>(ho t ht).1.1,fun r hr=>?_,fun r hr c hc=>?_⟩
 ·obtain ⟨t,ht,rfl⟩:=List.mem_map.mp hr;unfold chg;rw [List.length_zipWith,(ho t ht).1.1,(ho t ht).2.1,Nat.min_self]
 ·obtain ⟨t,ht,rfl⟩:=List.mem_map.mp hr;unfold chg at hc;obtain ⟨i,hi⟩:=List.getElem?_of_mem hc;rw [List.getElem?_zipWith] at hi;cases e1:t.fr[i]? with
  | none=>rw [e1] at hi;simp at hi
  | some x =>
   cases e2:t.to[i]? with
   | none=>rw [e1,e2] at hi;simp at hi
   | some y =>
    rw [e1,e2] at hi;have hi':=Option.some.inj hi;have b1:=(ho t ht).1.2 x (List.mem_of_getElem? e1);have b2:=(ho t ht).2.2 y (List.mem_of_getElem? e2);show c.natAbs < 4;omega
def spFreeV(K:Fg):Sp:=fun vs H Q _=>∃(v:V) (ws:List Str) (ts:List Tn) (w:Nat),vs=[v]∧Rz K H v (dV ws ts)∧ChOk w ts∧∀(p:Addr) (H':Hp),AccZ K H p H' ((ni (sft (ts.map chg)).free).map Dat.int)→Q (.ref p) H'
theorem len_freeV{K:Fg}{vs:List V}{H:Hp}{Q:VK}{E:XK}{x:Str}(h:spFreeV K vs H Q E):vs.length=[x].length:=by
 obtain ⟨a,b,c,d,rfl,_⟩:=h;rfl
theorem rowsT{K:Fg}{H0 H:Hp}{p:Addr}{R:List (List Int)}(A:AccZ K H0 p H (R.map dI)):RowsAt H p R:=by
 obtain ⟨xs,h1,h2⟩:=A.at_;refine ⟨xs,h1,by rw [h2.length,List.length_map],fun i x r hx hr=>?_⟩;obtain ⟨d,g1,g2⟩:=h2.get hx;rw [List.getElem?_map,hr] at g1;cases g1;obtain ⟨b,rfl,hb⟩:=dI_at g2;exact ⟨b,rfl,.inr hb⟩
theorem bits28{n:Nat}(h:n≤8):bits 2 n≤9000:=Nat.le_trans (bits_mono h) (by decide)
def t_freeV(K:Fg):TS:=(tRet (tCall (spFreeP K) [] E0 (tCons (tCall (spChgs K) [] E0 (tCons (tVar 0) tNil)) tNil)))
theorem rd_freeV{K:Fg}{vs:List V}{H:Hp}{Q:VK}{E:XK}{N:List Str}(hN:N.length=1)(h:spFreeV K vs H Q E):t_freeV K (ends Q) (L2.start N vs) H:=by
 obtain ⟨v,ws,ts,w,rfl,rv,co,k⟩:=h;rw [show L2.start N [v]=[some v] by unfold L2.start;rw [hN];rfl];unfold t_freeV;have t8:=co.le;have w5:=co.w5;walk_at "rd";refine ⟨v,ws,ts,rfl,rv,by omega,fun t ht=>by rw [co.fr t ht];omega,fun p H1 A1=>?_⟩;walk_at "rd";refine ⟨p,ts.map chg,w,2,rfl,rowsT A1,co.wide,by rw [List.length_map];omega,by omega,co.bnd,by decide,bits28 (by rw [List.length_map];exact t8),fun q H2 A2=>?_⟩;exact k q H2 ⟨A1.same.trans A2.same,A1.same.free A2.new,A2.at_⟩
end Rw
namespace Cl
open Rk Sz Sf
def col(R:List (List Int))(k:Nat):List Int:=R.map fun r=>pt r k
def cols(w:Nat)(R:List (List Int)):List (List Int):=(List.range w).map (col R)
def rdt:List Int→List Nat→List Int→Int
 | a :: as,p :: ps,r=>a*pt r p+rdt as ps r
 | _,_,_=>0
theorem rdt_app:∀{a:List Int} {ps:List Nat} (b:List Int) (qs:List Nat) (r:List Int),a.length=ps.length→rdt (a++b) (ps++qs) r=rdt a ps r+rdt b qs r
 | [],[],b,qs,r,_=>by simp [rdt]
 | x :: a,p :: ps,b,qs,r,h=>by
  have ih:=rdt_app (a:=a) (ps:=ps) b qs r (by simpa using h);show x*pt r p+rdt (a++b) (ps++qs) r=x*pt r p+rdt a ps r+rdt b qs r;rw [ih];omega
theorem rdt_smul(k:Int):∀(a:List Int) (ps:List Nat) (r:List Int),rdt (a.map fun x=>k*x) ps r=k*rdt a ps r
 | [],ps,r=>by cases ps <;> simp [rdt]
 | x :: a,[],r=>by simp [rdt]
 | x :: a,p :: ps,r=>by
  have ih:=rdt_smul k a ps r;show k*x*pt r p+rdt (a.map fun x=>k*x) ps r=k*(x*pt r p+rdt a ps r);rw [ih,Int.mul_add,Int.mul_assoc]
theorem rdt_zero{ps:List Nat}{r:List Int}(h:∀p∈ps,pt r p=0):∀a:List Int,rdt a ps r=0:=by
 induction ps with
 | nil=>intro a;cases a <;> rfl
 | cons p ps ih =>
  intro a;cases a with
  | nil=>rfl
  | cons x a =>
   show x*pt r p+rdt a ps r=0;rw [h p List.mem_cons_self,ih (fun q hq=>h q (List.mem_cons_of_mem _ hq))];omega
theorem rdt_clr{by_ s:List Int}{p:Nat}(h:s.length=by_.length):∀(a:List Int) (ps:List Nat),rdt a ps (clr by_ p s)=pt by_ p*rdt a ps s - pt s p*rdt a ps by_
 | [],ps=>by cases ps <;> simp [rdt]
 | x :: a,[]=>by simp [rdt]
 | x :: a,q :: ps=>by
  have ih:=rdt_clr (p:=p) h a ps;show x*pt (clr by_ p s) q+rdt a ps (clr by_ p s)=pt by_ p*(x*pt s q+rdt a ps s) - pt s p*(x*pt by_ q+rdt a ps by_);rw [ih,pt_clr h,Int.mul_add,Int.mul_add,Int.mul_sub];have e1:x*(pt s q*pt by_ p)=pt by_ p*(x*pt s q):=by rw [← Int.mul_assoc,Int.mul_comm]
  have e2:x*(pt s p*pt by_ q)=pt s p*(x*pt by_ q):=by rw [← Int.mul_assoc,Int.mul_comm x,Int.mul_assoc]
  omega
theorem pt_col{R:List (List Int)}{k q:Nat}:pt (col R k) q=match R[q]? with | some r=>pt r k | none=>0:=by
 show ((R.map fun r=>pt r k).getD q 0)=_;rw [List.getD_eq_getElem?_getD,List.getElem?_map];cases R[q]? <;> rfl
theorem dot_cols{w:Nat}{R:List (List Int)}{q:Nat}:∀(a:List Int) (ps:List Nat),(∀p∈ps,p < w)→dot a (rowsOf (cols w R) ps) q=match R[q]? with | some r=>rdt a ps r | none=>0
 | [],ps,_=>by
  cases ps <;> (unfold rowsOf;simp only [List.map_nil,List.map_cons];cases R[q]? <;> rfl)
 | x :: a,[],_=>by unfold rowsOf;simp only [List.map_nil];cases R[q]? <;> rfl
 | x :: a,p :: ps,h=>by
  have ih:=dot_cols (R:=R) (q:=q) a ps fun p hp=>h p (List.mem_cons_of_mem _ hp)
  have lp:=h p List.mem_cons_self
  have e:(cols w R).getD p []=col R p:=by
   unfold cols;rw [List.getD_eq_getElem?_getD,List.getElem?_map,List.getElem?_range lp];rfl
  show x*pt ((cols w R).getD p []) q+dot a (rowsOf (cols w R) ps) q=_;rw [ih,e,pt_col];cases R[q]? with
  | none=>simp
  | some r=>rfl
def Rel(R:List (List Int))(a:List Int)(ps:List Nat):Prop:=∀r∈R,rdt a ps r=0
theorem free_cols{w:Nat}{R:List (List Int)}{ps:List Nat}(h:∀p∈ps,p < w):Free (rowsOf (cols w R) ps)↔∀a:List Int,a.length=ps.length→Rel R a ps→∀c∈a,c=0:=by
 have lr:(rowsOf (cols w R) ps).length=ps.length:=by unfold rowsOf;rw [List.length_map]
 constructor
 ·intro f a la ra;refine f a (by rw [lr,la]) fun q=>?_
  rw [dot_cols a ps h];cases e:R[q]? with
  | none=>rfl
  | some r=>exact ra r (List.mem_of_getElem? e)
 ·intro f a la ra;refine f a (by rw [← lr,la]) fun r hr=>?_
  obtain ⟨q,hq⟩:=List.getElem?_of_mem hr
  have:=ra q
  rw [dot_cols a ps h,hq] at this;exact this
theorem stair_solve(i:Nat):∀{P:List (List Int)} {ps:List Nat},Stair P ps→∃(a:List Int) (s:Int),a.length=ps.length∧s≠0∧∀b∈P,rdt a ps b+s*pt b i=0
 | _,_,.nil=>⟨[],1,rfl,by decide,by simp⟩
 | _,_,.cons (s:=b) (p:=p) (S:=P) (ps:=ps) h1 h2 r=>by
  obtain ⟨a,s,la,hs,e⟩:=stair_solve i r;refine ⟨(-(rdt a ps b+s*pt b i)) :: a.map fun x=>pt b p*x,pt b p*s,by simp [la],Int.mul_ne_zero h1 hs,fun t ht=>?_⟩;show -(rdt a ps b+s*pt b i)*pt t p+rdt (a.map fun x=>pt b p*x) ps t+pt b p*s*pt t i=0;rw [rdt_smul];rcases List.mem_cons.mp ht with rfl | ht
  ·have e1:pt t p*s*pt t i=pt t p*(s*pt t i):=Int.mul_assoc ..;rw [e1,Int.neg_mul,Int.mul_comm (rdt a ps t+s*pt t i),Int.mul_add];omega
  ·rw [h2 t ht];have e1:pt b p*rdt a ps t+pt b p*s*pt t i=pt b p*(rdt a ps t+s*pt t i):=by rw [Int.mul_add,Int.mul_assoc]
   have e2:=e t ht;rw [e2,Int.mul_zero] at e1;omega
theorem grd_free(R:List (List Int)):∀i,Free (rowsOf R (grd R i))
 | 0=>fun a la _ c hc=>by
  have:a=[]:=List.length_eq_zero_iff.mp la
  subst this;cases hc
 | i+1=>by
  by_cases g:Free (rowsOf R (grd R i)++[R.getD i []])
  ·rw [grd_yes rfl g];unfold rowsOf at g ⊢;rw [List.map_append];exact g
  ·rw [grd_no rfl g];exact grd_free R i
theorem grd_lt(R:List (List Int)):∀i,∀j∈grd R i,j < i
 | 0=>fun j hj=>by cases hj
 | i+1=>fun j hj=>by
  have ih:=grd_lt R i;by_cases g:Free (rowsOf R (grd R i)++[R.getD i []])
  ·rw [grd_yes rfl g] at hj;rcases List.mem_append.mp hj with m | m
   ·exact Nat.lt_succ_of_lt (ih j m)
   ·rw [List.mem_singleton.mp m];exact Nat.lt_succ_self i
  ·rw [grd_no rfl g] at hj;exact Nat.lt_succ_of_lt (ih j hj)
structure CI (R:List (List Int)) (w i:Nat) (st:Nat×List (List Int)):Prop where
 wide:Wide w st.2
 nought:∀r∈st.2,∀q < i,pt r q=0
 len:st.1=(grd (cols w R) i).length
 pick:∃P,Stair P (grd (cols w R) i)∧∀(a:List Int) (ps:List Nat),Rel R a ps↔Rel P a ps∧Rel st.2 a ps
theorem ci_step{R:List (List Int)}{w i:Nat}{st:Nat×List (List Int)}(I:CI R w i st)(hi:i < w):CI R w (i+1) (szStep st i):=by
 obtain ⟨P,sP,eP⟩:=I.pick;have gl:=grd_lt (cols w R) i;have gf:=grd_free (cols w R) i;have gw:∀p∈grd (cols w R) i,p < w:=fun p hp=>by have:=gl p hp;omega
 have gw1:∀p∈grd (cols w R) i++[i],p < w:=fun p hp=>by
  rcases List.mem_append.mp hp with m | m
  ·exact gw p m
  ·rw [List.mem_singleton.mp m];exact hi
 have er:rowsOf (cols w R) (grd (cols w R) i)++[(cols w R).getD i []]=rowsOf (cols w R) (grd (cols w R) i++[i]):=by unfold rowsOf;rw [List.map_append];rfl
 have yes:=fun h=>grd_yes (R:=cols w R) (i:=i) rfl h
 have no:=fun h=>grd_no (R:=cols w R) (i:=i) rfl h
 rw [er,free_cols gw1] at yes;rw [er,free_cols gw1] at no;rw [free_cols gw] at gf;have lI:=I.len;generalize grd (cols w R) i=ps at sP gl gf gw gw1 yes no lI;unfold szStep;split
 ·rename_i e
  have z:∀r∈st.2,pt r i=0:=fun r hr=>by
   by_cases y:pt r i=0
   ·exact y
   ·have:r∈st.2.filter (fun r=>pt r i≠0):=List.mem_filter.mpr ⟨hr,by simpa using y⟩
    rw [e] at this;cases this
  have nf : ¬ ∀a:List Int,a.length=(ps++[i]).length→Rel R a (ps++[i])→∀c∈a,c=0:=fun f=>by
   obtain ⟨a,s,la,hs,es⟩:=stair_solve i sP;refine hs (f (a++[s]) (by simp [la]) ((eP _ _).mpr ⟨fun b hb=>?_,fun r hr=>?_⟩) s (List.mem_append_right _ (List.mem_singleton.mpr rfl)))
   ·rw [rdt_app _ _ _ la]
    have:=es b hb
    show rdt a ps b+(s*pt b i+0)=0;omega
   ·rw [rdt_app _ _ _ la,rdt_zero fun p hp=>I.nought r hr p (gl p hp)];show 0+(s*pt r i+0)=0;rw [z r hr];omega
  have en:=no nf
  exact ⟨I.wide,fun r hr q hq=>by
   by_cases y:q=i
   ·rw [y];exact z r hr
   ·exact I.nought r hr q (by omega),by rw [en];exact lI,P,by rw [en];exact sP,eP⟩
 ·rename_i by_ rest e;have mb:by_∈st.2.filter (fun r=>pt r i≠0):=by rw [e];exact List.mem_cons_self
  obtain ⟨mb1,mb2⟩:=List.mem_filter.mp mb;have nb:pt by_ i≠0:=by simpa using mb2
  obtain ⟨A,B,h1,h2⟩:=rmv_split mb1;have hb:=I.wide by_ mb1
  have mem:∀s∈A++B,s∈st.2:=fun s hs=>by
   rw [h1];rcases List.mem_append.mp hs with z | z
   ·exact List.mem_append_left _ z
   ·exact List.mem_append_right _ (List.mem_cons_of_mem _ z)
  have f:∀a:List Int,a.length=(ps++[i]).length→Rel R a (ps++[i])→∀c∈a,c=0:=by
   intro a la ra;have la':a.length=ps.length+1:=by simpa using la
   obtain ⟨a1,x,rfl⟩:∃a1 x,a=a1++[x]:=⟨a.dropLast,a.getLast (by intro z;rw [z] at la';simp at la'),(List.dropLast_concat_getLast _).symm⟩
   have l1:a1.length=ps.length:=by simpa using la'
   have e0:=((eP _ _).mp ra).2 by_ mb1;rw [rdt_app _ _ _ l1,rdt_zero fun p hp=>I.nought by_ mb1 p (gl p hp)] at e0
   have e1:x*pt by_ i=0:=by
    have:0+(x*pt by_ i+0)=0:=e0
    omega
   have x0:x=0:=(Int.mul_eq_zero.mp e1).resolve_right nb
   have r1:Rel R a1 ps:=fun r hr=>by
    have:=ra r hr
    rw [rdt_app _ _ _ l1,x0] at this
    have:rdt a1 ps r+(0*pt r i+0)=0:=this
    omega
   intro c hc;rcases List.mem_append.mp hc with m | m
   ·exact gf a1 l1 r1 c m
   ·rw [List.mem_singleton.mp m];exact x0
  refine ⟨fun r hr=>?_,fun r hr q hq=>?_,?_,P++[by_],?_,fun a qs=>?_⟩
  ·obtain ⟨s,hs,rfl⟩:=List.mem_map.mp hr;rw [h2] at hs;rw [clr_len (by rw [I.wide s (mem s hs),hb]),hb]
  ·obtain ⟨s,hs,rfl⟩:=List.mem_map.mp hr;rw [h2] at hs;rw [pt_clr (by rw [I.wide s (mem s hs),hb])];by_cases y:q=i
   ·subst y;rw [Int.mul_comm];omega
   ·rw [I.nought s (mem s hs) q (by omega),I.nought by_ mb1 q (by omega)];simp
  ·rw [yes f,List.length_append];show st.1+1=_;rw [lI];rfl
  ·rw [yes f];exact sP.snoc (fun q hq=>I.nought by_ mb1 q (gl q hq)) nb
  ·rw [eP];constructor
   ·rintro ⟨r1,r2⟩;have rb:=r2 by_ mb1;refine ⟨fun b hb=>?_,fun r hr=>?_⟩
    ·rcases List.mem_append.mp hb with m | m
     ·exact r1 b m
     ·rw [List.mem_singleton.mp m];exact rb
    ·obtain ⟨s,hs,rfl⟩:=List.mem_map.mp hr;rw [h2] at hs;rw [rdt_clr (by rw [I.wide s (mem s hs),hb]),rb,r2 s (mem s hs)];simp
   ·rintro ⟨r1,r2⟩;have rb:=r1 by_ (List.mem_append_right _ (List.mem_singleton.mpr rfl));refine ⟨fun b hb=>r1 b (List.mem_append_left _ hb),fun r hr=>?_⟩;rw [h1] at hr
    have go:∀s∈A++B,rdt a qs s=0:=fun s hs=>by
     have:=r2 (clr by_ i s) (List.mem_map.mpr ⟨s,by rw [h2];exact hs,rfl⟩)
     rw [rdt_clr (by rw [I.wide s (mem s hs),hb]),rb,Int.mul_zero,Int.sub_zero] at this;exact (Int.mul_eq_zero.mp this).resolve_left nb
    rcases List.mem_append.mp hr with m | m
    ·exact go r (List.mem_append_left _ m)
    ·rcases List.mem_cons.mp m with rfl | m
     ·exact rb
     ·exact go r (List.mem_append_right _ m)
theorem ci_at{R:List (List Int)}{w:Nat}(hw:Wide w R):∀i,i≤w→CI R w i (szAt R i)
 | 0,_=>⟨hw,fun r _ q hq=>absurd hq (Nat.not_lt_zero _),rfl,[],.nil,fun a ps=>⟨fun h=>⟨fun r hr=>(by cases hr),h⟩,fun h=>h.2⟩⟩
 | i+1,h=>by rw [szAt_succ];exact ci_step (ci_at hw i (by omega)) (by omega)
theorem size_cols{R:List (List Int)}{w:Nat}(hw:Wide w R):size w R=(grd (cols w R) w).length:=(ci_at hw w (Nat.le_refl _)).len
end Cl
namespace Mk
open Rk Sz Sf Cl
theorem pt_tail(a:List Int)(j:Nat):pt a.tail j=pt a (j+1):=by
 cases a with
 | nil=>rfl
 | cons x a=>rfl
theorem dot_cons(a:List Int)(r:List Int)(R:List (List Int))(q:Nat):dot a (r :: R) q=pt a 0*pt r q+dot a.tail R q:=by
 cases a with
 | nil=>show (0:Int)=0*pt r q+dot [] R q;cases R <;> simp [dot]
 | cons x a=>rfl
theorem dot_lin{α β : Int}{q:Nat}:∀{R:List (List Int)} {a b c:List Int},(∀j,pt c j = α * pt a j + β * pt b j)→dot c R q = α * dot a R q + β * dot b R q
 | [],a,b,c,_=>by rw [dot_nil,dot_nil,dot_nil];simp
 | r :: R,a,b,c,h=>by
  have ih:=dot_lin (R:=R) (a:=a.tail) (b:=b.tail) (c:=c.tail) (q:=q) fun j=>by rw [pt_tail,pt_tail,pt_tail];exact h (j+1)
  rw [dot_cons,dot_cons,dot_cons,ih,h 0,Int.add_mul,Int.mul_add,Int.mul_add,Int.mul_assoc,Int.mul_assoc];omega
theorem pt_drop(s:List Int)(w j:Nat):pt (s.drop w) j=pt s (w+j):=by
 unfold pt;rw [List.getD_eq_getElem?_getD,List.getD_eq_getElem?_getD,List.getElem?_drop]
theorem dot_unit{q:Nat}:∀{R:List (List Int)} {a:List Int} {i:Nat} {r:List Int},R[i]? = some r→(∀j,pt a j=if j=i then 1 else 0)→dot a R q=pt r q
 | x :: R,a,0,r,e,h=>by
  have e':x=r:=Option.some.inj e;have z:dot a.tail R q=0*dot [] R q+0*dot [] R q:=dot_lin fun j=>by rw [pt_tail,h (j+1)];simp
  rw [dot_cons,z,h 0,e'];simp
 | x :: R,a,i+1,r,e,h=>by
  have ih:=dot_unit (R:=R) (a:=a.tail) (i:=i) (q:=q) (by simpa using e) fun j=>by rw [pt_tail,h (j+1)];simp
  rw [dot_cons,ih,h 0];simp
def Md(w:Nat)(R:List (List Int))(s:List Int):Prop:=∀q < w,pt s q=dot (s.drop w) R q
theorem md_own{w:Nat}{R:List (List Int)}{r:List Int}{i:Nat}(hr:R[i]? = some r)(lr:r.length=w):Md w R (r++ownR R.length i):=by
 intro q hq;have hi:i < R.length:=(List.getElem?_eq_some_iff.mp hr).1
 have e:pt (r++ownR R.length i) q=pt r q:=by
  unfold pt;rw [List.getD_eq_getElem?_getD,List.getElem?_append_left (by omega),List.getD_eq_getElem?_getD]
 rw [e];refine (dot_unit hr fun j=>?_).symm;rw [pt_drop,own_at lr];by_cases z:j=i
 ·rw [if_pos ⟨z ▸ hi,z⟩,if_pos z]
 ·rw [if_neg (fun y=>z y.2),if_neg z]
theorem md_stp{w:Nat}{R:List (List Int)}{y s:List Int}(my:Md w R y)(ms:Md w R s)(l:y.length=s.length):Md w R (stp y s):=by
 intro q hq;unfold stp;generalize (fp s).getD 0=p;obtain ⟨g,hg,eg⟩:=lowR_made (clr s p y)
 have e1:g*pt (lowR (clr s p y)) q=g*dot ((lowR (clr s p y)).drop w) R q:=by
  have a1:dot ((clr s p y).drop w) R q=g*dot ((lowR (clr s p y)).drop w) R q+0*dot [] R q:=dot_lin fun j=>by
   rw [pt_drop,pt_drop,eg (w+j)];simp
  have a2:dot ((clr s p y).drop w) R q=pt s p*dot (y.drop w) R q+(-pt y p)*dot (s.drop w) R q:=dot_lin fun j=>by
   rw [pt_drop,pt_drop,pt_drop,pt_clr l,Int.mul_comm (pt y (w+j)),Int.neg_mul];omega
  rw [eg q,pt_clr l,my q hq,ms q hq];rw [a1,Int.zero_mul,Int.add_zero] at a2;rw [a2,Int.mul_comm (dot (y.drop w) R q),Int.neg_mul];omega
 exact Int.eq_of_mul_eq_mul_left hg e1
theorem md_cleared{w L:Nat}{R:List (List Int)}:∀(S:List (List Int)) (y:List Int),(∀s∈S,s.length=L∧Md w R s)→y.length=L→Md w R y→Md w R (clearedR y S)
 | [],y,_,_,m=>m
 | s :: S,y,h,l,m=>by
  have hs:=h s List.mem_cons_self;refine md_cleared S (stp y s) (fun t ht=>h t (List.mem_cons_of_mem _ ht)) ?_ (md_stp m hs.2 (by rw [l,hs.1]));unfold stp;rw [lowR_len,clr_len (by rw [l,hs.1]),hs.1]
theorem gcd_scale{g:Int}:∀(r:List Int) (d:Int),(r.map fun x=>g*x).foldl Gd.gd (g*d)=(g.natAbs:Int)*r.foldl Gd.gd d∨(r=[]∧(r.map fun x=>g*x).foldl Gd.gd (g*d)=g*d)
 | [],d=>.inr ⟨rfl,rfl⟩
 | x :: r,d=>by
  refine .inl ?_
  have e:Gd.gd (g*d) (g*x)=(g.natAbs:Int)*Gd.gd d x:=by
   unfold Gd.gd;rw [Int.gcd_mul_left];simp
  show (r.map fun x=>g*x).foldl Gd.gd (Gd.gd (g*d) (g*x))=(g.natAbs:Int)*r.foldl Gd.gd (Gd.gd d x);rw [e]
  have abs:∀(r:List Int) (d:Int),(r.map fun x=>g*x).foldl Gd.gd ((g.natAbs:Int)*d)=(g.natAbs:Int)*r.foldl Gd.gd d:=by
   intro r
   induction r with
   | nil=>intro d;rfl
   | cons y r ih =>
    intro d
    have e:Gd.gd ((g.natAbs:Int)*d) (g*y)=(g.natAbs:Int)*Gd.gd d y:=by
     unfold Gd.gd
     have:Int.gcd ((g.natAbs:Int)*d) (g*y)=Int.gcd (g*d) (g*y):=by
      rw [Int.gcd_eq_natAbs_gcd_natAbs,Int.gcd_eq_natAbs_gcd_natAbs,Int.natAbs_mul,Int.natAbs_mul,Int.natAbs_mul];simp
     rw [this,Int.gcd_mul_left];simp
    show (r.map fun x=>g*x).foldl Gd.gd (Gd.gd ((g.natAbs:Int)*d) (g*y))=_;rw [e,ih];rfl
  exact abs r _
theorem gcdF_nonneg:∀(r:List Int) (d:Int),0≤d→0≤r.foldl Gd.gd d
 | [],d,h=>h
 | x :: r,d,_=>gcdF_nonneg r _ (Gd.gd_nonneg d x)
theorem lowR_low{r:List Int}{i:Nat}(h:fp r=some i):gcdL (lowR r)=1∧fp (lowR r)=some i∧0 < pt (lowR r) i:=by
 obtain ⟨f1,f2,f3⟩:=fp_some h;have d0:=dvs_ne f2;have dd:=dvs_dvd r i;have el:lowR r=r.map fun x=>x.fdiv (dvs r i):=by unfold lowR;rw [h]
 have back:r=(lowR r).map fun x=>dvs r i*x:=by
  rw [el,List.map_map]
  conv=>lhs;rw [← List.map_id r]
  refine List.map_congr_left fun x hx=>?_
  show x=dvs r i*x.fdiv (dvs r i);rw [Int.mul_fdiv_cancel' (dd x hx)]
 have ptl:∀q,dvs r i*pt (lowR r) q=pt r q:=by
  intro q;rw [el];unfold pt;rw [List.getD_eq_getElem?_getD,List.getElem?_map,List.getD_eq_getElem?_getD];cases e2:r[q]? with
  | none=>exact Int.mul_zero _
  | some c=>exact Int.mul_fdiv_cancel' (dd c (List.mem_of_getElem? e2))
 have g0:=gcdL_ne f2;have gn:0≤gcdL r:=gcdF_nonneg r 0 (Int.le_refl _);have gp:0 < gcdL r:=by omega
 have da:((dvs r i).natAbs:Int)=gcdL r:=by unfold dvs;split <;> omega
 refine ⟨?_,?_,?_⟩
 ·have:=gcd_scale (g:=dvs r i) (lowR r) 0
  rw [Int.mul_zero,← back] at this;rcases this with e | ⟨e,_⟩
  ·have e':gcdL r=gcdL r*gcdL (lowR r):=by rw [da] at e;exact e
   have:gcdL r*gcdL (lowR r)=gcdL r*1:=by omega
   exact Int.eq_of_mul_eq_mul_left g0 this
  ·rw [e] at back;rw [back] at f1;simp at f1
 ·have nz:pt (lowR r) i≠0:=fun z=>f2 (by rw [← ptl i,z,Int.mul_zero])
  have l:i < (lowR r).length:=by rw [lowR_len];exact f1
  unfold fp;rw [List.findIdx?_eq_some_iff_getElem];refine ⟨l,?_,fun j hj=>?_⟩
  ·unfold pt at nz;rw [List.getD_eq_getElem?_getD,List.getElem?_eq_getElem l] at nz;simpa using nz
  ·have z:pt (lowR r) j=0:=by
    have:=ptl j
    rw [f3 j hj] at this;exact (Int.mul_eq_zero.mp this).resolve_left d0
   unfold pt at z;rw [List.getD_eq_getElem?_getD,List.getElem?_eq_getElem (by omega)] at z;simpa using z
 ·have e:=ptl i;unfold dvs at e;split at e
  ·rename_i ng;by_cases z:0 < pt (lowR r) i
   ·exact z
   ·have:0≤gcdL r * -pt (lowR r) i:=Int.mul_nonneg gn (by omega)
    rw [Int.mul_neg] at this;rw [Int.neg_mul] at e;omega
  ·rename_i ng;by_cases z:0 < pt (lowR r) i
   ·exact z
   ·have:0≤gcdL r * -pt (lowR r) i:=Int.mul_nonneg gn (by omega)
    rw [Int.mul_neg] at this;omega
theorem free_snoc{M:List (List Int)}{m:List Int}{p:Nat}(h:Free M)(n:pt m p≠0)(z:∀t∈M,pt t p=0):Free (M++[m]):=by
 intro a la ha;obtain ⟨a1,a2,rfl,l1,l2⟩:=split_len la;obtain ⟨x,rfl⟩:∃x,a2=[x]:=List.length_eq_one_iff.mp l2
 have x0:x=0:=by
  have:=ha p
  rw [dot_app _ _ _ l1,dot_nought z] at this;have e:0+(x*pt m p+0)=0:=this;exact (Int.mul_eq_zero.mp (by omega:x*pt m p=0)).resolve_right n
 intro c hc;rcases List.mem_append.mp hc with q | q
 ·refine h a1 l1 (fun k=>?_) c q
  have:=ha k
  rw [dot_app _ _ _ l1,x0] at this;have e:dot a1 M k+(0*pt m k+0)=0:=this;omega
 ·rw [List.mem_singleton.mp q];exact x0
theorem stair_len:∀{S:List (List Int)} {ps:List Nat},Stair S ps→S.length=ps.length
 | _,_,.nil=>rfl
 | _,_,.cons _ _ r=>congrArg (· + 1) (stair_len r)
theorem stair_ne{p:Nat}:∀{S:List (List Int)} {ps:List Nat},Stair S ps→(∀t∈S,pt t p=0)→p∉ps
 | _,_,.nil,_=>by simp
 | _,_,.cons (s:=s) (p:=q) h1 _ r,z=>fun m=>by
  rcases List.mem_cons.mp m with e | m
  ·exact h1 (by rw [← e];exact z s List.mem_cons_self)
  ·exact stair_ne r (fun t ht=>z t (List.mem_cons_of_mem _ ht)) m
theorem stair_nd:∀{S:List (List Int)} {ps:List Nat},Stair S ps→ps.Nodup
 | _,_,.nil=>List.nodup_nil
 | _,_,.cons _ h2 r=>List.nodup_cons.mpr ⟨stair_ne r h2,stair_nd r⟩
theorem stair_le{S:List (List Int)}{ps:List Nat}{w:Nat}(h:Stair S ps)(l:∀p∈ps,p < w):S.length≤w:=by
 have:=Ti.nodup_len (hs:=List.range w) (stair_nd h) fun p hp=>List.mem_range.mpr (l p hp)
 rw [List.length_range] at this;rw [stair_len h];exact this
structure Good (R:List (List Int)) (w b:Nat) (m:List Int):Prop where
 len:m.length=R.length
 nought:∀q,dot m R q=0
 low:gcdL m=1
 first:∃k,fp m=some k∧0 < pt m k
 bnd:∀c∈m,c.natAbs < 2 ^ bits b (min w R.length)
structure MI (R:List (List Int)) (w b i:Nat) (st:St5):Prop where
 cnt:st.makers.length+st.free.length=i
 md:∀s∈st.stairs,Md w R s
 good:∀m∈st.makers,Good R w b m
 last:∀m∈st.makers,∀j,i≤j→pt m j=0
 free:Free st.makers
theorem dot_wide{w q:Nat}{a:List Int}{R:List (List Int)}(hw:Wide w R)(hq:w≤q):dot a R q=0:=dot_nought fun s hs=>by
 unfold pt;rw [List.getD_eq_getElem?_getD,List.getElem?_eq_none (by rw [hw s hs];exact hq)];rfl
theorem mi_step{R:List (List Int)}{w b i:Nat}{st:St5}{r:List Int}(hw:Wide w R)(I:SI R w b i st)(J:MI R w b i st)(hb:1≤b)(hr:R[i]? = some r)(br:∀c∈r,c.natAbs < 2 ^ b):MI R w b (i+1) (sStep R.length st i r):=by
 have lr:=hw r (List.mem_of_getElem? hr);have hi:i < R.length:=(List.getElem?_eq_some_iff.mp hr).1;obtain ⟨Y,ps,s1,s2,s3,s4,C⟩:=ri_of I hb hi lr br;have lx:(r++ownR R.length i).length=w+R.length:=by unfold ownR;rw [List.length_append,List.length_map,List.length_range,lr]
 have M:Md w R (restR R.length st i r):=md_cleared st.stairs _ (fun s hs=>⟨I.len s hs,J.md s hs⟩) lx (md_own hr lr);have ws:=stair_le s1 s2;obtain ⟨d,c,G,ld,hc,hG,e⟩:=C.made
 have at_i:pt (restR R.length st i r) (w+i)≠0:=by
  intro z;have e1:=e (w+i);rw [z,own_at lr,dot_nought fun s hs=>I.own s hs i (Nat.le_refl _),if_pos ⟨hi,rfl⟩] at e1;omega
 unfold sStep;generalize restR R.length st i r=z at Y C M at_i;obtain ⟨q,f1,f2⟩:=Y.ne;rw [f1];show MI R w b (i+1) (if q < r.length then _ else _);split
 ·refine ⟨?_,fun s hs=>?_,J.good,fun m hm j hj=>J.last m hm j (by omega),J.free⟩
  ·show st.makers.length+(st.free++[i]).length=i+1;rw [List.length_append]
   have:=J.cnt
   show st.makers.length+(st.free.length+1)=i+1;omega
  ·rcases List.mem_append.mp hs with m | m
   ·exact J.md s m
   ·rw [List.mem_singleton.mp m];exact M
 ·rename_i lq;rw [lr] at lq;have z0:∀k,k < w→pt z k=0:=fun k hk=>(fp_some f1).2.2 k (by omega)
  rw [lr];have dn:pt (z.drop w) i≠0:=by rw [pt_drop];exact at_i
  obtain ⟨k,fk⟩:∃k,fp (z.drop w)=some k:=by
   cases f:fp (z.drop w) with
   | none=>exact absurd (fp_none f i) dn
   | some k=>exact ⟨k,rfl⟩
  obtain ⟨l1,l2,l3⟩:=lowR_low fk;obtain ⟨g,hg,eg⟩:=lowR_made (z.drop w)
  have zero:∀j,pt (z.drop w) j=0→pt (lowR (z.drop w)) j=0:=fun j h=>by
   have:=eg j
   rw [h] at this;exact (Int.mul_eq_zero.mp this).resolve_left hg
  have G1:Good R w b (lowR (z.drop w)):=by
   refine ⟨?_,fun q=>?_,l1,⟨k,l2,l3⟩,?_⟩
   ·rw [lowR_len,List.length_drop,Y.len];omega
   ·by_cases hq:q < w
    ·have a1:dot (z.drop w) R q=g*dot (lowR (z.drop w)) R q+0*dot [] R q:=dot_lin fun j=>by rw [eg j];simp
     rw [← M q hq,z0 q hq,Int.zero_mul,Int.add_zero] at a1;exact (Int.mul_eq_zero.mp a1.symm).resolve_left hg
    ·exact dot_wide hw (by omega)
   ·refine lowR_bnd fun c hc=>?_
    exact Nat.lt_of_lt_of_le (Y.bnd c (List.mem_of_mem_drop hc)) (Nat.pow_le_pow_right (by decide) (bits_mono (by have:=I.cnt;omega)))
  refine ⟨?_,J.md,fun m hm=>?_,fun m hm j hj=>?_,?_⟩
  ·show (st.makers++[_]).length+st.free.length=i+1;rw [List.length_append]
   have:=J.cnt
   show st.makers.length+1+st.free.length=i+1;omega
  ·rcases List.mem_append.mp hm with y | y
   ·exact J.good m y
   ·rw [List.mem_singleton.mp y];exact G1
  ·rcases List.mem_append.mp hm with y | y
   ·exact J.last m y j (by omega)
   ·rw [List.mem_singleton.mp y];exact zero j (by rw [pt_drop];exact Y.own j hj)
  ·refine free_snoc (p:=i) J.free (fun y=>dn ?_) fun t ht=>J.last t ht i (Nat.le_refl _)
   rw [← eg i,y,Int.mul_zero]
theorem mi_at{R:List (List Int)}{w b:Nat}(hw:Wide w R)(hb:1≤b)(br:Bnd b R):∀i,i≤R.length→MI R w b i (sAt R i)
 | 0,_=>⟨rfl,(fun s hs=>by cases hs),(fun s hs=>by cases hs),(fun s hs=>by cases hs),fun a la _ c hc=>by
   have:a=[]:=List.length_eq_zero_iff.mp la
   subst this
   cases hc⟩
 | i+1,h=>by
  have hr:R[i]? = some (R.getD i []):=by rw [List.getD_eq_getElem?_getD,List.getElem?_eq_getElem (by omega)];rfl
  exact mi_step hw (si_at hw hb br i (by omega)) (mi_at hw hb br i (by omega)) hb hr (br _ (List.mem_of_getElem? hr))
theorem cols_cols{R:List (List Int)}{w:Nat}(hw:Wide w R):cols R.length (cols w R)=R:=by
 refine List.ext_getElem? fun i=>?_
 unfold cols;rw [List.getElem?_map];by_cases h:i < R.length
 ·rw [List.getElem?_range h,List.getElem?_eq_getElem h];show some (col (cols w R) i)=some R[i];congr 1;have lr:=hw R[i] (List.getElem_mem h);refine List.ext_getElem? fun k=>?_
  unfold col cols;rw [List.map_map,List.getElem?_map];by_cases hk:k < w
  ·rw [List.getElem?_range hk,List.getElem?_eq_getElem (by omega)];show some (pt (col R k) i)=some R[i][k];rw [pt_col,List.getElem?_eq_getElem h];show some (pt R[i] k)=_;unfold pt;rw [List.getD_eq_getElem?_getD,List.getElem?_eq_getElem (by omega)];rfl
  ·rw [List.getElem?_eq_none (by simp;omega),List.getElem?_eq_none (by omega)];rfl
 ·rw [List.getElem?_eq_none (by simp;omega),List.getElem?_eq_none (by omega)];rfl
theorem cols_wide(w:Nat)(B:List (List Int)):Wide B.length (cols w B):=fun r hr=>by
 unfold cols at hr;obtain ⟨k,_,rfl⟩:=List.mem_map.mp hr;unfold col;rw [List.length_map]
theorem cols_len(w:Nat)(B:List (List Int)):(cols w B).length=w:=by unfold cols;rw [List.length_map,List.length_range]
theorem cols_bnd{w b:Nat}{B:List (List Int)}(h:Bnd b B):Bnd b (cols w B):=fun r hr c hc=>by
 unfold cols at hr;obtain ⟨k,_,rfl⟩:=List.mem_map.mp hr;unfold col at hc;obtain ⟨s,hs,rfl⟩:=List.mem_map.mp hc;exact pt_bnd (h s hs) k
end Mk
namespace Rw
open PySem L2 Fr G1 Sm Vs G2 Rk Sz Sf Cl
open PySem.W (Dat kqdOk)
structure GRow (n b:Nat) (m:List Int):Prop where
 len:m.length=n
 low:gcdL m=1
 first:∃k,fp m=some k∧0 < pt m k
 bnd:∀c∈m,c.natAbs < 2 ^ b
def spGood(K:Fg):Sp:=fun vs H Q _=>∃(a:Addr) (n b:Nat) (m:List Int),vs=[.ref a,.int (n:Int)]∧H a=some (.lst (m.map V.int))∧GRow n b m∧n≤100∧b≤190∧∀H',Same H H'→Q (.bl true) H'
theorem len_good{K:Fg}{vs:List V}{H:Hp}{Q:VK}{E:XK}{x y:Str}(h:spGood K vs H Q E):vs.length=[x,y].length:=by
 obtain ⟨a,b,c,d,rfl,_⟩:=h;rfl
theorem filt_first:∀{m:List Int} {k:Nat},fp m=some k→∃rest,m.filter (fun x=>decide (x≠0))=pt m k :: rest
 | [],k,h=>by cases h
 | x :: m,k,h=>by
  obtain ⟨f1,f2,f3⟩:=fp_some h;by_cases z:x=0
  ·cases k with
   | zero=>exact absurd z f2
   | succ k =>
    have h':fp m=some k:=by
     unfold fp at h ⊢;rw [List.findIdx?_cons] at h;simp [z] at h;simpa using h
    obtain ⟨rest,e⟩:=filt_first h';exact ⟨rest,by rw [List.filter_cons];simp only [z,ne_eq,not_true_eq_false,decide_false,Bool.false_eq_true,if_false];exact e⟩
  ·have k0:k=0:=by
    cases k with
    | zero=>rfl
    | succ k=>exact absurd (f3 0 (by omega)) z
   subst k0;exact ⟨m.filter (fun x=>decide (x≠0)),by rw [List.filter_cons];simp [z];rfl⟩
def t_good (K:Fg):TS:=(tSeq (tIfS (tOr (tNot (tB (tCB (rIsi K) (tCons (tVar 0) (tCons (tC (.ty "list")) tNil))))) (tOr (tTest (tOp rNe (tCB (rLenQ K) (tCons (tVar 0) tNil)) (tVar 1))) (tNot (tB (tCB (rAll K) (tCons (tComp (iList K (tVar 0)) (tCall spWhole [] E0 (tCons (tVar 0) tNil))) tNil))))))
 (tRet (tC (.bl false)))
 tNext)
 (tSeq (tAsg (tC (.int 0)) (gName 2))
 (tSeq (tFor (iList K (tVar 0)) (gName 3)
 (tAsg (tCall spDiv [] E0 (tCons (tVar 2) (tCons (tVar 3) tNil))) (gName 2)))
 (tSeq (tAsg (tCompF (iList K (tVar 0)) 1 (gName 0) (tTest (tOp rNe (tVar 0) (tC (.int 0)))) (tVar 0)) (gName 4))
 (tRet (tAndV (tOp rEq (tVar 2) (tC (.int 1))) (tAndV (tOp rGt (tOp (rIxL K) (tVar 4) (tC (.int 0))) (tC (.int 0))) (tOp rLt (tCB (rMaxL K) (tCons (tComp (iList K (tVar 0)) (tCB rAbs (tCons (tVar 0) tNil))) tNil)) (tOp rPow (tC (.int 10)) (tC (.int 60)))))))))))
theorem allrep(n:Nat):(List.replicate n true).all id=true:=by
 rw [List.all_eq_true];intro x hx;rw [(List.mem_replicate.mp hx).2];rfl
theorem rd_good{K:Fg}{vs:List V}{H:Hp}{Q:VK}{E:XK}{N:List Str}(hN:N.length=5)(h:spGood K vs H Q E):t_good K (ends Q) (L2.start N vs) H:=by
 obtain ⟨a,n,b,m,rfl,ha,g,n1,hb,k⟩:=h;rw [show L2.start N [.ref a,.int (n:Int)]=[some (.ref a),some (.int (n:Int)),none,none,none] by unfold L2.start;rw [hN];rfl];obtain ⟨f,f1,f2⟩:=g.first;have lm:=g.len;unfold t_good;walk_at "rd";refine k_isi (.lst ha) kit_list_list ?_;walk_at "rd";refine k_lenL (SqL.of ha) ?_;rw [List.length_map,lm];walk_at "rd";refine k_iteN (fun z=>absurd rfl z) (fun _=>?_);walk_at "rd";refine k_rlC (SqL.of ha) ?_;refine comp_list (xs:=m.map V.int) fun D nD=>⟨fun j H2=>AccZ K H D H2 ((List.replicate j true).map Dat.bool),by simpa using AccZ.start (Same.refl _) nD,fun j H2 _ A=>SqL.of (A.same _ _ ha),?_,?_⟩
 ·intro j x H2 hx A;have lj:=(List.getElem?_eq_some_iff.mp hx).1;rw [List.getElem?_map] at hx;obtain ⟨c,hc,rfl⟩:=Option.map_eq_some_iff.mp hx;walk_at "rd";refine ⟨c,rfl,?_⟩;exact comp_bls (H0:=H) (by rw [List.length_map];omega) lj (fun _ _=>Iff.rfl) A (Same.refl _)
 intro H2 A;walk_at "rd";refine k_all (AccZ.bls A) ?_;rw [allrep];walk_at "rd";refine k_rlF (SqL.of (A.same _ _ ha)) ?_;refine fat_list (xs:=m.map V.int) (fun j σ H3=>∃u3:Option V,σ = [some (.ref a),some (.int (n:Int)),some (.int ((m.take j).foldl Gd.gd 0)),u3,none]∧Same H H3) ⟨_,rfl,A.same⟩ (fun j σ H3 _ ⟨_,_,S⟩=>SqL.of (S _ _ ha)) ?_ ?_
 ·rintro j z σ H3 hz ⟨u3,rfl,S⟩;rw [List.getElem?_map] at hz;obtain ⟨c,hc,rfl⟩:=Option.map_eq_some_iff.mp hz;walk_at "rd";refine ⟨_,_,rfl,?_⟩;walk_at "rd";refine ⟨_,by rw [gcdF_take hc];rfl,S⟩
 rintro σ H3 ⟨u3,rfl,S⟩;rw [List.take_of_length_le (by rw [List.length_map];exact Nat.le_refl _),show m.foldl Gd.gd 0=1 from g.low];walk_at "rd";refine ⟨a,rfl,⟨_,SqL.of (S _ _ ha)⟩,?_⟩;refine compF_list (xs:=m.map V.int) fun D nD=>⟨fun j H4=>AccZ K H D H4 (((m.take j).filter (fun x=>decide (x≠0))).map Dat.int),by simpa using AccZ.start S nD,fun j H4 _ A=>SqL.of (A.same _ _ ha),?_,?_⟩
 ·intro j x H4 hx A us hu;obtain ⟨u0,rfl⟩:∃u,us=[u]:=List.length_eq_one_iff.mp hu;have lj:=(List.getElem?_eq_some_iff.mp hx).1;rw [List.getElem?_map] at hx;obtain ⟨c,hc,rfl⟩:=Option.map_eq_some_iff.mp hx;walk_at "rd";refine ⟨⟨[some (.int c)],rfl,rfl⟩,?_⟩;walk_at "rd"
  have e:(m.take (j+1)).filter (fun x=>decide (x≠0))=(m.take j).filter (fun x=>decide (x≠0))++[c].filter (fun x=>decide (x≠0)):=by
   rw [List.take_add_one,hc,List.filter_append];rfl
  refine k_iteN (fun nz=>?_) (fun z=>?_)
  ·walk_at "rd";refine pushed lj ?_;refine A.pushK (.int c) (small1000 ?_) fun H5 A5=>?_
   ·have:=List.length_filter_le (fun x=>decide (x≠0)) (m.take j)
    rw [List.length_take] at this;rw [List.length_map];omega
   ·show AccZ K H D H5 (((m.take (j+1)).filter (fun x=>decide (x≠0))).map Dat.int);rw [e,List.map_append];have : [c].filter (fun x=>decide (x≠0))=[c]:=by simp [nz]
    rw [this];exact A5
  ·refine skipped lj ?_;show AccZ K H D H4 (((m.take (j+1)).filter (fun x=>decide (x≠0))).map Dat.int);have : [c].filter (fun x=>decide (x≠0))=[]:=by simp [z]
   rw [e,this,List.append_nil];exact A
 intro H4 A4;rw [List.take_of_length_le (by rw [List.length_map];exact Nat.le_refl _)] at A4;obtain ⟨rest,er⟩:=filt_first f1;rw [er] at A4;have h4:=AccZ.ints A4;walk_at "rd";refine k_ite (fun _=>?_) (fun z=>absurd rfl z);walk_at "rd";refine k_ixL (SqL.of h4) (v:=.int (pt m f)) (atI_nat (j:=0) rfl) ?_;walk_at "rd";refine k_ite (fun _=>?_) (fun z=>absurd f2 z);walk_at "rd";refine k_rlC (SqL.of (A4.same _ _ ha)) ?_;refine comp_list (xs:=m.map V.int) fun D2 nD2=>⟨fun j H5=>AccZ K H D2 H5 (((m.take j).map fun c=>(if c < 0 then -c else c)).map Dat.int),by simpa using AccZ.start A4.same nD2,fun j H5 _ B=>SqL.of (B.same _ _ ha),?_,?_⟩
 ·intro j x H5 hx B;have lj:=(List.getElem?_eq_some_iff.mp hx).1;rw [List.getElem?_map] at hx;obtain ⟨c,hc,rfl⟩:=Option.map_eq_some_iff.mp hx;walk_at "rd";refine pushed lj ?_;refine B.pushK (.int _) (small1000 (by rw [List.length_map,List.length_map,List.length_take];omega)) fun H6 B6=>?_
  show AccZ K H D2 H6 (((m.take (j+1)).map fun c=>(if c < 0 then -c else c)).map Dat.int);rw [List.take_add_one,hc,List.map_append,List.map_append];exact B6
 intro H5 B;rw [List.take_of_length_le (by rw [List.length_map];exact Nat.le_refl _)] at B
 have ne:m≠[]:=by
  rintro rfl;cases f1
 walk_at "rd";refine ⟨D2,_,rfl,SqL.of (AccZ.ints B),by simpa using ne,fun t ht _=>?_⟩;obtain ⟨c,hc,rfl⟩:=List.mem_map.mp ht;have bc:=g.bnd c hc;have le:(2:Nat) ^ b≤2 ^ 190:=Nat.pow_le_pow_right (by decide) hb;walk_at "rd"
 have lt:(if c < 0 then -c else c) < (10:Int) ^ (60:Int).toNat:=by
  have z:(2:Nat) ^ 190 < 10 ^ 60:=by decide
  have z2:c.natAbs < 10 ^ 60:=Nat.lt_of_lt_of_le bc (Nat.le_trans le (Nat.le_of_lt z));have z3:((10:Int) ^ (60:Int).toNat)=((10 ^ 60:Nat):Int):=by decide
  rw [z3];split <;> omega
 rw [decide_eq_true lt];exact k H5 B.same
def wrt(m r:List Int):Int:=(List.zipWith (· * ·) m r).sum
def spNought(K:Fg):Sp:=fun vs H Q _=>∃(a c:Addr) (m r:List Int),vs=[.ref a,.ref c]∧H a=some (.lst (m.map V.int))∧H c=some (.lst (r.map V.int))∧m.length≤100∧(∀x∈r,x.natAbs < 2 ^ 60)∧wrt m r=0∧∀H',Same H H'→Q (.bl true) H'
theorem len_nought{K:Fg}{vs:List V}{H:Hp}{Q:VK}{E:XK}{x y:Str}(h:spNought K vs H Q E):vs.length=[x,y].length:=by
 obtain ⟨a,b,c,d,rfl,_⟩:=h;rfl
def t_nought(K:Fg):TS:=(tRet (tOp rEq (tCB (rSumL K) (tCons (tCompG (iZip K .L .L (tCons (tVar 0) (tCons (tVar 1) tNil))) 2 (gTup K 2 (gCons (gName 0) (gCons (gName 1) gNil))) (tOp (rI CMul fun i j=>.int (i*j)) (tVar 0) (tVar 1))) tNil)) (tC (.int 0))))
theorem rd_nought{K:Fg}{vs:List V}{H:Hp}{Q:VK}{E:XK}{N:List Str}(hN:N.length=2)(h:spNought K vs H Q E):t_nought K (ends Q) (L2.start N vs) H:=by
 obtain ⟨a,c,m,r,rfl,ha,hc,hl,hb,hw,k⟩:=h;rw [show L2.start N [.ref a,.ref c]=[some (.ref a),some (.ref c)] by unfold L2.start;rw [hN];rfl];unfold t_nought;walk_at "rd";refine ⟨a,c,_,_,rfl,SqL.of ha,SqL.of hc,?_⟩;have ml:min (m.map V.int).length (r.map V.int).length=(List.zipWith (· * ·) m r).length:=by rw [List.length_zipWith,List.length_map,List.length_map]
 refine comp_zip (xs:=m.map V.int) (ys:=r.map V.int) fun D nD=>⟨fun i H2=>AccZ K H D H2 (((List.zipWith (· * ·) m r).take i).map Dat.int),AccZ.start (Same.refl _) nD,fun i H2 _ A=>⟨SqL.of (A.same _ _ ha),SqL.of (A.same _ _ hc)⟩,?_,?_⟩
 ·intro i y1 y2 H2 T e1 e2 A nT us hu
  obtain ⟨u0,u1,rfl⟩:∃u0 u1,us=[u0,u1]:=by
   match us,hu with
   | [u0,u1],_=>exact ⟨u0,u1,rfl⟩
  rw [List.getElem?_map] at e1 e2;obtain ⟨m1,f1,rfl⟩:=Option.map_eq_some_iff.mp e1;obtain ⟨m2,f2,rfl⟩:=Option.map_eq_some_iff.mp e2;have ec:(List.zipWith (· * ·) m r)[i]? = some (m1*m2):=by rw [List.getElem?_zipWith,f1,f2]
  have li:i < (List.zipWith (· * ·) m r).length:=(List.getElem?_eq_some_iff.mp ec).1;have lm:=(List.getElem?_eq_some_iff.mp f1).1;have b2:=hb m2 (List.mem_of_getElem? f2);refine k_gTup (SqT.of upd_same) rfl ?_;walk_at "rd";refine ⟨⟨[some (.int m1),some (.int m2)],rfl,rfl⟩,?_⟩;walk_at "rd";refine pushed (by rw [ml];exact li) ?_;refine (A.on (same_new nT _)).pushK (.int (m1*m2)) (small1000 (by rw [List.length_map,List.length_take];omega)) fun H4 A4=>?_
  show AccZ K H D H4 (((List.zipWith (· * ·) m r).take (i+1)).map Dat.int);rw [List.take_add_one,ec,List.map_append];exact A4
 ·intro H2 A;rw [ml,List.take_of_length_le (Nat.le_refl _)] at A;walk_at "rd";refine ⟨D,_,rfl,SqL.of (AccZ.ints A),?_⟩;rw [show (List.zipWith (· * ·) m r).sum=0 from hw];walk_at "rd";exact k H2 A.same
def spBasis(K:Fg):Sp:=fun vs H Q _=>∃(v u:V) (M R:List (List Int)) (n w b:Nat),vs=[v,u,.int (n:Int)]∧Rp K (fun _=>True) H v (.list (M.map dL))∧Rp K (fun _=>True) H u (.list (R.map dL))∧Wide n R∧R.length≤100∧n≤100∧Bnd 2 R∧3*2 ^ n≤40000 ∧
 M.length+size n R=n∧(∀m∈M,GRow n b m∧∀r∈R,wrt m r=0)∧b≤190∧(b+1)*2 ^ n≤40000∧Free M∧∀H',Same H H'→Q (.bl true) H'
theorem len_basis{K:Fg}{vs:List V}{H:Hp}{Q:VK}{E:XK}{x y z:Str}(h:spBasis K vs H Q E):vs.length=[x,y,z].length:=by
 obtain ⟨a,b,c,d,e,f,g,rfl,_⟩:=h;rfl
def t_basis (K:Fg):TS:=(tSeq (tIfS (tOr (tNot (tB (tCB (rIsi K) (tCons (tVar 0) (tCons (tC (.ty "list")) tNil))))) (tTest (tOp rNe (tCB (rLenQ K) (tCons (tVar 0) tNil)) (tOp qSub (tVar 2) (tCall (spSize K) [] E0 (tCons (tVar 1) tNil))))))
 (tRet (tC (.bl false)))
 tNext)
 (tSeq (tFor (iList K (tVar 0)) (gName 3)
 (tSeq (tIfS (tNot (tB (tCall (spGood K) [] E0 (tCons (tVar 3) (tCons (tVar 2) tNil)))))
 (tRet (tC (.bl false)))
 tNext)
 (tFor (iList K (tVar 1)) (gName 4)
 (tIfS (tNot (tB (tCall (spNought K) [] E0 (tCons (tVar 3) (tCons (tVar 4) tNil)))))
 (tRet (tC (.bl false)))
 tNext))))
 (tRet (tOp rEq (tCall (spSize K) [] E0 (tCons (tVar 0) tNil)) (tCB (rLenQ K) (tCons (tVar 0) tNil))))))
theorem rd_basis{K:Fg}{vs:List V}{H:Hp}{Q:VK}{E:XK}{N:List Str}(hN:N.length=5)(h:spBasis K vs H Q E):t_basis K (ends Q) (L2.start N vs) H:=by
 obtain ⟨v,u,M,R,n,w,b,rfl,rv,ru,hw,hl,hn,hb,hbn,cnt,good,b1,b2,fr,k⟩:=h;rw [show L2.start N [v,u,.int (n:Int)]=[some v,some u,some (.int (n:Int)),none,none] by unfold L2.start;rw [hN];rfl];have wM:Wide n M:=fun m hm=>(good m hm).1.len
 have bM:Bnd b M:=fun m hm=>(good m hm).1.bnd
 have lM:M.length≤n:=by omega
 have rv0:=rv;have ru0:=ru;obtain ⟨a,xs,rfl,_,ha,rx⟩:=Rp.lst_at rv;obtain ⟨c,ys,rfl,_,hc,ry⟩:=Rp.lst_at ru;have lx:xs.length=M.length:=by rw [rx.length,List.length_map]
 have ly:ys.length=R.length:=by rw [ry.length,List.length_map]
 unfold t_basis;walk_at "rd";refine k_isi (.lst ha) kit_list_list ?_;walk_at "rd";refine k_lenL (SqL.of ha) ?_;rw [lx];walk_at "rd";refine ⟨.ref c,R,n,2,rfl,ru0,hw,hl,hn,hb,hbn,fun H1 S1=>?_⟩;walk_at "rd";refine k_iteN (fun z=>absurd (by omega) z) (fun _=>?_);walk_at "rd";refine k_rlF (SqL.of (S1 _ _ ha)) ?_;refine fat_list (xs:=xs) (fun i σ H2=>∃u3 u4:Option V,σ = [some (.ref a),some (.ref c),some (.int (n:Int)),u3,u4]∧Same H H2) ⟨none,none,rfl,S1⟩ (fun i σ H2 _ ⟨_,_,_,S⟩=>SqL.of (S _ _ ha)) ?_ ?_
 ·rintro i x σ H2 hx ⟨u3,u4,rfl,S⟩;obtain ⟨d,g1,g2⟩:=rx.get hx;rw [List.getElem?_map] at g1;obtain ⟨m,hm,rfl⟩:=Option.map_eq_some_iff.mp g1;obtain ⟨b0,rfl,_,hb0⟩:=dL_at g2;obtain ⟨gm,wm⟩:=good m (List.mem_of_getElem? hm);walk_at "rd";refine ⟨b0,n,b,m,rfl,S _ _ hb0,gm,hn,b1,fun H3 S3=>?_⟩;walk_at "rd";have S4:=S.trans S3;refine k_rlF (SqL.of (S4 _ _ hc)) ?_;refine fat_list (xs:=ys) (fun j σ H5=>∃u4:Option V,σ = [some (.ref a),some (.ref c),some (.int (n:Int)),some (.ref b0),u4]∧Same H H5) ⟨_,rfl,S4⟩ (fun j σ H5 _ ⟨_,_,S⟩=>SqL.of (S _ _ hc)) ?_ ?_
  ·rintro j y σ H5 hy ⟨u4,rfl,S5⟩;obtain ⟨d,g1,g2⟩:=ry.get hy;rw [List.getElem?_map] at g1;obtain ⟨r,hr,rfl⟩:=Option.map_eq_some_iff.mp g1;obtain ⟨c0,rfl,_,hc0⟩:=dL_at g2;have mr:=List.mem_of_getElem? hr;walk_at "rd";refine ⟨b0,c0,m,r,rfl,S5 _ _ hb0,S5 _ _ hc0,by rw [gm.len];exact hn,fun x hx=>Nat.lt_of_lt_of_le (hb r mr x hx) (by decide),wm r mr,fun H6 S6=>?_⟩;walk_at "rd";exact ⟨_,rfl,S5.trans S6⟩
  ·rintro σ H5 ⟨u4,rfl,S5⟩;exact ⟨_,_,rfl,S5⟩
 ·rintro σ H2 ⟨u3,u4,rfl,S⟩;walk_at "rd";refine ⟨.ref a,M,n,b,rfl,rv0.same S,wM,by omega,hn,bM,b2,fun H3 S3=>?_⟩;walk_at "rd";refine k_lenL (SqL.of (S3 _ _ (S _ _ ha))) ?_;rw [lx,(size_free wM).1.mpr fr];walk_at "rd";rw [decide_eq_true rfl];exact k H3 (S.trans S3)
end Rw
namespace L2
open PySem
section
variable{K:Fg}{te:TE}{σ : St}{Q:VK}{H:Hp}
end
end L2
namespace Rw
open PySem L2 Fr G1 Sm Vs G2 Rk Sz Sf Cl
open PySem.W (Dat kqdOk)
def dM(M:List (List Int)):Dat:=.list (M.map dL)
def spMakers(K:Fg):Sp:=fun vs H Q _=>∃(a:Addr) (R:List (List Int)) (w b:Nat),vs=[.ref a]∧RowsAt H a R∧Wide w R∧R.length≤20∧w≤20∧Bnd b R∧1≤b∧bits b R.length≤9000 ∧
 ∀(p:Addr) (H':Hp),Same H H'→Rp K (fun a=>H a=none) H' (.ref p) (dM (sft R).makers)→Q (.ref p) H'
theorem len_makers{K:Fg}{vs:List V}{H:Hp}{Q:VK}{E:XK}{x:Str}(h:spMakers K vs H Q E):vs.length=[x].length:=by
 obtain ⟨a,b,c,d,rfl,_⟩:=h;rfl
def t_makers(K:Fg):TS:=(tRet (tOp (rIxT K) (tCall (spSift K) [] E0 (tCons (tVar 0) tNil)) (tC (.int 1))))
theorem rd_makers{K:Fg}{vs:List V}{H:Hp}{Q:VK}{E:XK}{N:List Str}(hN:N.length=1)(h:spMakers K vs H Q E):t_makers K (ends Q) (L2.start N vs) H:=by
 obtain ⟨a,R,w,b,rfl,hr,hw,hl,hw1,hb,hb1,hbits,k⟩:=h;rw [show L2.start N [.ref a]=[some (.ref a)] by unfold L2.start;rw [hN];rfl];unfold t_makers;walk_at "rd";refine ⟨a,R,w,b,rfl,hr,hw,hl,hw1,hb,hb1,hbits,fun p H1 S1 rp=>?_⟩;obtain ⟨q,xs,e,hq,rx⟩:=rp.tup_at;cases e;cases rx with
 | cons h1 r1 =>
  cases r1 with
  | cons h2 r2 =>
   cases r2;obtain ⟨c,ys,rfl,nc,hc,ry⟩:=Rp.lst_at h2;walk_at "rd";refine k_ixT (SqT.of hq) (v:=.ref c) (atI_nat (j:=1) rfl) ?_;exact k c H1 S1 h2
structure Told (H3 H4 H:Hp) (f:Addr) (xs:List V):Prop where
 same:Same H3 H
 at_:H f=some (.lst xs)
 new:H3 f=none
 old:H4 f≠none
 row:∀x∈xs,∃b l,x = .ref b∧H b=some (.lst l)∧b≠f∧H3 b=none∧H4 b≠none
theorem told_of{K:Fg}{H3 H4:Hp}{f:Addr}{M:List (List Int)}(S:Same H3 H4)(r:Rp K (fun a=>H3 a=none) H4 (.ref f) (dM M)):∃xs,RpL K (fun a=>H3 a=none) H4 xs (M.map dL)∧Told H3 H4 H4 f xs:=by
 obtain ⟨a,xs,e,nf,hf,rx⟩:=Rp.lst_at r;cases e;refine ⟨xs,rx,S,hf,nf,by rw [hf];simp,fun x hx=>?_⟩;obtain ⟨i,hi⟩:=List.getElem?_of_mem hx;obtain ⟨d,g1,g2⟩:=rx.get hi;rw [List.getElem?_map] at g1;obtain ⟨m,hm,rfl⟩:=Option.map_eq_some_iff.mp g1;obtain ⟨b,rfl,nb,hb⟩:=dL_at g2;refine ⟨b,_,rfl,hb,?_,nb,by rw [hb];simp⟩;rintro rfl;rw [hf] at hb;have e:=Option.some.inj hb;injection e with e
 rw [e] at hi;rw [List.getElem?_map] at hi;obtain ⟨c,_,z⟩:=Option.map_eq_some_iff.mp hi;cases z
theorem Told.clear{H3 H4 H:Hp}{f b:Addr}{xs:List V}(T:Told H3 H4 H f xs)(hb : .ref b∈xs):Told H3 H4 (upd H b (.lst [])) f xs∧(∃l,H b=some (.lst l))∧H4 b≠none:=by
 obtain ⟨b',l,e,h1,h2,h3,h4⟩:=T.row _ hb;cases e;refine ⟨⟨fun c o q=>by rw [upd_ne (ne_of_none q h3)];exact T.same c o q,by rw [upd_ne h2.symm];exact T.at_,T.new,T.old,fun x hx=>?_⟩,⟨l,h1⟩,h4⟩;obtain ⟨c,l2,rfl,g1,g2,g3,g4⟩:=T.row x hx;by_cases z:c=b
 ·subst z;exact ⟨c,[],rfl,upd_same,g2,g3,g4⟩
 ·exact ⟨c,l2,rfl,by rw [upd_ne z];exact g1,g2,g3,g4⟩
theorem Told.on{H3 H4 H H':Hp}{f:Addr}{xs:List V}(T:Told H3 H4 H f xs)(S:Same H H'):Told H3 H4 H' f xs:=⟨T.same.trans S,S _ _ T.at_,T.new,T.old,fun x hx=>by
 obtain ⟨b,l,e,h1,h2⟩:=T.row x hx
 exact ⟨b,l,e,S _ _ h1,h2⟩⟩
structure Held (K:Fg) (H4 H:Hp) (D:Addr) (M:List (List Int)):Prop where
 new:H4 D=none
 at_:∃ys,H D=some (.lst ys)∧RpL K (fun a=>H4 a=none∧a≠D) H ys (M.map dL)
theorem Held.upd{K:Fg}{H4 H:Hp}{D b:Addr}{M:List (List Int)}{l:List V}{o:HO}(A:Held K H4 H D M)(hb:H4 b≠none)(h:H b=some (.lst l)):Held K H4 (L2.upd H b o) D M:=by
 obtain ⟨ys,h1,h2⟩:=A.at_
 have ne:D≠b:=by
  rintro rfl;exact hb A.new
 exact ⟨A.new,ys,by rw [upd_ne ne];exact h1,h2.agr (Agr.of_upd h fun z=>hb z.1)⟩
theorem Held.on{K:Fg}{H4 H H':Hp}{D:Addr}{M:List (List Int)}(A:Held K H4 H D M)(S:Same H H'):Held K H4 H' D M:=by
 obtain ⟨ys,h1,h2⟩:=A.at_;exact ⟨A.new,ys,S _ _ h1,h2.same S⟩
theorem Held.rep{K:Fg}{H4 H:Hp}{D:Addr}{M:List (List Int)}(A:Held K H4 H D M):Rep K H (.ref D) (dM M):=by
 obtain ⟨ys,h1,h2⟩:=A.at_;exact (Rp.lst trivial h1 (h2.mono fun _ _=>trivial):Rp K (fun _=>True) H (.ref D) (dM M)).rep
theorem ok_dM(M:List (List Int)):kqdOk 8 (dM M)=true:=by
 show ((M.map dL).all (kqdOk 7))=true;rw [List.all_eq_true];intro x hx;obtain ⟨m,_,rfl⟩:=List.mem_map.mp hx;exact ok_dL m 6
theorem wrt_col(k:Nat):∀(m:List Int) (B:List (List Int)),wrt m (col B k)=dot m B k
 | [],B=>by cases B <;> rfl
 | x :: m,[]=>rfl
 | x :: m,r :: B=>by
  have ih:=wrt_col k m B;show (x*pt r k :: List.zipWith (· * ·) m (col B k)).sum=x*pt r k+dot m B k;rw [List.sum_cons,← ih];rfl
end Rw
namespace Rw
open PySem L2 Fr G1 Sm Vs G2 Rk Sz Sf Cl
open PySem.W (Dat kqdOk)
theorem rowsA{K:Fg}{H0 H:Hp}{p:Addr}{R:List (List Int)}(A:Acc K H0 p H (R.map dL)):RowsAt H p R:=by
 obtain ⟨xs,h1,h2⟩:=A.at_;refine ⟨xs,h1,by rw [h2.length,List.length_map],fun i x r hx hr=>?_⟩;obtain ⟨d,g1,g2⟩:=h2.get hx;rw [List.getElem?_map,hr] at g1;cases g1;obtain ⟨b,rfl,_,hb⟩:=dL_at g2;exact ⟨b,rfl,.inl hb⟩
end Rw
namespace L2
open PySem
end L2
namespace Dn
open PySem L2 Fr G1 Sm Vs G2 Rk Sz
open PySem.W (Dat kqdOk)
end Dn
namespace L2
open PySem
end L2
namespace Dn
open PySem L2 Fr G1 Sm Vs G2 Rk Sz
open PySem.W (Dat kqdOk kas_sort)
end Dn
namespace Dn
open PySem L2 Fr G1 Sm Vs G2 Rk Sz
open PySem.W (Dat kqdOk)
end Dn
namespace Mk
open Rk Sz Sf Cl
def cmb(α β : Int)(a b:List Int):List Int:=(List.range (max a.length b.length)).map fun j=>α * pt a j + β * pt b j
theorem pt_out{a:List Int}{j:Nat}(h:a.length≤j):pt a j=0:=by
 unfold pt;rw [List.getD_eq_getElem?_getD,List.getElem?_eq_none h];rfl
theorem pt_cmb(α β : Int)(a b:List Int)(j:Nat):pt (cmb α β a b) j = α * pt a j + β * pt b j:=by
 by_cases h:j < max a.length b.length
 ·unfold cmb;show ((List.range (max a.length b.length)).map _).getD j 0=_;rw [List.getD_eq_getElem?_getD,List.getElem?_map,List.getElem?_range h];rfl
 ·rw [pt_out (by unfold cmb;rw [List.length_map,List.length_range];omega),pt_out (a:=a) (by omega),pt_out (a:=b) (by omega)];simp
theorem dot_cmb{α β : Int}{a b:List Int}{R:List (List Int)}{q:Nat}:dot (cmb α β a b) R q = α * dot a R q + β * dot b R q:=dot_lin (pt_cmb α β a b)
def smN(R:List (List Int))(y:List Int)(q:Nat):Nat→Int
 | 0=>0
 | t+1=>smN R y q t+pt y t*pt (R.getD t []) q
theorem smN_cons(r:List Int)(R:List (List Int))(y:List Int)(q:Nat):∀t,smN (r :: R) y q (t+1)=pt y 0*pt r q+smN R y.tail q t
 | 0=>by show (0:Int)+pt y 0*pt r q=_;simp [smN]
 | t+1=>by
  have ih:=smN_cons r R y q t;show smN (r :: R) y q (t+1)+pt y (t+1)*pt ((r :: R).getD (t+1) []) q=pt y 0*pt r q+(smN R y.tail q t+pt y.tail t*pt (R.getD t []) q)
  rw [ih,pt_tail];show _+pt y (t+1)*pt (R.getD t []) q=_;omega
theorem smN_dot{q:Nat}:∀(R:List (List Int)) (y:List Int),smN R y q R.length=dot y R q
 | [],y=>by rw [dot_nil];rfl
 | r :: R,y=>by rw [List.length_cons,smN_cons,dot_cons,smN_dot R y.tail]
theorem smN_zero{R:List (List Int)}{y:List Int}{q i:Nat}(h:∀j,i≤j→pt y j=0):∀t,i≤t→smN R y q t=smN R y q i
 | 0,l=>by rw [show i=0 by omega]
 | t+1,l=>by
  by_cases e:i=t+1
  ·rw [e]
  ·show smN R y q t+pt y t*pt (R.getD t []) q=_;rw [h t (by omega),smN_zero h t (by omega)];simp
theorem smN_grd{R:List (List Int)}{y:List Int}{q:Nat}:∀t,(∀j,j < t→j∉grd R (j+1)→pt y j=0)→smN R y q t=dot ((grd R t).map fun j=>pt y j) (rowsOf R (grd R t)) q
 | 0,_=>rfl
 | t+1,h=>by
  have ih:=smN_grd (q:=q) t fun j hj=>h j (by omega)
  show smN R y q t+pt y t*pt (R.getD t []) q=_;by_cases f:Free (rowsOf R (grd R t)++[R.getD t []])
  ·rw [grd_yes rfl f];unfold rowsOf;rw [List.map_append,List.map_append,dot_app _ _ _ (by rw [List.length_map,List.length_map]),ih];unfold rowsOf;show _=_+(pt y t*pt (R.getD t []) q+0)
   omega
  ·have z:=h t (by omega) (by
    rw [grd_no rfl f]
    exact fun m=>absurd (grd_lt R t t m) (Nat.lt_irrefl _))
   rw [grd_no rfl f,z,ih];simp
end Mk
namespace L2
open PySem
end L2
namespace Dn
open PySem L2 Fr G1 Sm Vs G2 Rk Sz Rw
open PySem.W (Dat kqdOk)
end Dn
namespace Dn
open PySem L2 Fr G1 Sm Vs G2 Rk Sz Sf Rw Cl
theorem pt_chg{t:Tn}{n:Nat}(h1:t.fr.length=n)(h2:t.to.length=n)(q:Nat):pt (chg t) q=pt t.to q - pt t.fr q:=by
 unfold chg pt;rw [List.getD_eq_getElem?_getD,List.getElem?_zipWith,List.getD_eq_getElem?_getD,List.getD_eq_getElem?_getD];by_cases h:q < n
 ·rw [List.getElem?_eq_getElem (by omega),List.getElem?_eq_getElem (by omega)];rfl
 ·rw [List.getElem?_eq_none (by omega),List.getElem?_eq_none (by omega)];rfl
end Dn
namespace Lo
open Ti
theorem Rch.trans{es:List (Nat×Nat)}{a b c:Nat}(h:Rch es a b)(k:Rch es b c):Rch es a c:=by
 induction k with
 | refl=>exact h
 | step _ m ih=>exact .step ih m
def both(es:List (Nat×Nat)):List (Nat×Nat):=es++es.map fun e=>(e.2,e.1)
theorem both_sym{es:List (Nat×Nat)}{a b:Nat}(h:(a,b)∈both es):(b,a)∈both es:=by
 unfold both at h ⊢;rcases List.mem_append.mp h with h | h
 ·exact List.mem_append_right _ (List.mem_map.mpr ⟨_,h,rfl⟩)
 ·obtain ⟨e,m,z⟩:=List.mem_map.mp h;refine List.mem_append_left _ ?_;obtain ⟨x,y⟩:=e;simp only [Prod.mk.injEq] at z;rw [← z.1,← z.2];exact m
theorem both_rev{es:List (Nat×Nat)}{a b:Nat}(h:Rch (both es) a b):Rch (both es) b a:=by
 induction h with
 | refl=>exact .refl
 | step _ m ih=>exact Rch.trans (.step .refl (both_sym m)) ih
theorem both_lt{es:List (Nat×Nat)}{n a b:Nat}(ok:EOk n es)(ha:a < n)(h:Rch (both es) a b):b < n:=by
 induction h with
 | refl=>exact ha
 | step _ m _ =>
  rcases List.mem_append.mp m with m | m
  ·exact (ok _ m).2
  ·obtain ⟨e,m,z⟩:=List.mem_map.mp m;simp only [Prod.mk.injEq] at z;rw [← z.2];exact (ok _ m).1
def at_(f:List Nat)(i:Nat):Nat:=f.getD i 0
def lsr(f:List Nat)(e:Nat×Nat):Nat:=if at_ f e.2 < at_ f e.1 then at_ f e.2 else at_ f e.1
def gtr(f:List Nat)(e:Nat×Nat):Nat:=if at_ f e.2 > at_ f e.1 then at_ f e.2 else at_ f e.1
def joinF(f:List Nat)(e:Nat×Nat):List Nat:=f.map fun x=>if x=gtr f e then lsr f e else x
theorem join_at{f:List Nat}{e:Nat×Nat}{i:Nat}(h:i < f.length):at_ (joinF f e) i=if at_ f i=gtr f e then lsr f e else at_ f i:=by
 unfold joinF at_;rw [List.getD_eq_getElem?_getD,List.getElem?_map,List.getD_eq_getElem?_getD,List.getElem?_eq_getElem h];rfl
theorem ls_gt(f:List Nat)(e:Nat×Nat):(lsr f e=at_ f e.1∧gtr f e=at_ f e.2∧at_ f e.1≤at_ f e.2)∨(lsr f e=at_ f e.2∧gtr f e=at_ f e.1∧at_ f e.2≤at_ f e.1):=by
 unfold lsr gtr;by_cases h:at_ f e.2 < at_ f e.1
 ·right;rw [if_pos h,if_neg (by omega)];omega
 ·left;rw [if_neg h];by_cases g:at_ f e.2 > at_ f e.1
  ·rw [if_pos g];omega
  ·rw [if_neg g];omega
structure FI (n:Nat) (es seen:List (Nat×Nat)) (f:List Nat):Prop where
 len:f.length=n
 le:∀i < n,at_ f i≤i
 fix:∀i < n,at_ f (at_ f i)=at_ f i
 tie:∀i < n,Rch (both es) i (at_ f i)
 one:∀e∈seen,at_ f e.1=at_ f e.2
theorem FI.start(n:Nat)(es:List (Nat×Nat)):FI n es [] (List.range n):=by
 have e:∀i < n,at_ (List.range n) i=i:=fun i h=>by
  unfold at_;rw [List.getD_eq_getElem?_getD,List.getElem?_range h];rfl
 exact ⟨List.length_range,fun i h=>by rw [e i h];exact Nat.le_refl _,fun i h=>by rw [e i h,e i h],fun i h=>by rw [e i h];exact .refl,fun e h=>by cases h⟩
theorem FI.more{n:Nat}{es seen:List (Nat×Nat)}{f:List Nat}{e:Nat×Nat}(F:FI n es seen f)(ok:EOk n es)(sub:∀e∈seen,e∈es)(m:e∈es):FI n es (seen++[e]) (joinF f e):=by
 obtain ⟨l1,l2⟩:=ok e m;have hl:=F.len;have a1:=F.le e.1 l1;have a2:=F.le e.2 l2;have f1:=F.fix e.1 l1;have f2:=F.fix e.2 l2;have eg:(e.1,e.2)∈both es:=List.mem_append_left _ m;have t12:Rch (both es) (at_ f e.1) (at_ f e.2):=Rch.trans (both_rev (F.tie e.1 l1)) (Rch.trans (.step .refl eg) (F.tie e.2 l2))
 have gl:Rch (both es) (gtr f e) (lsr f e):=by
  rcases ls_gt f e with ⟨x,y,_⟩ | ⟨x,y,_⟩
  ·rw [x,y];exact both_rev t12
  ·rw [x,y];exact t12
 have hls:lsr f e < n∧at_ f (lsr f e)=lsr f e∧lsr f e≤gtr f e:=by
  rcases ls_gt f e with ⟨x,y,z⟩ | ⟨x,y,z⟩
  ·rw [x,y];exact ⟨by omega,f1,z⟩
  ·rw [x,y];exact ⟨by omega,f2,z⟩
 refine ⟨by unfold joinF;rw [List.length_map];exact hl,fun i h=>?_,fun i h=>?_,fun i h=>?_,fun d hd=>?_⟩
 ·have:=F.le i h
  rw [join_at (by omega)];split
  ·rename_i z
   have:=hls.2.2
   omega
  ·exact this
 ·have li:=F.le i h;rw [join_at (e:=e) (i:=i) (by omega)];by_cases z:at_ f i=gtr f e
  ·rw [if_pos z,join_at (by omega),hls.2.1];split <;> rfl
  ·rw [if_neg z,join_at (by omega),F.fix i h,if_neg z]
 ·rw [join_at (by omega)];by_cases z:at_ f i=gtr f e
  ·rw [if_pos z]
   have:=F.tie i h
   rw [z] at this;exact Rch.trans this gl
  ·rw [if_neg z];exact F.tie i h
 ·rcases List.mem_append.mp hd with hd | hd
  ·obtain ⟨d1,d2⟩:=ok d (sub d hd);rw [join_at (by omega),join_at (by omega),F.one d hd]
  ·cases List.mem_singleton.mp hd;rw [join_at (by omega),join_at (by omega)];rcases ls_gt f e with ⟨x,y,z⟩ | ⟨x,y,z⟩
   ·rw [x,y,if_pos rfl];split <;> rfl
   ·rw [x,y,if_pos rfl];split <;> rfl
def firstsOf(n:Nat)(es:List (Nat×Nat)):List Nat:=es.foldl joinF (List.range n)
theorem first_in{n:Nat}{es:List (Nat×Nat)}(ok:EOk n es)(i:Nat):FI n es (es.take i) ((es.take i).foldl joinF (List.range n)):=by
 induction i with
 | zero=>exact FI.start n es
 | succ i ih =>
  by_cases h:i < es.length
  ·rw [List.take_add_one,List.getElem?_eq_getElem h,Option.toList_some,List.foldl_append];exact ih.more ok (fun e he=>List.mem_of_mem_take he) (List.getElem_mem h)
  ·rw [List.take_of_length_le (by omega)] at ih ⊢;exact ih
theorem first_all{n:Nat}{es:List (Nat×Nat)}(ok:EOk n es):FI n es es (firstsOf n es):=by
 have:=first_in ok es.length
 rwa [List.take_length] at this
theorem FI.same{n:Nat}{es:List (Nat×Nat)}{f:List Nat}(F:FI n es es f){i j:Nat}(h:Rch (both es) i j):at_ f i=at_ f j:=by
 induction h with
 | refl=>rfl
 | step _ m ih =>
  rw [ih];rcases List.mem_append.mp m with m | m
  ·exact F.one _ m
  ·obtain ⟨e,m,z⟩:=List.mem_map.mp m;simp only [Prod.mk.injEq] at z;rw [← z.1,← z.2];exact (F.one e m).symm
theorem FI.tied{n:Nat}{es:List (Nat×Nat)}{f:List Nat}(F:FI n es es f){i j:Nat}(hi:i < n)(hj:j < n):at_ f i=at_ f j↔Rch (both es) i j:=by
 refine ⟨fun h=>?_,F.same⟩;have a:=F.tie i hi;have b:=F.tie j hj;rw [h] at a;exact Rch.trans a (both_rev b)
def places(f:List Nat)(v:Nat):List Nat:=(List.range f.length).filter fun i=>at_ f i=v
def lotsOf(f:List Nat):List (List Nat):=((List.range f.length).filter fun v=>at_ f v=v).map (places f)
theorem FI.mem{n:Nat}{es seen:List (Nat×Nat)}{f:List Nat}(F:FI n es seen f){v:Nat}:v∈f↔v < n∧at_ f v=v:=by
 constructor
 ·intro h;obtain ⟨i,li,e⟩:=List.mem_iff_getElem.mp h
  have ea:at_ f i=v:=by
   unfold at_;rw [List.getD_eq_getElem?_getD,List.getElem?_eq_getElem li];exact e
  rw [F.len] at li
  have:=F.le i li
  have fx:=F.fix i li;rw [ea] at this fx;exact ⟨by omega,fx⟩
 ·rintro ⟨h,e⟩;unfold at_ at e;rw [List.getD_eq_getElem?_getD,List.getElem?_eq_getElem (by rw [F.len];exact h)] at e;exact List.mem_of_getElem (by exact e)
theorem up_of{n:Nat}{es seen:List (Nat×Nat)}{f:List Nat}(F:FI n es seen f)(h8:n≤8):L2.upto8 f=(List.range f.length).filter fun v=>at_ f v=v:=by
 unfold L2.upto8
 have e8:List.range 8=List.range f.length++(List.range (8 - f.length)).map (f.length + ·):=by
  rw [← List.range_add];congr 1;have:=F.len;omega
 rw [e8,List.filter_append]
 have z:((List.range (8 - f.length)).map (f.length + ·)).filter (fun k=>f.contains k)=[]:=by
  rw [List.filter_eq_nil_iff];intro a ha;obtain ⟨k,_,rfl⟩:=List.mem_map.mp ha;rw [List.contains_iff_mem,F.mem]
  have:=F.len
  omega
 rw [z,List.append_nil];refine List.filter_congr fun v hv=>?_
 rw [List.mem_range,F.len] at hv;rw [Bool.eq_iff_iff,List.contains_iff_mem,F.mem];simp [hv]
def insL(d:List (List Nat))(c:List Nat):List (List Nat):=if c∈d then d else d++[c]
def dueTo(f:List Nat)(k:Nat):List (List Nat):=((List.range k).filter fun v=>at_ f v=v).map (places f)
theorem due_step{n:Nat}{es:List (Nat×Nat)}{f:List Nat}(F:FI n es es f){k:Nat}(hk:k < n):dueTo f (k+1)=insL (dueTo f k) (places f (at_ f k)):=by
 have e1:dueTo f (k+1)=dueTo f k++(if at_ f k=k then [places f k] else []):=by
  unfold dueTo;rw [List.range_succ,List.filter_append,List.map_append];congr 1;by_cases h:at_ f k=k
  ·simp [h]
  ·simp [h]
 rw [e1];unfold insL;by_cases h:at_ f k=k
 ·rw [if_pos h,h,if_neg];intro m;unfold dueTo at m;obtain ⟨v,hv,e⟩:=List.mem_map.mp m;rw [List.mem_filter,List.mem_range,decide_eq_true_eq] at hv;have mv:k∈places f k:=List.mem_filter.mpr ⟨List.mem_range.mpr (by rw [F.len];exact hk),by simpa using h⟩;rw [← e] at mv
  have:=(List.mem_filter.mp mv).2
  rw [decide_eq_true_eq] at this;omega
 ·rw [if_neg h,List.append_nil,if_pos]
  have:=F.le k hk
  have fx:=F.fix k hk;exact List.mem_map.mpr ⟨at_ f k,List.mem_filter.mpr ⟨List.mem_range.mpr (by omega),by simpa using fx⟩,rfl⟩
theorem due_all{f:List Nat}{n:Nat}(h:f.length=n):dueTo f n=lotsOf f:=by
 unfold dueTo lotsOf;rw [h]
theorem places_up(f:List Nat)(v:Nat):((places f v).map fun k:Nat=>(k:Int)).Pairwise (· < ·):=by
 unfold places;rw [List.pairwise_map];refine List.Pairwise.imp (fun {a b} (h:a < b)=>by omega) (List.Pairwise.filter _ List.pairwise_lt_range)
theorem lot_of{n:Nat}{es:List (Nat×Nat)}{f:List Nat}(F:FI n es es f)(ok:EOk n es){k:Nat}(hk:k < n){ns:List Nat}{ms:List Int}(nd:ns.Nodup)(hm:∀x,x∈ns↔Rch (both es) k x)(p:ms.Perm (ns.map fun k:Nat=>(k:Int)))(s:ms.Pairwise (·≤·)) :
  ms=(places f (at_ f k)).map fun k:Nat=>(k:Int):=by
 refine L2.sorted_same (p.trans (List.Perm.map _ ?_)) s (places_up f _);have nd2:(places f (at_ f k)).Nodup:=List.Pairwise.filter _ List.nodup_range;rw [List.perm_iff_count];intro a;have c1:=List.nodup_iff_count.mp nd a;have c2:=List.nodup_iff_count.mp nd2 a
 have e:a∈ns↔a∈places f (at_ f k):=by
  rw [hm a];unfold places;rw [List.mem_filter,List.mem_range,F.len,decide_eq_true_eq];constructor
  ·intro h;exact ⟨both_lt ok hk h,(F.same h).symm⟩
  ·rintro ⟨h1,h2⟩;exact (F.tied hk h1).mp h2.symm
 rw [← List.count_pos_iff,← List.count_pos_iff] at e;omega
end Lo
namespace L2
open PySem
theorem bb_min:bootBuiltins "min" = some (.builtin "min"):=by decide +kernel
theorem k_listRange{te:TE}{σ : St}{H:Hp}{Q:VK}(h:te σ H fun x H1=>∃n:Nat,x = .int (n:Int)∧n≤1000∧∀l,H1 l=none→Q (.ref l) (upd H1 l (.lst ((List.range n).map fun k:Nat=>.int (k:Int))))):tListRange te σ H Q:=h
theorem k_sortSet{K:Fg}{te:TE}{σ : St}{H:Hp}{Q:VK}(h:te σ H fun x H1=>rSortSet K x H1 Q):tSortSet K te σ H Q:=h
end L2
namespace Lo
open PySem L2 Fr G1 Sm Vs G2 Ti Sz Rw
open PySem.W (Dat kqdOk)
def zN(l:List Nat):List Int:=l.map fun k:Nat=>(k:Int)
theorem zN_len(l:List Nat):(zN l).length=l.length:=List.length_map _
theorem zV(l:List Nat):(zN l).map V.int=l.map fun k:Nat=>V.int (k:Int):=by unfold zN;rw [List.map_map];rfl
theorem zD(l:List Nat):(zN l).map Dat.int=l.map dN:=by unfold zN;rw [List.map_map];rfl
theorem zN_app(l m:List Nat):zN (l++m)=zN l++zN m:=List.map_append
theorem at_get{f:List Nat}{i:Nat}(h:i < f.length):((zN f).map V.int)[i]? = some (.int (at_ f i:Int)):=by
 rw [zV,List.getElem?_map];unfold at_;rw [List.getD_eq_getElem?_getD,List.getElem?_eq_getElem h];rfl
def spPlaces(K:Fg):Sp:=fun vs H Q _=>∃(a:Addr) (f:List Nat) (v:Nat),vs=[.ref a,.int (v:Int)]∧H a=some (.lst ((zN f).map V.int))∧f.length≤100∧∀(p:Addr) (H':Hp),AccZ K H p H' ((zN (places f v)).map Dat.int)→Q (.ref p) H'
theorem len_places{K:Fg}{vs:List V}{H:Hp}{Q:VK}{E:XK}{x y:Str}(h:spPlaces K vs H Q E):vs.length=[x,y].length:=by
 obtain ⟨a,b,c,rfl,_⟩:=h;rfl
def t_places(K:Fg):TS:=(tRet (tCompF (iEnum K (tCons (tVar 0) tNil)) 2 (gTup K 2 (gCons (gName 0) (gCons (gName 1) gNil))) (tTest (tOp rEq (tVar 1) (tVar 3))) (tVar 0)))
theorem rd_places{K:Fg}{vs:List V}{H:Hp}{Q:VK}{E:XK}{N:List Str}(hN:N.length=2)(h:spPlaces K vs H Q E):t_places K (ends Q) (L2.start N vs) H:=by
 obtain ⟨a,f,v,rfl,ha,hl,k⟩:=h;rw [show L2.start N [.ref a,.int (v:Int)]=[some (.ref a),some (.int (v:Int))] by unfold L2.start;rw [hN];rfl];unfold t_places;walk_at "rd";refine ⟨a,_,rfl,SqL.of ha,?_⟩;have lf:((zN f).map V.int).length=f.length:=by rw [List.length_map,zN_len]
 refine compF_enum (xs:=(zN f).map V.int) fun D nD=>⟨fun j H2=>AccZ K H D H2 ((zN ((List.range j).filter fun i=>at_ f i=v)).map Dat.int),by simpa [zN] using AccZ.start (Same.refl _) nD,fun j H2 _ A=>SqL.of (A.same _ _ ha),?_,?_⟩
 ·intro j x H2 T hx A nT us hu
  obtain ⟨u0,u1,rfl⟩:∃u w,us=[u,w]:=by
   match us,hu with
   | [u,w],_=>exact ⟨u,w,rfl⟩
  have lj:j < f.length:=by rw [← lf];exact (List.getElem?_eq_some_iff.mp hx).1
  rw [at_get lj] at hx;cases hx;have er:((List.range (j+1)).filter fun i=>decide (at_ f i=v))=((List.range j).filter fun i=>decide (at_ f i=v))++[j].filter fun i=>decide (at_ f i=v):=by rw [List.range_succ,List.filter_append]
  have lr:((List.range j).filter fun i=>decide (at_ f i=v)).length≤100:=Nat.le_trans (List.length_filter_le _ _) (by rw [List.length_range];omega);have S2:=same_new nT (.tup [.int (j:Int),.int (at_ f j:Int)]);have hT:upd H2 T (.tup [.int (j:Int),.int (at_ f j:Int)]) T=some (.tup [.int (j:Int),.int (at_ f j:Int)]):=upd_same;have A2:=A.on S2;generalize upd H2 T (.tup [.int (j:Int),.int (at_ f j:Int)])=H3 at hT A2 ⊢;walk_at "rd";refine k_gTup (SqT.of hT) rfl ?_;walk_at "rd";refine ⟨⟨[some (.int (j:Int)),some (.int (at_ f j:Int))],rfl,rfl⟩,?_⟩;walk_at "rd";refine k_ite (fun c=>?_) (fun c=>?_)
  ·have c':at_ f j=v:=by
    have:(at_ f j:Int)=(v:Int):=by simpa using c
    omega
   walk_at "rd";refine pushed (by rw [lf];exact lj) ?_;refine A2.pushK (.int (j:Int)) (small1000 (by rw [List.length_map,zN_len];omega)) fun H4 A4=>?_
   show AccZ K H D H4 ((zN ((List.range (j+1)).filter fun i=>decide (at_ f i=v))).map Dat.int);rw [er,List.filter_cons_of_pos (by simpa using c'),zN_app,List.map_append];exact A4
  ·have c' : ¬ at_ f j=v:=fun z=>c (by simp [z])
   refine skipped (by rw [lf];exact lj) ?_;show AccZ K H D H3 ((zN ((List.range (j+1)).filter fun i=>decide (at_ f i=v))).map Dat.int);rw [er,List.filter_cons_of_neg (by simpa using c')];simpa using A2
 ·intro H2 A;rw [lf] at A;exact k D H2 A
def lotM(ts:List Tn):List (List Int):=(lotsOf (firstsOf (hdd ts).length (endsOf ts))).map zN
def spLots(K:Fg):Sp:=fun vs H Q _=>∃(v:V) (ws:List Str) (ts:List Tn),vs=[v]∧Rz K H v (dV ws ts)∧ts.length≤8∧(hdd ts).length≤8∧∀(p:Addr) (H':Hp),Same H H'→Rp K (fun a=>H a=none) H' (.ref p) (dM (lotM ts))→Q (.ref p) H'
theorem len_lots{K:Fg}{vs:List V}{H:Hp}{Q:VK}{E:XK}{x:Str}(h:spLots K vs H Q E):vs.length=[x].length:=by
 obtain ⟨a,b,c,rfl,_⟩:=h;rfl
def t_lots(K:Fg):TS:=(tSeq (tAsg (tListRange (tCB (rLenQ K) (tCons (tCall (spHeaps K) [] E0 (tCons (tVar 0) tNil)) tNil))) (gName 1))
 (tSeq (tFor (iList K (tCall (spEnds K) [] E0 (tCons (tVar 0) tNil))) (gTup K 2 (gCons (gName 2) (gCons (gName 3) gNil)))
 (tSeq (tAsg (tCB rMin2 (tCons (tOp (rIxL K) (tVar 1) (tVar 2)) (tCons (tOp (rIxL K) (tVar 1) (tVar 3)) tNil))) (gName 4))
 (tSeq (tAsg (tCB rMax2 (tCons (tOp (rIxL K) (tVar 1) (tVar 2)) (tCons (tOp (rIxL K) (tVar 1) (tVar 3)) tNil))) (gName 5))
 (tAsg (tComp (iList K (tVar 1)) (tIf (tTest (tOp rEq (tVar 0) (tVar 6))) (tVar 5) (tVar 0))) (gName 1)))))
 (tRet (tComp (iList K (tSortSet K (tVar 1))) (tCall (spPlaces K) [] E0 (tCons (tVar 2) (tCons (tVar 0) tNil)))))))
theorem rd_lots{K:Fg}{vs:List V}{H:Hp}{Q:VK}{E:XK}{N:List Str}(hN:N.length=6)(h:spLots K vs H Q E):t_lots K (ends Q) (L2.start N vs) H:=by
 obtain ⟨v,ws,ts,rfl,rv,ht,h8,k⟩:=h;rw [show L2.start N [v]=[some v,none,none,none,none,none] by unfold L2.start;rw [hN];rfl];unfold t_lots;walk_at "rd";refine k_listRange ?_;walk_at "rd";refine ⟨v,ws,ts,rfl,rv,by omega,fun p H1 A1=>?_⟩;obtain ⟨xs,hp,rx⟩:=A1.at_;have lx:xs.length=(hdd ts).length:=by rw [rx.length,List.length_map]
 have ok:=ends_ok ts;have le:(endsOf ts).length=ts.length:=by unfold endsOf;rw [List.length_map]
 unfold lotM at k;generalize (hdd ts).length=n at lx ok h8 k;walk_at "rd";refine k_lenL (SqL.of hp) ?_;refine ⟨n,by rw [lx],by omega,fun l nl=>?_⟩;have S2:=same_new nl (.lst ((List.range n).map fun k:Nat=>.int (k:Int)));have hl:upd H1 l (.lst ((List.range n).map fun k:Nat=>.int (k:Int))) l=some (.lst ((zN (List.range n)).map V.int)):=by rw [zV];exact upd_same
 have S02:=A1.same.trans S2;generalize upd H1 l (.lst ((List.range n).map fun k:Nat=>.int (k:Int)))=H2 at S2 hl S02 ⊢;walk_at "rd";refine ⟨v,ws,ts,rfl,rv.same S02,by omega,fun pe H3 A3=>?_⟩;obtain ⟨ys,hpe,ry⟩:=A3.at_;have S03:=S02.trans A3.same;generalize endsOf ts=es at ok le ry k A3;have ly:ys.length=es.length:=by rw [ry.length,List.length_map]
 have hl3:=A3.same _ _ hl;walk_at "rd";refine k_rlF (SqL.of hpe) ?_;refine fat_list (xs:=ys) (fun j σ H4=>∃(l:Addr) (u2 u3 u4 u5:Option V),σ = [some v,some (.ref l),u2,u3,u4,u5]∧Same H3 H4∧H4 l=some (.lst ((zN ((es.take j).foldl joinF (List.range n))).map V.int))) ⟨l,none,none,none,none,rfl,Same.refl _,hl3⟩ (fun j σ H4 _ ⟨_,_,_,_,_,_,S,_⟩=>SqL.of (S _ _ hpe)) ?_ ?_
 ·rintro j x σ H4 hx ⟨m,u2,u3,u4,u5,rfl,S4,hm⟩;have lj:=(List.getElem?_eq_some_iff.mp hx).1;obtain ⟨d,g1,g2⟩:=ry.get hx;rw [List.getElem?_map] at g1;obtain ⟨e,he,rfl⟩:=Option.map_eq_some_iff.mp g1;obtain ⟨b,rfl,hb⟩:=dP_at (g2.same S4);have FI:=first_in ok j;have et:(es.take (j+1)).foldl joinF (List.range n)=joinF ((es.take j).foldl joinF (List.range n)) e:=by rw [List.take_add_one,he,Option.toList_some,List.foldl_append];rfl
  obtain ⟨o1,o2⟩:=ok e (List.mem_of_getElem? he);have lf:=FI.len;rw [et];generalize (es.take j).foldl joinF (List.range n)=f at hm FI lf;refine k_gTup (SqT.of hb) rfl ?_;walk_at "rd";refine k_ixL (SqL.of hm) (atI_nat (at_get (i:=e.1) (by omega))) ?_;walk_at "rd";refine k_ixL (SqL.of hm) (atI_nat (at_get (i:=e.2) (by omega))) ?_;walk_at "rd";refine ⟨_,_,rfl,?_⟩
  have q1:(if (at_ f e.2:Int) < (at_ f e.1:Int) then (at_ f e.2:Int) else (at_ f e.1:Int))=(lsr f e:Int):=by
   unfold lsr;by_cases c:at_ f e.2 < at_ f e.1
   ·rw [if_pos c,if_pos (by omega)]
   ·rw [if_neg c,if_neg (by omega)]
  have q2:(if (at_ f e.2:Int) > (at_ f e.1:Int) then (at_ f e.2:Int) else (at_ f e.1:Int))=(gtr f e:Int):=by
   unfold gtr;by_cases c:at_ f e.2 > at_ f e.1
   ·rw [if_pos c,if_pos (by omega)]
   ·rw [if_neg c,if_neg (by omega)]
  rw [q1];walk_at "rd";refine k_ixL (SqL.of hm) (atI_nat (at_get (i:=e.1) (by omega))) ?_;walk_at "rd";refine k_ixL (SqL.of hm) (atI_nat (at_get (i:=e.2) (by omega))) ?_;walk_at "rd";refine ⟨_,_,rfl,?_⟩;rw [q2];walk_at "rd";refine k_rlC (SqL.of hm) ?_;have lzf:((zN f).map V.int).length=f.length:=by rw [List.length_map,zN_len]
  refine comp_list (xs:=(zN f).map V.int) fun D nD=>⟨fun i H5=>AccZ K H4 D H5 ((zN ((joinF f e).take i)).map Dat.int),by simpa [zN] using AccZ.start (Same.refl _) nD,fun i H5 _ A=>SqL.of (A.same _ _ hm),?_,?_⟩
  ·intro i x H5 hx A;have li:i < f.length:=by rw [← lzf];exact (List.getElem?_eq_some_iff.mp hx).1
   rw [at_get li] at hx;cases hx
   have ej:(joinF f e)[i]? = some (if at_ f i=gtr f e then lsr f e else at_ f i):=by
    have lj2:i < (joinF f e).length:=by unfold joinF;rw [List.length_map];exact li
    rw [← join_at (e:=e) li];unfold at_;rw [List.getD_eq_getElem?_getD,List.getElem?_eq_getElem lj2];rfl
   have fin:∀(w:Nat),w=(if at_ f i=gtr f e then lsr f e else at_ f i)→EltK D ((zN f).map V.int).length i (fun i H5=>AccZ K H4 D H5 ((zN ((joinF f e).take i)).map Dat.int)) (.int (w:Int)) H5:=fun w hw=>by
    refine pushed (by rw [lzf];exact li) ?_;refine A.pushK (.int (w:Int)) (small1000 (by rw [List.length_map,zN_len,List.length_take];omega)) fun H6 A6=>?_
    show AccZ K H4 D H6 ((zN ((joinF f e).take (i+1))).map Dat.int);rw [List.take_add_one,ej,← hw,Option.toList_some,zN_app,List.map_append];exact A6
   walk_at "rd";refine k_ite (fun c=>?_) (fun c=>?_)
   ·have c':at_ f i=gtr f e:=by
     have:(at_ f i:Int)=(gtr f e:Int):=by simpa using c
     omega
    walk_at "rd";exact fin (lsr f e) (by rw [if_pos c'])
   ·have c' : ¬ at_ f i=gtr f e:=fun z=>c (by simp [z])
    walk_at "rd";exact fin (at_ f i) (by rw [if_neg c'])
  ·intro H5 A;have lJ:(joinF f e).length=f.length:=by unfold joinF;rw [List.length_map]
   rw [lzf,← lJ,List.take_length] at A;exact ⟨D,_,_,_,_,rfl,S4.trans A.same,AccZ.ints A⟩
 ·rintro σ H4 ⟨m,u2,u3,u4,u5,rfl,S4,hm⟩;rw [ly,List.take_length] at hm;have FI:=first_all ok;have FI':=FI;unfold firstsOf at FI k;generalize es.foldl joinF (List.range n)=f at hm FI k;have lf:=FI.len;have f8:∀x∈f,x < 8:=fun x hx=>by have:=(FI.mem.mp hx).1;omega
  walk_at "rd";refine k_sortSet ?_;walk_at "rd";refine ⟨m,f,rfl,by rw [← zV];exact SqL.of hm,f8,fun q nq=>?_⟩;have eu:=up_of FI h8;have el:(upto8 f).map (places f)=lotsOf f:=by rw [eu];rfl
  have S5:=same_new nq (.lst ((upto8 f).map fun k:Nat=>.int (k:Int)));have hq:upd H4 q (.lst ((upto8 f).map fun k:Nat=>.int (k:Int))) q=some (.lst ((upto8 f).map fun k:Nat=>.int (k:Int))):=upd_same;generalize upd H4 q (.lst ((upto8 f).map fun k:Nat=>.int (k:Int)))=H5 at S5 hq ⊢;have lu:((upto8 f).map fun k:Nat=>V.int (k:Int)).length=(upto8 f).length:=List.length_map _;have lu8:(upto8 f).length≤8:=by unfold upto8;exact List.length_filter_le _ _
  refine k_rlC (SqL.of hq) ?_;refine comp_list (xs:=(upto8 f).map fun k:Nat=>.int (k:Int)) fun D nD=>⟨fun i H6=>Acc K H5 D H6 ((((upto8 f).take i).map fun v=>zN (places f v)).map dL),by simpa using Acc.start nD,fun i H6 _ A=>SqL.of (A.same _ _ hq),?_,?_⟩
  ·intro i x H6 hx A;have li:=(List.getElem?_eq_some_iff.mp hx).1;rw [List.getElem?_map] at hx;obtain ⟨w,hw,rfl⟩:=Option.map_eq_some_iff.mp hx;walk_at "rd";refine ⟨m,f,w,rfl,A.same _ _ (S5 _ _ hm),by omega,fun r H7 C=>?_⟩;refine pushed li ?_;refine A.pushK C.same (d:=dL (zN (places f w))) C.ref (small1000 (by rw [List.length_map,List.length_map,List.length_take];omega)) fun H8 A8=>?_
   show Acc K H5 D H8 ((((upto8 f).take (i+1)).map fun v=>zN (places f v)).map dL);rw [List.take_add_one,hw,List.map_append,List.map_append];exact A8
  ·intro H6 A;rw [lu,List.take_length] at A;have S06:=S03.trans (S4.trans S5);have em:((upto8 f).map fun v=>zN (places f v))=(lotsOf f).map zN:=by rw [← el,List.map_map];rfl
   rw [em] at A;exact k D H6 (S06.trans A.same) (A.ref.mono fun _ z=>S06.free z)
end Lo
namespace Bo
def sm:Nat→(Nat→Int)→Int
 | 0,_=>0
 | n+1,f=>sm n f+f n
theorem sm_congr{n:Nat}{f g:Nat→Int}(h:∀k,k < n→f k=g k):sm n f=sm n g:=by
 induction n with
 | zero=>rfl
 | succ n ih=>rw [sm,sm,ih fun k hk=>h k (by omega),h n (by omega)]
theorem sm_add(n:Nat)(f g:Nat→Int):sm n (fun k=>f k+g k)=sm n f+sm n g:=by
 induction n with
 | zero=>rfl
 | succ n ih=>rw [sm,sm,sm,ih];omega
theorem sm_mul(n:Nat)(c:Int)(f:Nat→Int):sm n (fun k=>c*f k)=c*sm n f:=by
 induction n with
 | zero=>rw [sm,sm,Int.mul_zero]
 | succ n ih=>rw [sm,sm,ih,Int.mul_add]
end Bo
namespace Bo
theorem pigeon{f:Nat→Nat}{N K:Nat}(h:∀X,X < N→f X < K)(lt:K < N):∃X Y,X < Y∧Y < N∧f X=f Y:=by
 refine Classical.byContradiction fun no=>?_
 have nd:((List.range N).map f).Nodup:=by
  unfold List.Nodup;rw [List.pairwise_map];refine List.Pairwise.imp_of_mem (fun {a b} ha hb (l:a < b) e=>no ⟨a,b,l,List.mem_range.mp hb,e⟩) List.pairwise_lt_range
 have:=Ti.nodup_len (hs:=List.range K) nd fun x hx=>by
  obtain ⟨X,hX,rfl⟩:=List.mem_map.mp hx;exact List.mem_range.mpr (h X (List.mem_range.mp hX))
 rw [List.length_map,List.length_range,List.length_range] at this;omega
def dig(b:Nat):Nat→Nat→Nat
 | X,0=>X % b
 | X,j+1=>dig b (X / b) j
theorem dig_lt{b:Nat}(h:0 < b):∀(j X:Nat),dig b X j < b
 | 0,X=>Nat.mod_lt _ h
 | j+1,X=>dig_lt h j (X / b)
theorem dig_inj{b:Nat}(h:0 < b):∀(n X Y:Nat),X < b ^ n→Y < b ^ n→(∀j,j < n→dig b X j=dig b Y j)→X=Y
 | 0,X,Y,h1,h2,_=>by rw [Nat.pow_zero] at h1 h2;omega
 | n+1,X,Y,h1,h2,h3=>by
  have e0:X % b=Y % b:=h3 0 (by omega);have e1:X / b=Y / b:=dig_inj h n (X / b) (Y / b) (by rw [Nat.div_lt_iff_lt_mul h,← Nat.pow_succ];exact h1) (by rw [Nat.div_lt_iff_lt_mul h,← Nat.pow_succ];exact h2) fun j hj=>h3 (j+1) (by omega)
  rw [← Nat.div_add_mod X b,← Nat.div_add_mod Y b,e0,e1]
def enc(R:Nat):Nat→(Nat→Nat)→Nat
 | 0,_=>0
 | k+1,y=>enc R k y+y k*R ^ k
theorem enc_lt{R:Nat}{y:Nat→Nat}:∀k,(∀i,i < k→y i < R)→enc R k y < R ^ k
 | 0,_=>by rw [Nat.pow_zero];exact Nat.one_pos
 | k+1,h=>by
  have a:=enc_lt k fun i hi=>h i (by omega)
  have c:(y k+1)*R ^ k≤R*R ^ k:=Nat.mul_le_mul_right _ (h k (by omega));rw [Nat.pow_succ,Nat.mul_comm (R ^ k) R,enc];rw [Nat.add_mul,Nat.one_mul] at c;omega
theorem enc_inj{R:Nat}{y z:Nat→Nat}:∀k,(∀i,i < k→y i < R)→(∀i,i < k→z i < R)→enc R k y=enc R k z→∀i,i < k→y i=z i
 | 0,_,_,_,i,hi=>absurd hi (Nat.not_lt_zero _)
 | k+1,h1,h2,e,i,hi=>by
  have a:=enc_lt k fun i hi=>h1 i (by omega)
  have c:=enc_lt k fun i hi=>h2 i (by omega)
  have pos:0 < R ^ k:=by omega
  rw [enc,enc] at e
  have ek:y k=z k:=by
   have d1:(enc R k y+y k*R ^ k) / R ^ k=y k:=by rw [Nat.add_mul_div_right _ _ pos,Nat.div_eq_of_lt a,Nat.zero_add]
   have d2:(enc R k z+z k*R ^ k) / R ^ k=z k:=by rw [Nat.add_mul_div_right _ _ pos,Nat.div_eq_of_lt c,Nat.zero_add]
   rw [← d1,← d2,e]
  by_cases q:i=k
  ·rw [q];exact ek
  ·rw [ek] at e;exact enc_inj k (fun i hi=>h1 i (by omega)) (fun i hi=>h2 i (by omega)) (by omega) i (by omega)
theorem sm_abs{n:Nat}{f:Nat→Int}{C:Int}(h:∀k,k < n→-C≤f k∧f k≤C) : -(n*C)≤sm n f∧sm n f≤n*C:=by
 induction n with
 | zero=>rw [sm];simp
 | succ n ih =>
  have a:=ih fun k hk=>h k (by omega)
  have c:=h n (by omega);have e:((n+1:Nat):Int)*C=n*C+C:=by rw [Int.natCast_add,Int.add_mul];simp
  rw [e,sm];omega
theorem mul_bd{a x:Int}{M B:Nat}(ha : -(M:Int)≤a∧a≤M)(h0:0≤x)(hx:x≤B) : -((M:Int)*B)≤a*x∧a*x≤(M:Int)*B:=by
 have h1:a*x≤M*x:=Int.mul_le_mul_of_nonneg_right ha.2 h0;have h2 : -(M:Int)*x≤a*x:=Int.mul_le_mul_of_nonneg_right ha.1 h0;have h3:(M:Int)*x≤M*B:=Int.mul_le_mul_of_nonneg_left hx (by omega);rw [Int.neg_mul] at h2;omega
theorem siegel{k M:Nat}{A:Nat→Nat→Int}(m1:1≤M)(hA:∀i,i < k→∀j,j < k+1→-(M:Int)≤A i j∧A i j≤M) :
  ∃x:Nat→Int,(∃j,j < k+1∧x j≠0)∧(∀j,-(((2*((k+1)*M)) ^ k:Nat):Int)≤x j∧x j≤((2*((k+1)*M)) ^ k:Nat))∧∀i,i < k→sm (k+1) (fun j=>A i j*x j)=0:=by
 generalize hC:(k+1)*M=C;have c1:1≤C:=by rw [← hC];exact Nat.mul_pos (by omega) m1
 generalize hB:(2*C) ^ k=B
 have lt:(2*C*B+1) ^ k < (B+1) ^ (k+1):=by
  have e1:2*C*B+1≤2*C*(B+1):=by rw [Nat.mul_add];omega
  have e2:(2*C*B+1) ^ k≤(2*C*(B+1)) ^ k:=Nat.pow_le_pow_left e1 k;rw [Nat.mul_pow,hB] at e2;rw [Nat.pow_succ,Nat.mul_comm ((B+1) ^ k)];have p1:0 < (B+1) ^ k:=Nat.pow_pos (by omega)
  have:B*(B+1) ^ k < (B+1)*(B+1) ^ k:=Nat.mul_lt_mul_of_pos_right (by omega) p1
  omega
 have bd:∀(X i:Nat),i < k→-((C*B:Nat):Int)≤sm (k+1) (fun j=>A i j*(dig (B+1) X j:Int))∧sm (k+1) (fun j=>A i j*(dig (B+1) X j:Int))≤((C*B:Nat):Int):=by
  intro X i hi
  have:=sm_abs (n:=k+1) (f:=fun j=>A i j*(dig (B+1) X j:Int)) (C:=(M:Int)*B) fun j hj=>mul_bd (hA i hi j hj) (by omega) (by have:=dig_lt (b:=B+1) (by omega) j X;omega)
  have e:(((k+1:Nat):Int)*((M:Int)*B))=((C*B:Nat):Int):=by rw [← hC,← Int.mul_assoc];simp
  rw [e] at this;exact this
 have yl:∀(X i:Nat),i < k→(sm (k+1) (fun j=>A i j*(dig (B+1) X j:Int))+(C*B:Nat)).toNat < 2*C*B+1:=fun X i hi=>by
  have:=bd X i hi
  have e:2*C*B=C*B+C*B:=by rw [Nat.mul_assoc,Nat.two_mul]
  omega
 obtain ⟨X,Y,l1,l2,e⟩:=pigeon (f:=fun X=>enc (2*C*B+1) k fun i=>(sm (k+1) (fun j=>A i j*(dig (B+1) X j:Int))+(C*B:Nat)).toNat) (N:=(B+1) ^ (k+1)) (fun X _=>enc_lt k fun i hi=>yl X i hi) lt;have ei:=enc_inj k (fun i hi=>yl X i hi) (fun i hi=>yl Y i hi) e;refine ⟨fun j=>(dig (B+1) X j:Int) - dig (B+1) Y j,?_,fun j=>?_,fun i hi=>?_⟩
 ·refine Classical.byContradiction fun no=>?_
  have:=dig_inj (b:=B+1) (by omega) (k+1) X Y (by omega) l2 fun j hj=>Classical.byContradiction fun ne=>no ⟨j,hj,by show ((dig (B+1) X j:Int) - dig (B+1) Y j)≠0;omega⟩
  omega
 ·have a:=dig_lt (b:=B+1) (by omega) j X;have c:=dig_lt (b:=B+1) (by omega) j Y;show -((B:Nat):Int)≤(dig (B+1) X j:Int) - dig (B+1) Y j∧(dig (B+1) X j:Int) - dig (B+1) Y j≤(B:Nat);omega
 ·have h:=ei i hi;have b1:=bd X i hi;have b2:=bd Y i hi;have es:sm (k+1) (fun j=>A i j*(dig (B+1) X j:Int))=sm (k+1) (fun j=>A i j*(dig (B+1) Y j:Int)):=by omega
  have e3:sm (k+1) (fun j=>A i j*((dig (B+1) X j:Int) - dig (B+1) Y j))=sm (k+1) (fun j=>A i j*(dig (B+1) X j:Int))+sm (k+1) (fun j=>(-1)*(A i j*(dig (B+1) Y j:Int))):=by
   rw [← sm_add];refine sm_congr fun j _=>?_
   rw [Int.mul_sub];omega
  show sm (k+1) (fun j=>A i j*((dig (B+1) X j:Int) - dig (B+1) Y j))=0;rw [e3,sm_mul,es];omega
end Bo
namespace Bo
theorem sm_zero{n:Nat}{f:Nat→Int}(h:∀k,k < n→f k=0):sm n f=0:=by
 induction n with
 | zero=>rfl
 | succ n ih=>rw [sm,ih fun k hk=>h k (by omega),h n (by omega)];rfl
end Bo
namespace L2
open PySem
theorem comp_enumG{K:Fg}{te:TE}{σ : St}{Q:VK}{H:Hp}{a:Addr}{xs:List V}{n:Nat}{g:TG}(h:∀D,H D=none→∃Pv:Nat→Hp→Prop,Pv 0 (upd H D (.lst []))∧(∀i H2,i≤xs.length→Pv i H2→SqL K H2 a xs) ∧
  (∀i x H2 T,xs[i]? = some x→Pv i H2→H2 T=none→EltG g n te σ (.ref T) (upd H2 T (.tup [.int i,x])) D xs.length i Pv)∧∀H2,Pv xs.length H2→Q (.ref D) H2):CompG (Ite K a) n g te σ Q H:=by
 intro D nD;obtain ⟨Pv,h0,hl,hs,hd⟩:=h D nD;refine ⟨fun i m H=>m=xs.length - i∧i≤xs.length∧Pv i H,⟨_,rfl,Nat.zero_le _,h0⟩,?_⟩;rintro i m H ⟨rfl,hi,p⟩;have q:=hl i H hi p;by_cases hlt:i < xs.length
 ·refine .inr ⟨⟨xs,q,hlt⟩,fun v H' y us hu=>?_⟩;obtain ⟨T,x,nT,rfl,rfl,z⟩:=y;exact hs i x H T (z xs q) p nT us hu
 ·have e:i=xs.length:=by omega
  subst e;exact .inl ⟨⟨xs,q,Nat.le_refl _⟩,hd H p⟩
end L2
namespace Br
open PySem L2 Fr G1 Sm Vs G2 Rk Sz Sf Rw
open PySem.W (Dat kqdOk)
end Br
namespace Bo
end Bo
namespace Br
open Rk Sf Rw
section
variable{R:List (List Int)}{es:List Int}{size:Nat}
end
end Br
namespace Bo
end Bo
namespace Br
open Rk Sf Rw Bo
section
variable{R:List (List Int)}{n:Nat}
end
section
variable{B:List (List Int)}{hs:List Nat}{m:Nat}
end
section
variable{R:List (List Int)}{n:Nat}
end
end Br
namespace Br
open Rk Sf Rw Bo
section
variable(R:List (List Int))(n:Nat)
end
section
variable{R:List (List Int)}{n k:Nat}{B:List (List Int)}{hs:List Nat}
end
end Br
namespace Br
open PySem L2 Fr G1 Sm Vs G2 Rk Sz Sf Rw
open PySem.W (Dat kqdOk)
end Br
namespace Br
open Rk Sf Rw Bo
end Br
namespace L2
open PySem PySem.Spec PyProof.Rows
open PySem.W (Dat kqdP kqdPs kqdOk)
end L2
namespace Br
open PySem L2 Fr G1 Sm Vs G2 Rk Sz Sf Rw Cl
open PySem.W (Dat kqdOk)
open PyProof.Rows
end Br
namespace Br
open PySem L2 Fr G1 Sm Vs G2 Rk Sz Sf Rw Cl
open PySem.W (Dat kqdOk)
end Br
namespace Br
open PySem L2 Fr G1 Sm Vs G2 Rk Sz Sf Rw Cl
open PySem.W (Dat kqdOk)
end Br
namespace Br
open Rk Sf Rw Bo Cl
section
variable{R:List (List Int)}{n:Nat}
end
end Br
namespace Fr
end Fr
namespace Tr
section
variable(fm:Nat→List Nat)
variable{fm}
end
section
variable(es:List (Nat×Nat))(pc:Nat→Rat)
variable{es}{pc}
end
end Tr
namespace Tr
open PySem L2 Fr G1 Sm Vs G2 Rk Sz Sf Rw Ti
open PySem.W (Dat kqdOk)
end Tr
namespace Tr
open PySem L2 Fr G1 Sm Vs G2 Rk Sz Sf Rw Ti
open PySem.W (Dat kqdOk)
end Tr
namespace Tr
open Fr
section
variable{es:List (Nat×Nat)}{pc:Nat→Rat}
end
end Tr
namespace Tr
open PySem L2 Fr G1 Sm Vs G2 Rk Sz Sf Rw Ti
open PySem.W (Dat kqdOk)
end Tr
namespace Tr
open PySem L2 Fr G1 Sm Vs G2 Rk Sz Sf Rw Ti
open PySem.W (Dat kqdOk)
end Tr
namespace Tr
open PySem L2 Fr G1 Sm Vs G2 Rk Sz Sf Rw Ti Lo
open PySem.W (Dat kqdOk)
end Tr
namespace Tr
open PySem L2 Fr G1 Sm Vs G2 Rk Sz Sf Rw Ti Lo
open PySem.W (Dat kqdOk)
end Tr
namespace Tr
open PySem L2 Fr G1 Sm Vs G2 Rk Sz Sf Rw Ti Lo
open PySem.W (Dat kqdOk)
section
variable{es:List (Nat×Nat)}{pc:Nat→Rat}
end
end Tr
namespace Tr
open PySem L2 Fr G1 Sm Vs G2 Rk Sz Sf Rw Ti Lo
open PySem.W (Dat kqdOk)
end Tr
namespace L2
open PySem PySem.Spec PyProof.Rows
end L2
namespace Tr
open PySem L2 Fr G1 Sm Vs G2 Rk Sz Sf Rw Ti Lo
open PySem.W (Dat kqdOk)
end Tr
namespace Vs
open PySem L2 Fr G1 Sm
open Sz (chg)
open PySem.W (Dat kqdOk)
end Vs
namespace Rd
open Ti
section
variable{es:List (Nat×Nat)}{a:Nat}
end
end Rd
namespace Rd
open PySem L2 Fr G1 Sm Vs G2 Ti
open PySem.W (Dat kqdOk)
end Rd
namespace Rd
open PySem L2 Fr G1 Sm Vs G2 Ti
open PySem.W (Dat kqdOk)
section
variable{es:List (Nat×Nat)}{a:Nat}
end
end Rd
namespace Wq
open PySem L2 Fr G1 Sm Vs Tr
open PySem.W (Dat kqdOk)
end Wq
namespace Nv
open PySem L2 Fr G1 Sm Vs
open PySem.W (Dat kqdOk kqdP kqdPs)
end Nv
namespace Nv
open PySem L2 Fr G1 Sm Vs
open PySem.W (Dat kqdOk kqdP kqdPs)
end Nv
namespace L2
open PySem PySem.Spec PyProof.Rows
section
variable{X:Cx}
end
end L2
namespace Nv
open PySem L2 Fr G1 Sm Vs
open PySem.W (Dat kqdOk kqdP kqdPs)
end Nv
namespace Nv
open PySem L2 Fr G1 Sm Vs
open PySem.W (Dat kqdOk kqdP kqdPs)
end Nv
namespace Nv
open PySem L2 Fr G1 Sm Vs
open PySem.W (Dat kqdOk kqdP kqdPs)
end Nv
namespace Nv
open PySem L2 Fr G1 Sm Vs
open PySem.W (Dat kqdOk kqdP kqdPs)
end Nv
namespace Rk
theorem sz_fst(st:Nat×List (List Int))(p:Nat):(szStep st p).1≤st.1+1:=by
 unfold szStep;split
 ·exact Nat.le_succ _
 ·exact Nat.le_refl _
theorem sz_le:∀(n a:Nat) (st:Nat×List (List Int)),((List.range' a n).foldl szStep st).1≤st.1+n
 | 0,_,_=>Nat.le_refl _
 | n+1,a,st=>by
  rw [List.range'_succ,List.foldl_cons];have h1:=sz_le n (a+1) (szStep st a);have h2:=sz_fst st a;omega
theorem size_le(w:Nat)(R:List (List Int)):size w R≤w:=by
 have:=sz_le w 0 (0,R)
 unfold size;rw [List.range_eq_range'];omega
theorem free_le{w:Nat}{R:List (List Int)}(hw:Wide w R)(f:Free R):R.length≤w:=by
 have:=((size_free hw).1).mpr f
 have:=size_le w R
 omega
abbrev Mk:=List Int×Int×List Int
def vs(n:Nat):List Int→List Mk→List Int
 | a :: as,t :: L=>List.zipWith (· + ·) (t.2.2.map fun x=>a*x) (vs n as L)
 | _,_=>List.replicate n 0
theorem vs_len{n:Nat}:∀(a:List Int) (L:List Mk),(∀t∈L,t.2.2.length=n)→(vs n a L).length=n
 | [],_,_=>by simp [vs]
 | _ :: _,[],_=>by simp [vs]
 | a :: as,t :: L,h=>by
  show (List.zipWith (· + ·) (t.2.2.map fun x=>a*x) (vs n as L)).length=n;rw [List.length_zipWith,List.length_map,h t List.mem_cons_self,vs_len as L fun u hu=>h u (List.mem_cons_of_mem _ hu),Nat.min_self]
theorem pt_add{a b:List Int}(h:a.length=b.length)(p:Nat):pt (List.zipWith (· + ·) a b) p=pt a p+pt b p:=by
 unfold pt;rw [List.getD_eq_getElem?_getD,List.getD_eq_getElem?_getD,List.getD_eq_getElem?_getD,List.getElem?_zipWith];by_cases q:p < a.length
 ·rw [List.getElem?_eq_getElem q,List.getElem?_eq_getElem (show p < b.length by omega)];rfl
 ·rw [List.getElem?_eq_none (by omega),List.getElem?_eq_none (show b.length≤p by omega)];rfl
theorem pt_mul(c:Int)(r:List Int)(p:Nat):pt (r.map fun x=>c*x) p=c*pt r p:=by
 unfold pt;rw [List.getD_eq_getElem?_getD,List.getD_eq_getElem?_getD,List.getElem?_map];cases r[p]? with
 | none=>exact (Int.mul_zero c).symm
 | some x=>rfl
theorem pt_rep(n p:Nat):pt (List.replicate n 0) p=0:=by
 unfold pt;rw [List.getD_eq_getElem?_getD,List.getElem?_replicate];split <;> rfl
theorem pt_vs{n:Nat}(p:Nat):∀(a:List Int) (L:List Mk),(∀t∈L,t.2.2.length=n)→pt (vs n a L) p=dot a (L.map (·.2.2)) p
 | [],L,_=>by
  rw [show vs n [] L=List.replicate n 0 by cases L <;> rfl,pt_rep];cases L <;> rfl
 | _ :: _,[],_=>by
  show pt (List.replicate n 0) p=_;rw [pt_rep];rfl
 | a :: as,t :: L,h=>by
  have hl:=vs_len as L fun u hu=>h u (List.mem_cons_of_mem _ hu)
  show pt (List.zipWith (· + ·) (t.2.2.map fun x=>a*x) (vs n as L)) p=a*pt t.2.2 p+dot as (L.map (·.2.2)) p;rw [pt_add (by rw [List.length_map,h t List.mem_cons_self,hl]),pt_mul,pt_vs p as L fun u hu=>h u (List.mem_cons_of_mem _ hu)]
theorem dot_vs{R:List (List Int)}(q:Nat):∀(a:List Int) (L:List Mk),(∀t∈L,t.2.2.length=R.length∧∀q,t.2.1*pt t.1 q=dot t.2.2 R q)→dot (vs R.length a L) R q=dot (List.zipWith (fun x (t:Mk)=>x*t.2.1) a L) (L.map (·.1)) q
 | [],L,_=>by
  rw [show vs R.length [] L=List.replicate R.length 0 by cases L <;> rfl,dot_zero (fun c hc=>(List.mem_replicate.mp hc).2)];cases L <;> rfl
 | _ :: _,[],_=>by
  show dot (List.replicate R.length 0) R q=_;rw [dot_zero (fun c hc=>(List.mem_replicate.mp hc).2)];rfl
 | a :: as,t :: L,h=>by
  have hl:=vs_len (n:=R.length) as L fun u hu=>(h u (List.mem_cons_of_mem _ hu)).1
  have ht:=h t List.mem_cons_self;show dot (List.zipWith (· + ·) (t.2.2.map fun x=>a*x) (vs R.length as L)) R q=a*t.2.1*pt t.1 q+dot (List.zipWith (fun x (t:Mk)=>x*t.2.1) as L) (L.map (·.1)) q;rw [dot_add _ _ _ _ (by rw [List.length_map,ht.1,hl]),dot_smul,dot_vs q as L fun u hu=>h u (List.mem_cons_of_mem _ hu),← ht.2 q,Int.mul_assoc]
theorem coords{R:List (List Int)}(L:List Mk)(h:∀t∈L,t.2.1≠0∧t.2.2.length=R.length∧∀q,t.2.1*pt t.1 q=dot t.2.2 R q)(f:Free (L.map (·.1))):Free (L.map (·.2.2)):=by
 intro a la ha;rw [List.length_map] at la;have hl:=fun t ht=>(h t ht).2
 have z:∀q,dot (List.zipWith (fun x (t:Mk)=>x*t.2.1) a L) (L.map (·.1)) q=0:=fun q=>by
  rw [← dot_vs q a L hl];refine dot_zero (fun c hc=>?_) R q;obtain ⟨p,hp⟩:=List.getElem?_of_mem hc;have e:=pt_vs (n:=R.length) p a L fun t ht=>(hl t ht).1
  rw [ha p] at e;unfold pt at e;rw [List.getD_eq_getElem?_getD,hp] at e;exact e
 have zz:=f _ (by rw [List.length_zipWith,List.length_map,la,Nat.min_self]) z;intro c hc;obtain ⟨i,hi⟩:=List.getElem?_of_mem hc;have li:=(List.getElem?_eq_some_iff.mp hi).1;have lL:i < L.length:=by omega
 have e2:(List.zipWith (fun x (t:Mk)=>x*t.2.1) a L)[i]? = some (c*(L[i]).2.1):=by
  rw [List.getElem?_zipWith,hi,List.getElem?_eq_getElem lL]
 have:=zz _ (List.mem_of_getElem? e2)
 rcases Int.mul_eq_zero.mp this with q | q
 ·exact q
 ·exact absurd q (h _ (List.getElem_mem lL)).1
def InSp(R:List (List Int))(x:List Int):Prop:=∃(g:Int) (d:List Int),g≠0∧d.length=R.length∧∀q,g*pt x q=dot d R q
theorem steinitz{S R:List (List Int)}(f:Free S)(h:∀s∈S,InSp R s):S.length≤R.length:=by
 have mk:∀S:List (List Int),(∀s∈S,InSp R s)→∃L:List Mk,L.map (·.1)=S∧∀t∈L,t.2.1≠0∧t.2.2.length=R.length∧∀q,t.2.1*pt t.1 q=dot t.2.2 R q:=by
  intro S
  induction S with
  | nil=>intro _;exact ⟨[],rfl,by simp⟩
  | cons s S ih =>
   intro h;obtain ⟨L,e,hL⟩:=ih fun u hu=>h u (List.mem_cons_of_mem _ hu)
   obtain ⟨g,d,h1,h2,h3⟩:=h s List.mem_cons_self;refine ⟨(s,g,d) :: L,by rw [List.map_cons,e],fun t ht=>?_⟩;rcases List.mem_cons.mp ht with rfl | ht
   ·exact ⟨h1,h2,h3⟩
   ·exact hL t ht
 obtain ⟨L,e,hL⟩:=mk S h;have f2:=coords L hL (by rw [e];exact f)
 have:=free_le (w:=R.length) (fun r hr=>by obtain ⟨t,ht,rfl⟩:=List.mem_map.mp hr;exact (hL t ht).2.1) f2
 rw [List.length_map] at this;rw [← e,List.length_map];exact this
end Rk
namespace Rk
def Sp(R:List (List Int))(φ : Nat→Int):Prop:=∃(g:Int) (d:List Int),g≠0∧d.length=R.length∧∀q,g * φ q=dot d R q
theorem Sp.zero(R:List (List Int)):Sp R fun _=>0:=⟨1,List.replicate R.length 0,by decide,List.length_replicate,fun q=>by rw [dot_zero fun c hc=>(List.mem_replicate.mp hc).2];rfl⟩
theorem Sp.smul{R:List (List Int)}{φ : Nat→Int}(h:Sp R φ)(c:Int):Sp R fun q=>c * φ q:=by
 obtain ⟨g,d,hg,ld,e⟩:=h;refine ⟨g,d.map fun x=>c*x,hg,by rw [List.length_map];exact ld,fun q=>?_⟩;rw [dot_smul,← e q,← Int.mul_assoc,← Int.mul_assoc,Int.mul_comm g c]
theorem Sp.add{R:List (List Int)}{φ ψ : Nat→Int}(h:Sp R φ)(k:Sp R ψ):Sp R fun q=>φ q + ψ q:=by
 obtain ⟨g,d,hg,ld,e⟩:=h;obtain ⟨f,c,hf,lc,m⟩:=k;refine ⟨g*f,List.zipWith (· + ·) (d.map fun x=>f*x) (c.map fun x=>g*x),fun z=>(Int.mul_eq_zero.mp z).elim hg hf,by rw [List.length_zipWith,List.length_map,List.length_map,ld,lc,Nat.min_self],fun q=>?_⟩;rw [dot_add _ _ _ _ (by rw [List.length_map,List.length_map,ld,lc]),dot_smul,dot_smul,← e q,← m q,Int.mul_add];have e1:g*f * φ q=f*(g * φ q):=by rw [← Int.mul_assoc,Int.mul_comm g f]
 have e2:g*f * ψ q=g*(f * ψ q):=Int.mul_assoc _ _ _;rw [e1,e2]
theorem Sp.of{R:List (List Int)}{φ ψ : Nat→Int}(h:Sp R φ)(e:∀q,ψ q = φ q):Sp R ψ:=by
 obtain ⟨g,d,hg,ld,m⟩:=h;exact ⟨g,d,hg,ld,fun q=>by rw [e q];exact m q⟩
theorem Sp.div{R:List (List Int)}{φ ψ : Nat→Int}{c:Int}(hc:c≠0)(h:Sp R φ)(e:∀q,c * ψ q = φ q):Sp R ψ:=by
 obtain ⟨g,d,hg,ld,m⟩:=h;refine ⟨g*c,d,fun z=>(Int.mul_eq_zero.mp z).elim hg hc,ld,fun q=>?_⟩;rw [Int.mul_assoc,e q];exact m q
theorem Sp.cons{R:List (List Int)}{φ : Nat→Int}(r:List Int)(h:Sp R φ):Sp (r :: R) φ:=by
 obtain ⟨g,d,hg,ld,m⟩:=h;refine ⟨g,0 :: d,hg,by rw [List.length_cons,List.length_cons,ld],fun q=>?_⟩;show _=0*pt r q+dot d R q;rw [Int.zero_mul,Int.zero_add];exact m q
theorem Sp.mem:∀{R:List (List Int)} {r:List Int},r∈R→Sp R (pt r)
 | s :: R,r,h=>by
  rcases List.mem_cons.mp h with rfl | h
  ·refine ⟨1,1 :: List.replicate R.length 0,by decide,by simp,fun q=>?_⟩;show 1*pt r q=1*pt r q+dot (List.replicate R.length 0) R q;rw [dot_zero fun c hc=>(List.mem_replicate.mp hc).2,Int.add_zero]
  ·exact (Sp.mem h).cons s
theorem Sp.dots{G:List (List Int)}:∀(d:List Int) (R:List (List Int)),(∀r∈R,Sp G (pt r))→Sp G (dot d R)
 | [],R,_=>(Sp.zero G).of fun q=>by cases R <;> rfl
 | _ :: _,[],_=>(Sp.zero G).of fun q=>rfl
 | a :: d,r :: R,h=>(((h r List.mem_cons_self).smul a).add (Sp.dots d R fun s hs=>h s (List.mem_cons_of_mem _ hs))).of fun _=>rfl
theorem Sp.trans{R G:List (List Int)}{φ : Nat→Int}(h:Sp R φ)(k:∀r∈R,Sp G (pt r)):Sp G φ:=by
 obtain ⟨g,d,hg,ld,m⟩:=h;exact (Sp.dots d R k).div hg m
theorem Sp.sub{R:List (List Int)}{φ ψ : Nat→Int}(h:Sp R φ)(k:Sp R ψ):Sp R fun q=>φ q - ψ q:=(h.add (k.smul (-1))).of fun q=>by omega
theorem sp_of{G:List (List Int)}{x:List Int}(f:Free G)(n : ¬ Free (G++[x])):Sp G (pt x):=by
 apply Classical.byContradiction;intro no;refine n fun a la ha=>?_
 obtain ⟨b,c,rfl,lb,lc⟩:=split_len la
 obtain ⟨y,rfl⟩:∃y,c=[y]:=by
  match c,lc with
  | [y],_=>exact ⟨y,rfl⟩
 have h0:∀p,dot b G p+y*pt x p=0:=fun p=>by
  have:=ha p
  rw [dot_app _ _ _ lb] at this;have e:dot [y] [x] p=y*pt x p:=by show y*pt x p+0=_;rw [Int.add_zero]
  rw [e] at this;exact this
 have hy:y=0:=Classical.byContradiction fun q=>no ⟨y,b.map fun z=>(-1)*z,q,by rw [List.length_map];exact lb,fun p=>by rw [dot_smul];have:=h0 p;omega⟩
 subst hy;have hb:=f b lb fun p=>by have:=h0 p;rw [Int.zero_mul,Int.add_zero] at this;exact this
 intro z hz;rcases List.mem_append.mp hz with q | q
 ·exact hb z q
 ·exact List.mem_singleton.mp q
theorem same_many{A B:List (List Int)}(fa:Free A)(fb:Free B)(h:∀a∈A,Sp B (pt a))(k:∀b∈B,Sp A (pt b)):A.length=B.length:=Nat.le_antisymm (steinitz fa h) (steinitz fb k)
theorem grd_free{R:List (List Int)}:∀i,Free (Sf.rowsOf R (Sf.grd R i))
 | 0=>fun a la _ c hc=>by
  have:a=[]:=List.eq_nil_of_length_eq_zero (by rw [la];rfl)
  rw [this] at hc;cases hc
 | i+1=>by
  by_cases h:Free (Sf.rowsOf R (Sf.grd R i)++[R.getD i []])
  ·rw [Sf.grd_yes rfl h];unfold Sf.rowsOf at h ⊢;rw [List.map_append];exact h
  ·rw [Sf.grd_no rfl h];exact grd_free i
theorem Sp.app{R S:List (List Int)}{φ : Nat→Int}(h:Sp R φ):Sp (R++S) φ:=h.trans fun r hr=>Sp.mem (List.mem_append_left _ hr)
theorem grd_sp{R:List (List Int)}:∀(i j:Nat),j < i→Sp (Sf.rowsOf R (Sf.grd R i)) (pt (R.getD j []))
 | 0,j,h=>absurd h (Nat.not_lt_zero _)
 | i+1,j,hj=>by
  by_cases h:Free (Sf.rowsOf R (Sf.grd R i)++[R.getD i []])
  ·have e:Sf.rowsOf R (Sf.grd R (i+1))=Sf.rowsOf R (Sf.grd R i)++[R.getD i []]:=by
    rw [Sf.grd_yes rfl h];unfold Sf.rowsOf;rw [List.map_append];rfl
   rw [e];by_cases q:j < i
   ·exact (grd_sp i j q).app
   ·have:j=i:=by omega
    subst this;exact Sp.mem (List.mem_append_right _ (List.mem_singleton.mpr rfl))
  ·have e:Sf.rowsOf R (Sf.grd R (i+1))=Sf.rowsOf R (Sf.grd R i):=by rw [Sf.grd_no rfl h]
   rw [e];by_cases q:j < i
   ·exact grd_sp i j q
   ·have:j=i:=by omega
    subst this;exact sp_of (grd_free j) h
end Rk
namespace Lk
open Rk Sf Ti Lo
theorem pt_app(a b:List Int)(q:Nat):pt (a++b) q=if q < a.length then pt a q else pt b (q - a.length):=by
 unfold pt;rw [List.getD_eq_getElem?_getD,List.getElem?_append];split
 ·rw [List.getD_eq_getElem?_getD]
 ·rw [List.getD_eq_getElem?_getD]
theorem pt_end{a:List Int}{q:Nat}(h:a.length≤q):pt a q=0:=by
 unfold pt;rw [List.getD_eq_getElem?_getD,List.getElem?_eq_none h];rfl
theorem dot_nul{p:Nat}:∀(b:List Int) (R:List (List Int)),(∀r∈R,pt r p=0)→dot b R p=0
 | [],R,_=>by cases R <;> rfl
 | _ :: _,[],_=>rfl
 | x :: b,r :: R,h=>by
  show x*pt r p+dot b R p=0;rw [h r List.mem_cons_self,Int.mul_zero,dot_nul b R fun s hs=>h s (List.mem_cons_of_mem _ hs)];rfl
theorem marks_free{g:Nat→List Int}{pos:Nat→Nat}:∀(V:List Nat) (b:List Int),V.Nodup→b.length=V.length→(∀u∈V,∀v∈V,pt (g v) (pos u)=if v=u then 1 else 0)→(∀u∈V,dot b (V.map g) (pos u)=0)→∀c∈b,c=0
 | [],b,_,lb,_,_,c,hc=>by
  have:b=[]:=List.eq_nil_of_length_eq_zero lb
  rw [this] at hc;cases hc
 | v :: V,[],_,lb,_,_,_,_=>by simp at lb
 | v :: V,x :: b,nd,lb,hp,h0,c,hc=>by
  obtain ⟨nv,nd'⟩:=List.nodup_cons.mp nd
  have z:dot b (V.map g) (pos v)=0:=dot_nul b _ fun r hr=>by
   obtain ⟨u,hu,rfl⟩:=List.mem_map.mp hr;rw [hp v List.mem_cons_self u (List.mem_cons_of_mem _ hu),if_neg fun e:u=v=>nv (e ▸ hu)]
  have hx:x=0:=by
   have:=h0 v List.mem_cons_self
   rw [show dot (x :: b) ((v :: V).map g) (pos v)=x*pt (g v) (pos v)+dot b (V.map g) (pos v) from rfl,z,hp v List.mem_cons_self v List.mem_cons_self,if_pos rfl] at this;omega
  rcases List.mem_cons.mp hc with rfl | hc
  ·exact hx
  ·refine marks_free V b nd' (by simpa using lb) (fun u hu w hw=>hp u (List.mem_cons_of_mem _ hu) w (List.mem_cons_of_mem _ hw)) (fun u hu=>?_) c hc
   have:=h0 u (List.mem_cons_of_mem _ hu)
   rw [show dot (x :: b) ((v :: V).map g) (pos u)=x*pt (g v) (pos u)+dot b (V.map g) (pos u) from rfl,hx,Int.zero_mul,Int.zero_add] at this;exact this
theorem grd_lt{R:List (List Int)}:∀{k i:Nat},i∈grd R k→i < k
 | 0,i,h=>by
  have:grd R 0=[]:=rfl
  rw [this] at h;cases h
 | k+1,i,h=>by
  by_cases f:Free (rowsOf R (grd R k)++[R.getD k []])
  ·rw [grd_yes rfl f] at h;rcases List.mem_append.mp h with q | q
   ·have:=grd_lt q
    omega
   ·rw [List.mem_singleton.mp q];omega
  ·rw [grd_no rfl f] at h
   have:=grd_lt h
   omega
theorem rows_mem{R:List (List Int)}{k:Nat}{r:List Int}(h:r∈rowsOf R (grd R k)):∃i,i < k∧r=R.getD i []:=by
 obtain ⟨i,hi,rfl⟩:=List.mem_map.mp h;exact ⟨i,grd_lt hi,rfl⟩
def reps(f:List Nat):List Nat:=(List.range f.length).filter fun v=>at_ f v=v
def mk(Y:Nat→List Int)(f:List Nat)(h:Nat):List Int:=Y h++(reps f).map fun v=>if at_ f h=v then 1 else 0
theorem reps_nd(f:List Nat):(reps f).Nodup:=List.Pairwise.filter _ List.nodup_range
theorem mem_reps{f:List Nat}{v:Nat}:v∈reps f↔v < f.length∧at_ f v=v:=by
 unfold reps;rw [List.mem_filter,List.mem_range,decide_eq_true_iff]
theorem pt_mk{Y:Nat→List Int}{f:List Nat}{w h q:Nat}(hY:(Y h).length=w):pt (mk Y f h) q=pt (Y h) q+(if q < w then 0 else pt ((reps f).map fun v=>if at_ f h=v then 1 else 0) (q - w)):=by
 unfold mk;rw [pt_app,hY];split
 ·rw [Int.add_zero]
 ·rw [pt_end (a:=Y h) (by omega),Int.zero_add]
theorem mk_diff{Y:Nat→List Int}{f:List Nat}{w h k:Nat}(hh:(Y h).length=w)(hk:(Y k).length=w)(e:at_ f h=at_ f k)(q:Nat):pt (mk Y f k) q - pt (mk Y f h) q=pt (Y k) q - pt (Y h) q:=by
 rw [pt_mk hh,pt_mk hk,e];omega
theorem lack_rank{n w:Nat}{Y:Nat→List Int}{es:List (Nat×Nat)}{f:List Nat}(F:FI n es es f)(lf:f.length=n)(ok:EOk n es)(hY:∀h,h < n→(Y h).length=w){C:List (List Int)}(lC:C.length=es.length)(wC:Wide w C)
  (hC:∀i e,es[i]? = some e→∀q,pt (C.getD i []) q=pt (Y e.2) q - pt (Y e.1) q) :
  (grd ((List.range n).map (mk Y f)) n).length=(reps f).length+(grd C C.length).length:=by
 have tied:∀{i j:Nat},i < n→j < n→(at_ f i=at_ f j↔Rch (both es) i j):=fun hi hj=>F.tied hi hj
 have row:∀{h:Nat},h < n→((List.range n).map (mk Y f)).getD h []=mk Y f h:=fun hh=>by
  rw [List.getD_eq_getElem?_getD,List.getElem?_map,List.getElem?_range hh];rfl
 have edge:∀{i:Nat},i < C.length→∃e,es[i]? = some e∧e.1 < n∧e.2 < n∧at_ f e.1=at_ f e.2∧∀q,pt (C.getD i []) q=pt (mk Y f e.2) q - pt (mk Y f e.1) q:=by
  intro i hi;have hi':i < es.length:=by omega
  refine ⟨es[i],List.getElem?_eq_getElem hi',?_⟩;have m:=List.getElem_mem hi';have o:=ok _ m;have t:at_ f es[i].1=at_ f es[i].2:=(tied o.1 o.2).mpr (.step .refl (List.mem_append_left _ m));exact ⟨o.1,o.2,t,fun q=>by rw [hC i _ (List.getElem?_eq_getElem hi') q,mk_diff (hY _ o.1) (hY _ o.2) t]⟩
 generalize hG:rowsOf C (grd C C.length)=Gc;have fG:Free Gc:=hG ▸ grd_free _;have lG:Gc.length=(grd C C.length).length:=by rw [← hG];unfold rowsOf;rw [List.length_map]
 have inG:∀{i:Nat},i < C.length→Sp Gc (pt (C.getD i [])):=fun hi=>hG ▸ grd_sp C.length _ hi
 have wG:∀r∈Gc,r.length=w:=fun r hr=>by
  rw [← hG] at hr;obtain ⟨i,hi,rfl⟩:=rows_mem hr;refine wC _ (List.mem_of_getElem? (i:=i) ?_);rw [List.getD_eq_getElem?_getD,List.getElem?_eq_getElem hi];rfl
 have fB:Free ((reps f).map (mk Y f)++Gc):=by
  intro a la ha;obtain ⟨b,c,rfl,lb,lc⟩:=split_len la;have lbV:b.length=(reps f).length:=by rw [lb,List.length_map]
  obtain ⟨ps,hps⟩:∃ps:Nat→Nat,∀u∈reps f,(reps f)[ps u]? = some u:=by
   refine ⟨fun u=>if h:u∈reps f then Classical.choose (List.getElem?_of_mem h) else 0,fun u hu=>?_⟩;show (reps f)[dite (u∈reps f) (fun h=>Classical.choose (List.getElem?_of_mem h)) (fun _=>0)]? = some u;rw [dif_pos hu];exact Classical.choose_spec (List.getElem?_of_mem hu)
  have hb:∀x∈b,x=0:=by
   refine marks_free (g:=mk Y f) (pos:=fun u=>w+ps u) (reps f) b (reps_nd f) lbV (fun u hu v hv=>?_) (fun u hu=>?_)
   ·obtain ⟨v1,v2⟩:=mem_reps.mp hv;rw [pt_mk (hY v (by omega)),pt_end (a:=Y v) (by rw [hY v (by omega)];omega),Int.zero_add,if_neg (by omega),Nat.add_sub_cancel_left];unfold pt;rw [List.getD_eq_getElem?_getD,List.getElem?_map,hps u hu,v2];rfl
   ·have:=ha (w+ps u)
    rw [dot_app _ _ _ lb,dot_nul c Gc fun r hr=>pt_end (by rw [wG r hr];omega),Int.add_zero] at this;exact this
  have hc:=fG c lc fun p=>by
   have:=ha p
   rw [dot_app _ _ _ lb,dot_zero hb,Int.zero_add] at this;exact this
  intro x hx;rcases List.mem_append.mp hx with q | q
  ·exact hb x q
  ·exact hc x q
 have inB:∀{i:Nat},i < C.length→Sp ((reps f).map (mk Y f)++Gc) (pt (C.getD i [])):=fun hi=>(inG hi).trans fun r hr=>Sp.mem (List.mem_append_right _ hr)
 have path:∀{v h:Nat},v∈reps f→Rch (both es) v h→Sp ((reps f).map (mk Y f)++Gc) (pt (mk Y f h)):=by
  intro v h hv r
  induction r with
  | refl=>exact Sp.mem (List.mem_append_left _ (List.mem_map.mpr ⟨v,hv,rfl⟩))
  | @step x y r m ih =>
   rcases List.mem_append.mp m with m | m
   ·obtain ⟨i,hi⟩:=List.getElem?_of_mem m;have li:i < C.length:=by rw [lC];exact (List.getElem?_eq_some_iff.mp hi).1
    obtain ⟨e,ee,_,_,_,d⟩:=edge li;rw [hi] at ee;cases Option.some.inj ee;exact (ih.add (inB li)).of fun q=>by have:=d q;simp only at this;omega
   ·obtain ⟨e',me,ee'⟩:=List.mem_map.mp m;obtain ⟨i,hi⟩:=List.getElem?_of_mem me;have li:i < C.length:=by rw [lC];exact (List.getElem?_eq_some_iff.mp hi).1
    obtain ⟨e,ee,_,_,_,d⟩:=edge li;rw [hi] at ee;cases Option.some.inj ee;have e1:e'.2=x:=congrArg Prod.fst ee';have e2:e'.1=y:=congrArg Prod.snd ee';exact (ih.sub (inB li)).of fun q=>by have:=d q;rw [e1,e2] at this;omega
 have all:∀h,h < n→Sp ((reps f).map (mk Y f)++Gc) (pt (mk Y f h)):=fun h hh=>by
  have l1:=F.le h hh;exact path (v:=at_ f h) (mem_reps.mpr ⟨by omega,F.fix h hh⟩) (both_rev (F.tie h hh))
 have e:=same_many (A:=rowsOf ((List.range n).map (mk Y f)) (grd ((List.range n).map (mk Y f)) n)) (B:=(reps f).map (mk Y f)++Gc) (grd_free _) fB (fun a ha=>by
  obtain ⟨i,hi,rfl⟩:=rows_mem ha
  rw [row hi]
  exact all i hi) fun b hb=>by
   have rowSp:∀h,h < n→Sp (rowsOf ((List.range n).map (mk Y f)) (grd ((List.range n).map (mk Y f)) n)) (pt (mk Y f h)):=fun h hh=>by
    have:=grd_sp (R:=(List.range n).map (mk Y f)) n h hh
    rw [row hh] at this;exact this
   rcases List.mem_append.mp hb with q | q
   ·obtain ⟨v,hv,rfl⟩:=List.mem_map.mp q;exact rowSp v (by have:=(mem_reps.mp hv).1;omega)
   ·rw [← hG] at q;obtain ⟨i,hi,rfl⟩:=rows_mem q;obtain ⟨e,_,l1,l2,_,d⟩:=edge hi;exact ((rowSp _ l2).sub (rowSp _ l1)).of d
 unfold rowsOf at e;rw [List.length_map,List.length_append,List.length_map,lG] at e;exact e
end Lk
namespace Mb
open Rk Sz Sf Cl Mk Bo
theorem dvd_gcdF{d:Int}:∀(r:List Int) (g:Int),d∣g→(∀x∈r,d∣x)→d∣r.foldl Gd.gd g
 | [],g,h,_=>h
 | y :: r,g,h,hr=>dvd_gcdF r (Gd.gd g y) (Int.dvd_coe_gcd h (hr y List.mem_cons_self)) fun x hx=>hr x (List.mem_cons_of_mem _ hx)
theorem dvd_all{g a:Int}{m:List Int}(h1:gcdL m=1)(h:∀x∈m,g∣a*x):g∣a:=by
 have d:=dvd_gcdF (m.map fun x=>a*x) (a*0) ⟨0,by simp⟩ fun x hx=>by
  obtain ⟨y,hy,rfl⟩:=List.mem_map.mp hx;exact h y hy
 rcases gcd_scale (g:=a) m 0 with e | ⟨e,_⟩
 ·rw [e] at d;unfold gcdL at h1;rw [h1,Int.mul_one] at d;exact Int.dvd_natAbs.mp d
 ·subst e;cases h1
theorem sm_dot{n:Nat}{x:Nat→Int}:∀(d:List Int) (S:List (List Int)),(∀r∈S,sm n (fun q=>pt r q*x q)=0)→sm n (fun q=>dot d S q*x q)=0
 | [],S,_=>by
  refine (sm_congr fun k _=>?_).trans (sm_zero (f:=fun _=>0) fun _ _=>rfl);cases S <;> exact Int.zero_mul _
 | _ :: _,[],_=>(sm_congr fun k _=>Int.zero_mul _).trans (sm_zero (f:=fun _=>0) fun _ _=>rfl)
 | c :: d,r :: S,h=>by
  have ih:=sm_dot d S fun s hs=>h s (List.mem_cons_of_mem _ hs)
  have e:sm n (fun q=>dot (c :: d) (r :: S) q*x q)=sm n (fun q=>c*(pt r q*x q))+sm n (fun q=>dot d S q*x q):=by
   rw [← Bo.sm_add];refine sm_congr fun q _=>?_
   show (c*pt r q+dot d S q)*x q=_;rw [Int.add_mul,Int.mul_assoc]
  rw [e,ih,sm_mul,h r List.mem_cons_self];simp
theorem smN_sm{R:List (List Int)}{y:List Int}{q:Nat}:∀t,smN R y q t=sm t fun j=>pt (R.getD j []) q*pt y j
 | 0=>rfl
 | t+1=>by
  show smN R y q t+pt y t*pt (R.getD t []) q=sm t (fun j=>pt (R.getD j []) q*pt y j)+pt (R.getD t []) q*pt y t;rw [smN_sm t,Int.mul_comm]
theorem pt_mapr{n j:Nat}{x:Nat→Int}(h:j < n):pt ((List.range n).map x) j=x j:=by
 unfold pt;rw [List.getD_eq_getElem?_getD,List.getElem?_map,List.getElem?_range h];rfl
theorem pt_colG{R:List (List Int)}{k q:Nat}(h:q < R.length):pt (col R k) q=pt (R.getD q []) k:=by
 rw [pt_col,List.getD_eq_getElem?_getD,List.getElem?_eq_getElem h];rfl
theorem small{R:List (List Int)}{w k:Nat}(hw:Wide w R)(br:Bnd 2 R)(hk:R.length=k+1)(nf : ¬ Free R) :
  ∃x:List Int,x.length=R.length∧(∃j,pt x j≠0)∧(∀j,(pt x j).natAbs≤(2*((k+1)*3)) ^ k)∧∀q,dot x R q=0:=by
 have lc:(grd (cols w R) w).length≤k:=by
  rw [← size_cols hw];have s:=size_free hw
  have:size w R≠R.length:=fun e=>nf (s.1.mp e)
  omega
 have sb:∀i j,-((3:Nat):Int)≤pt ((rowsOf (cols w R) (grd (cols w R) w)).getD i []) j∧pt ((rowsOf (cols w R) (grd (cols w R) w)).getD i []) j≤((3:Nat):Int):=by
  intro i j
  have h0:∀r∈rowsOf (cols w R) (grd (cols w R) w),∀j,(pt r j).natAbs < 2 ^ 2:=fun r hr j=>by
   obtain ⟨g,hg,rfl⟩:=Lk.rows_mem hr;refine pt_bnd (cols_bnd (w:=w) br _ (List.mem_of_getElem? (i:=g) ?_)) j;rw [List.getD_eq_getElem?_getD,List.getElem?_eq_getElem (by rw [cols_len];exact hg)];rfl
  by_cases hi:i < (rowsOf (cols w R) (grd (cols w R) w)).length
  ·have:=h0 _ (List.getElem_mem hi) j
   rw [List.getD_eq_getElem?_getD,List.getElem?_eq_getElem hi,Option.getD_some];omega
  ·rw [List.getD_eq_getElem?_getD,List.getElem?_eq_none (by omega),Option.getD_none,pt_out (Nat.zero_le _)];exact ⟨by decide,by decide⟩
 obtain ⟨x,⟨j0,hj0,nx⟩,bx,ex⟩:=siegel (k:=k) (M:=3) (A:=fun i j=>pt ((rowsOf (cols w R) (grd (cols w R) w)).getD i []) j) (by decide) fun i _ j _=>sb i j
 refine ⟨(List.range (k+1)).map x,by rw [List.length_map,List.length_range,hk],⟨j0,by rw [pt_mapr hj0];exact nx⟩,fun j=>?_,fun q=>?_⟩
 ·by_cases hj:j < k+1
  ·rw [pt_mapr hj]
   have:=bx j
   omega
  ·rw [pt_out (by rw [List.length_map,List.length_range];omega)];exact Nat.zero_le _
 ·by_cases hq:q < w
  ·obtain ⟨g,d,hg,_,eg⟩:=grd_sp (R:=cols w R) w q hq
   have base:∀r∈rowsOf (cols w R) (grd (cols w R) w),sm (k+1) (fun q=>pt r q*x q)=0:=fun r hr=>by
    obtain ⟨i,hi,rfl⟩:=List.getElem_of_mem hr
    have hi':i < k:=by
     have:(rowsOf (cols w R) (grd (cols w R) w)).length=(grd (cols w R) w).length:=by unfold rowsOf;rw [List.length_map]
     omega
    have:=ex i hi'
    simp only [List.getD_eq_getElem?_getD,List.getElem?_eq_getElem hi,Option.getD_some] at this;exact this
   have z:=sm_dot d _ base
   have e:sm (k+1) (fun q'=>dot d (rowsOf (cols w R) (grd (cols w R) w)) q'*x q')=g*dot ((List.range (k+1)).map x) R q:=by
    rw [← smN_dot,smN_sm,← sm_mul,hk];refine sm_congr fun j hj=>?_
    rw [← eg j,pt_mapr hj,show (cols w R).getD q []=col R q by unfold cols;rw [List.getD_eq_getElem?_getD,List.getElem?_map,List.getElem?_range hq];rfl,pt_colG (by omega),Int.mul_assoc]
   rw [e] at z;exact (Int.mul_eq_zero.mp z).resolve_left hg
  ·exact dot_wide hw (by omega)
structure Of (R:List (List Int)) (m:List Int) (k:Nat):Prop where
 lt:k < R.length
 no : ¬ Free (rowsOf R (grd R k)++[R.getD k []])
 own:pt m k≠0
 out:∀j,j∉grd R k→j≠k→pt m j=0
theorem out_lowR{r:List Int}{q:Nat}(h:pt r q=0):pt (lowR r) q=0:=by
 obtain ⟨g,hg,eg⟩:=lowR_made r
 have:=eg q
 rw [h] at this;exact (Int.mul_eq_zero.mp this).resolve_left hg
theorem out_clrd{L q:Nat}:∀(S:List (List Int)) (y:List Int),(∀s∈S,s.length=L∧pt s q=0)→y.length=L→pt y q=0→pt (clearedR y S) q=0
 | [],y,_,_,h=>h
 | s :: S,y,hS,ly,h=>by
  obtain ⟨ls,hs⟩:=hS s List.mem_cons_self;have e:y.length=s.length:=by omega
  refine out_clrd S (stp y s) (fun t ht=>hS t (List.mem_cons_of_mem _ ht)) ?_ ?_
  ·unfold stp;rw [lowR_len,clr_len e,ls]
  ·unfold stp;exact out_lowR (by rw [pt_clr e,h,hs];simp)
theorem of_at{R:List (List Int)}{w b:Nat}(hw:Wide w R)(hb:1≤b)(br:Bnd b R):∀i,i≤R.length→(∀s∈(sAt R i).stairs,∀j,j∉grd R i→pt s (w+j)=0)∧∀m∈(sAt R i).makers,∃k,Of R m k
 | 0,_=>⟨(fun s hs=>by cases hs),fun m hm=>by cases hm⟩
 | i+1,h=>by
  obtain ⟨ih1,ih2⟩:=of_at hw hb br i (by omega);have I:=si_at hw hb br i (by omega);have hi:i < R.length:=by omega
  have hr:R[i]? = some (R.getD i []):=by rw [List.getD_eq_getElem?_getD,List.getElem?_eq_getElem hi];rfl
  have mr:=List.mem_of_getElem? hr;have lr:=hw _ mr;have at_i:=own_ne I hb hi lr (br _ mr);obtain ⟨Y,_⟩:=ri_of I hb hi lr (br _ mr);have lx:(R.getD i []++ownR R.length i).length=w+R.length:=by unfold ownR;rw [List.length_append,List.length_map,List.length_range,lr]
  have rest:∀j,j∉grd R i→j≠i→pt (restR R.length (sAt R i) i (R.getD i [])) (w+j)=0:=fun j hj ne=>by
   refine out_clrd _ _ (fun s hs=>⟨I.len s hs,ih1 s hs j hj⟩) lx ?_;rw [own_at lr,if_neg fun z=>ne z.2]
  have hf:=Y.free;generalize hR':restR R.length (sAt R i) i (R.getD i [])=z at Y rest at_i hf;obtain ⟨q,f1,f2⟩:=Y.ne;have st:(sAt R (i+1))=sStep R.length (sAt R i) i (R.getD i []):=rfl;rw [st];unfold sStep;rw [hR',f1,lr];show (∀s∈(if q < w then _ else _:St5).stairs,_)∧∀m∈(if q < w then _ else _:St5).makers,_;by_cases hq:q < w
  ·rw [if_pos hq];have g:=grd_yes (R:=R) (i:=i) rfl (hf.mpr ⟨q,f1,hq⟩);refine ⟨fun s hs j hj=>?_,ih2⟩;rw [g] at hj;have h1:j∉grd R i:=fun z=>hj (List.mem_append_left _ z)
   have h2:j≠i:=fun z=>hj (List.mem_append_right _ (List.mem_singleton.mpr z))
   rcases List.mem_append.mp hs with y | y
   ·exact ih1 s y j h1
   ·rw [List.mem_singleton.mp y];exact rest j h1 h2
  ·rw [if_neg hq]
   have nf : ¬ Free (rowsOf R (grd R i)++[R.getD i []]):=fun f=>by
    obtain ⟨q',e1,e2⟩:=hf.mp f;rw [f1] at e1;cases e1;exact hq e2
   have g:=grd_no (R:=R) (i:=i) rfl nf;rw [g];refine ⟨ih1,fun m hm=>?_⟩;rcases List.mem_append.mp hm with y | y
   ·exact ih2 m y
   ·rw [List.mem_singleton.mp y];refine ⟨i,hi,nf,fun z0=>at_i ?_,fun j h1 h2=>out_lowR (by rw [pt_drop];exact rest j h1 h2)⟩;obtain ⟨g0,hg0,eg⟩:=lowR_made (z.drop w)
    have:=eg i
    rw [z0,pt_drop,Int.mul_zero] at this;exact this.symm
theorem grd_len(R:List (List Int)):∀i,(grd R i).length≤i
 | 0=>Nat.le_refl _
 | i+1=>by
  have ih:=grd_len R i;by_cases g:Free (rowsOf R (grd R i)++[R.getD i []])
  ·rw [grd_yes rfl g,List.length_append];exact Nat.succ_le_succ ih
  ·rw [grd_no rfl g];omega
theorem pt_map{l:List Nat}{g:Nat→Int}{j i:Nat}(h:l[j]? = some i):pt (l.map g) j=g i:=by
 unfold pt;rw [List.getD_eq_getElem?_getD,List.getElem?_map,h];rfl
theorem pt_all0{a:List Int}(h:∀c∈a,c=0)(j:Nat):pt a j=0:=by
 unfold pt;rw [List.getD_eq_getElem?_getD];cases g:a[j]? with
 | none=>rfl
 | some c=>exact h c (List.mem_of_getElem? g)
theorem mk8{R:List (List Int)}{w:Nat}(hw:Wide w R)(br:Bnd 2 R)(h8:R.length≤8):∀m∈(sAt R R.length).makers,∀c∈m,c.natAbs < 2 ^ 40:=by
 have J:=mi_at hw (by decide) br R.length (Nat.le_refl _);intro m hm c hc;have G:=J.good m hm;obtain ⟨k,O⟩:=(of_at hw (by decide) br R.length (Nat.le_refl _)).2 m hm;have gl:=grd_len R k;have gk:=fun j (hj:j∈grd R k)=>Lk.grd_lt hj
 have kl:=O.lt;have lf:(rowsOf R (grd R k)).length=(grd R k).length:=by unfold rowsOf;rw [List.length_map]
 have lR:(rowsOf R (grd R k)++[R.getD k []]).length=(grd R k).length+1:=by rw [List.length_append,lf];rfl
 have inR:∀r∈rowsOf R (grd R k)++[R.getD k []],r∈R:=fun r hr=>by
  have at_:∀j,j < R.length→R.getD j []∈R:=fun j hj=>by rw [List.getD_eq_getElem?_getD,List.getElem?_eq_getElem hj];exact List.getElem_mem hj
  rcases List.mem_append.mp hr with y | y
  ·obtain ⟨i,hi,rfl⟩:=Lk.rows_mem y;exact at_ i (by omega)
  ·rw [List.mem_singleton.mp y];exact at_ k kl
 obtain ⟨x,lx,⟨j0,nj⟩,bx,ex⟩:=small (fun r hr=>hw r (inR r hr)) (fun r hr=>br r (inR r hr)) lR O.no;have fr:Free (rowsOf R (grd R k)):=Rk.grd_free k
 have em:∀q,dot ((grd R k).map (fun j=>pt m j)++[pt m k]) (rowsOf R (grd R k)++[R.getD k []]) q=0:=fun q=>by
  have z:=G.nought q;rw [← smN_dot,smN_zero (i:=k+1) (fun j hj=>O.out j (fun y=>by have:=gk j y;omega) (by omega)) R.length (by omega)] at z;rw [dot_app _ _ _ (by rw [List.length_map,lf]),← smN_grd k fun j hj hg=>?_]
  ·have z2:smN R m q k+pt m k*pt (R.getD k []) q=0:=z;show smN R m q k+(pt m k*pt (R.getD k []) q+0)=0;omega
  ·refine O.out j (fun y=>hg ?_) (by omega)
   have up:∀d,j∈grd R (j+1+d)→j∈grd R (j+1):=by
    intro d
    induction d with
    | zero=>exact id
    | succ d ih =>
     intro y;refine ih ?_;by_cases g:Free (rowsOf R (grd R (j+1+d))++[R.getD (j+1+d) []])
     ·have e:=grd_yes rfl g;rw [show j+1+(d+1)=j+1+d+1 by omega,e] at y;rcases List.mem_append.mp y with y | y
      ·exact y
      ·have:=List.mem_singleton.mp y
       omega
     ·have e:=grd_no rfl g;rw [show j+1+(d+1)=j+1+d+1 by omega,e] at y;exact y
   exact up (k - (j+1)) (by rw [show j+1+(k - (j+1))=k by omega];exact y)
 obtain ⟨x1,x2,rfl,lx1,lx2⟩:=split_len lx
 obtain ⟨t,rfl⟩:∃t,x2=[t]:=by
  match x2,lx2 with
  | [t],_=>exact ⟨t,rfl⟩
 have lx1':x1.length=(grd R k).length:=by rw [lx1,lf]
 have key:∀j,pt m k*pt x1 j=t*pt ((grd R k).map fun j=>pt m j) j:=by
  have z:=fr (cmb (pt m k) (-t) x1 ((grd R k).map fun j=>pt m j)) (by unfold cmb;rw [List.length_map,List.length_range,List.length_map,lf,lx1'];omega) fun q=>by
   rw [dot_cmb];have a1:=ex q;have a2:=em q;rw [dot_app _ _ _ lx1] at a1;rw [dot_app _ _ _ (by rw [List.length_map,lf])] at a2;have a3:dot x1 (rowsOf R (grd R k)) q+(t*pt (R.getD k []) q+0)=0:=a1;have a4:dot ((grd R k).map fun j=>pt m j) (rowsOf R (grd R k)) q+(pt m k*pt (R.getD k []) q+0)=0:=a2;rw [show dot x1 (rowsOf R (grd R k)) q = -(t*pt (R.getD k []) q) by omega,show dot ((grd R k).map fun j=>pt m j) (rowsOf R (grd R k)) q = -(pt m k*pt (R.getD k []) q) by omega,Int.mul_neg,Int.neg_mul,Int.mul_neg,Int.mul_left_comm (pt m k)];omega
  intro j;have e:=pt_cmb (pt m k) (-t) x1 ((grd R k).map fun j=>pt m j) j
  have z0:pt (cmb (pt m k) (-t) x1 ((grd R k).map fun j=>pt m j)) j=0:=by
   exact pt_all0 z j
  rw [z0,Int.neg_mul] at e;omega
 have t0:t≠0:=fun z=>nj (by
  rw [Lk.pt_app]
  split
  ·have:=key j0
   rw [z,Int.zero_mul] at this
   exact (Int.mul_eq_zero.mp this).resolve_left O.own
  ·unfold pt
   rw [List.getD_eq_getElem?_getD]
   cases g:([t]:List Int)[j0 - x1.length]? with
   | none=>rfl
   | some c=>rw [List.mem_singleton.mp (List.mem_of_getElem? g),z];rfl)
 have some_:∀i,i∈grd R k→∃j,pt ((grd R k).map fun j=>pt m j) j=pt m i∧pt x1 j=pt (x1++[t]) j:=fun i hi=>by
  obtain ⟨j,hj⟩:=List.getElem?_of_mem hi;have lj:=(List.getElem?_eq_some_iff.mp hj).1;exact ⟨j,pt_map hj,by rw [Lk.pt_app,if_pos (by omega)]⟩
 obtain ⟨γ,hγ⟩:pt m k∣t:=dvd_all G.low fun y hy=>by
  obtain ⟨q,hq,rfl⟩:=List.getElem_of_mem hy;have e1:m[q]=pt m q:=by unfold pt;rw [List.getD_eq_getElem?_getD,List.getElem?_eq_getElem hq];rfl
  rw [e1];by_cases h1:q∈grd R k
  ·obtain ⟨j,ej,_⟩:=some_ q h1;exact ⟨pt x1 j,by rw [← ej,key j]⟩
  ·by_cases h2:q=k
   ·rw [h2];exact ⟨t,Int.mul_comm ..⟩
   ·rw [O.out q h1 h2,Int.mul_zero];exact ⟨0,by simp⟩
 have γ0 : γ≠0:=fun z=>t0 (by rw [hγ,z,Int.mul_zero])
 have le:∀y x:Int,γ * y=x→x.natAbs≤(2*(((grd R k).length+1)*3)) ^ (grd R k).length→y.natAbs < 2 ^ 40:=fun y x e b=>by
  have e2:=congrArg Int.natAbs e;rw [Int.natAbs_mul] at e2;have h1:y.natAbs≤γ.natAbs*y.natAbs:=Nat.le_mul_of_pos_left _ (by omega);have h2:(2*(((grd R k).length+1)*3)) ^ (grd R k).length≤48 ^ (grd R k).length:=Nat.pow_le_pow_left (by omega) _;have h3:48 ^ (grd R k).length≤48 ^ 7:=Nat.pow_le_pow_right (by decide) (by omega);have h4:48 ^ 7 < 2 ^ 40:=by decide
  omega
 obtain ⟨q,hq,rfl⟩:=List.getElem_of_mem hc;have e1:m[q]=pt m q:=by unfold pt;rw [List.getD_eq_getElem?_getD,List.getElem?_eq_getElem hq];rfl
 rw [e1];by_cases h1:q∈grd R k
 ·obtain ⟨j,ej,ex1⟩:=some_ q h1;refine le _ (pt x1 j) ?_ (by rw [ex1];exact bx j)
  have:=key j
  rw [ej,hγ,Int.mul_assoc] at this;exact (Int.eq_of_mul_eq_mul_left O.own this).symm
 ·by_cases h2:q=k
  ·rw [h2];refine le _ t (by rw [hγ,Int.mul_comm]) ?_
   have:=bx x1.length
   rw [Lk.pt_app,if_neg (by omega),Nat.sub_self] at this;exact this
  ·rw [O.out q h1 h2];decide
end Mb
namespace Mb
open Rk Sz Sf Cl Mk
theorem row_le{C:List (List Int)}{w:Nat}(hw:Wide w C):(grd C C.length).length≤size w C:=by
 have lG:(rowsOf C (grd C C.length)).length=(grd C C.length).length:=by unfold rowsOf;rw [List.length_map]
 have sub:∀r∈rowsOf C (grd C C.length),r∈C:=fun r hr=>by
  obtain ⟨i,hi,rfl⟩:=Lk.rows_mem hr;rw [List.getD_eq_getElem?_getD,List.getElem?_eq_getElem hi];exact List.getElem_mem hi
 have wG:Wide w (rowsOf C (grd C C.length)):=fun r hr=>hw r (sub r hr)
 have fG:Free (rowsOf C (grd C C.length)):=Rk.grd_free _;have e:=(size_free wG).1.mpr fG;rw [lG,size_cols wG] at e;generalize hP:grd (cols w (rowsOf C (grd C C.length))) w=P at e;have hp:∀p∈P,p < w:=fun p h=>by rw [← hP] at h;exact Lk.grd_lt h
 have f1:Free (rowsOf (cols w (rowsOf C (grd C C.length))) P):=hP ▸ Rk.grd_free _;have f2:Free (rowsOf (cols w C) P):=(free_cols hp).mpr fun a la ra=>(free_cols hp).mp f1 a la fun r hr=>ra r (sub r hr)
 have st:=steinitz f2 (R:=rowsOf (cols w C) (grd (cols w C) w)) fun s hs=>by
  obtain ⟨p,h,rfl⟩:=List.mem_map.mp hs;exact grd_sp w p (hp p h)
 rw [size_cols hw,← e];unfold rowsOf at st;rw [List.length_map,List.length_map] at st;exact st
theorem row_rank{C:List (List Int)}{w:Nat}(hw:Wide w C):size w C=(grd C C.length).length:=by
 refine Nat.le_antisymm ?_ (row_le hw);have h:=row_le (cols_wide w C);rw [cols_len,size_cols (cols_wide w C),cols_cols hw] at h;rw [size_cols hw];exact h
theorem dot_pl{q q':Nat}:∀(a:List Int) (f g:Nat→List Int) (G:List Nat),(∀i∈G,pt (f i) q=pt (g i) q')→dot a (G.map f) q=dot a (G.map g) q'
 | [],f,g,G,_=>by cases G <;> rfl
 | _ :: _,f,g,[],_=>rfl
 | x :: a,f,g,i :: G,h=>by
  show x*pt (f i) q+dot a (G.map f) q=x*pt (g i) q'+dot a (G.map g) q';rw [h i List.mem_cons_self,dot_pl a f g G fun j hj=>h j (List.mem_cons_of_mem _ hj)]
theorem free_pl{f g:Nat→List Int}{G:List Nat}(h:∀q,∃q',∀i∈G,pt (f i) q=pt (g i) q')(k:∀q,∃q',∀i∈G,pt (g i) q=pt (f i) q'):Free (G.map f)↔Free (G.map g):=by
 constructor
 ·intro F a la ha;refine F a (by rw [la,List.length_map,List.length_map]) fun q=>?_
  obtain ⟨q',e⟩:=h q;rw [dot_pl a f g G e];exact ha q'
 ·intro F a la ha;refine F a (by rw [la,List.length_map,List.length_map]) fun q=>?_
  obtain ⟨q',e⟩:=k q;rw [dot_pl a g f G e];exact ha q'
theorem grd_pl{R S:List (List Int)}{n:Nat}(h:∀q,∃q',∀i,i < n→pt (R.getD i []) q=pt (S.getD i []) q')(k:∀q,∃q',∀i,i < n→pt (S.getD i []) q=pt (R.getD i []) q'):∀i,i≤n→grd R i=grd S i
 | 0,_=>rfl
 | i+1,hi=>by
  have ih:=grd_pl h k i (by omega)
  have e:Free (rowsOf R (grd R i)++[R.getD i []])↔Free (rowsOf S (grd S i)++[S.getD i []]):=by
   rw [ih]
   have lt:∀j∈grd S i++[i],j < n:=fun j hj=>by
    rcases List.mem_append.mp hj with y | y
    ·have:=Lk.grd_lt y;omega
    ·have:=List.mem_singleton.mp y;omega
   have c1:∀T:List (List Int),rowsOf T (grd S i)++[T.getD i []]=(grd S i++[i]).map fun j=>T.getD j []:=fun T=>by unfold rowsOf;rw [List.map_append];rfl
   rw [c1 R,c1 S];exact free_pl (fun q=>(h q).imp fun q' z j hj=>z j (lt j hj)) fun q=>(k q).imp fun q' z j hj=>z j (lt j hj)
  by_cases f:Free (rowsOf R (grd R i)++[R.getD i []])
  ·rw [grd_yes rfl f,grd_yes rfl (e.mp f),ih]
  ·rw [grd_no rfl f,grd_no rfl fun z=>f (e.mpr z),ih]
end Mb
namespace Lc
open PySem L2 Fr G1 Sm Vs G2 Rk Sz Sf Rw Ti Lo
open PySem.W (Dat kqdOk)
def mrk(n:Nat)(M:List (List Int)):List Int:=M.map fun l=>if (n:Int)∈l then 1 else 0
def spMarks(K:Fg):Sp:=fun vs H Q _=>∃(n:Nat) (u:V) (M:List (List Int)),vs=[.int (n:Int),u]∧Rp K (fun _=>True) H u (dM M)∧M.length≤100∧∀(p:Addr) (H':Hp),AccZ K H p H' ((mrk n M).map Dat.int)→Q (.ref p) H'
theorem len_marks{K:Fg}{vs:List V}{H:Hp}{Q:VK}{E:XK}{x y:Str}(h:spMarks K vs H Q E):vs.length=[x,y].length:=by
 obtain ⟨a,b,c,rfl,_⟩:=h;rfl
def t_marks(K:Fg):TS:=(tRet (tComp (iList K (tVar 1)) (tIf (tTest (tOp (rInD K false) (tVar 1) (tVar 0))) (tC (.int 1)) (tC (.int 0)))))
theorem mem_ints{n:Int}{l:List Int}:Dat.int n∈l.map Dat.int↔n∈l:=by
 constructor
 ·intro h;obtain ⟨x,hx,e⟩:=List.mem_map.mp h;cases e;exact hx
 ·exact fun h=>List.mem_map.mpr ⟨n,h,rfl⟩
theorem rd_marks{K:Fg}{vs:List V}{H:Hp}{Q:VK}{E:XK}{N:List Str}(hN:N.length=2)(h:spMarks K vs H Q E):t_marks K (ends Q) (L2.start N vs) H:=by
 obtain ⟨n,u,M,rfl,ru,hl,k⟩:=h;rw [show L2.start N [.int (n:Int),u]=[some (.int (n:Int)),some u] by unfold L2.start;rw [hN];rfl];obtain ⟨c,ys,rfl,_,hc,ry⟩:=Rp.lst_at ru;have ly:ys.length=M.length:=by rw [ry.length,List.length_map]
 have lm:(mrk n M).length=M.length:=by unfold mrk;rw [List.length_map]
 unfold t_marks;walk_at "rd";refine k_rlC (SqL.of hc) ?_;refine comp_list (xs:=ys) fun D nD=>⟨fun j H2=>AccZ K H D H2 (((mrk n M).take j).map Dat.int),by simpa using AccZ.start (Same.refl _) nD,fun j H2 _ A=>SqL.of (A.same _ _ hc),?_,?_⟩
 ·intro j x H2 hx A;have lj:=(List.getElem?_eq_some_iff.mp hx).1;obtain ⟨d,g1,g2⟩:=ry.get hx;rw [List.getElem?_map] at g1;obtain ⟨l,hl2,rfl⟩:=Option.map_eq_some_iff.mp g1;have ej:(mrk n M)[j]? = some (if (n:Int)∈l then 1 else 0):=by unfold mrk;rw [List.getElem?_map,hl2];rfl
  have r2:=g2.same A.same;walk_at "rd";refine k_inD (d:=Dat.int (n:Int)) (ds:=l.map Dat.int) (.int _) r2.rep (fun e he=>by obtain ⟨b,_,rfl⟩:=List.mem_map.mp he;rfl) rfl (fun z=>?_) (fun z=>?_)
  ·have z':=mem_ints.mp z;walk_at "rd";refine pushed lj ?_;refine A.pushK (.int 1) (small1000 (by rw [List.length_map,List.length_take];omega)) fun H5 A5=>?_
   show AccZ K H D H5 (((mrk n M).take (j+1)).map Dat.int);rw [List.take_add_one,ej,List.map_append,if_pos z'];exact A5
  ·have z' : ¬ (n:Int)∈l:=fun y=>z (mem_ints.mpr y)
   walk_at "rd";refine pushed lj ?_;refine A.pushK (.int 0) (small1000 (by rw [List.length_map,List.length_take];omega)) fun H5 A5=>?_
   show AccZ K H D H5 (((mrk n M).take (j+1)).map Dat.int);rw [List.take_add_one,ej,List.map_append,if_neg z'];exact A5
 ·intro H2 A;rw [List.take_of_length_le (by omega)] at A;exact k D H2 A
def lackN(ts:List Tn):Int:=((hdd ts).length:Int) - (lotM ts).length - (sft (ts.map chg)).free.length
def spLack(K:Fg):Sp:=fun vs H Q _=>∃(v:V) (ws:List Str) (ts:List Tn) (w:Nat),vs=[v]∧Rz K H v (dV ws ts)∧ChOk w ts∧(hdd ts).length≤8∧∀H',Same H H'→Q (.int (lackN ts)) H'
theorem len_lack{K:Fg}{vs:List V}{H:Hp}{Q:VK}{E:XK}{x:Str}(h:spLack K vs H Q E):vs.length=[x].length:=by
 obtain ⟨a,b,c,d,rfl,_⟩:=h;rfl
def t_lack(K:Fg):TS:=(tRet (tOp qSub (tOp qSub (tCB (rLenQ K) (tCons (tCall (spHeaps K) [] E0 (tCons (tVar 0) tNil)) tNil)) (tCB (rLenQ K) (tCons (tCall (spLots K) [] E0 (tCons (tVar 0) tNil)) tNil))) (tCB (rLenQ K) (tCons (tCall (spFreeV K) [] E0 (tCons (tVar 0) tNil)) tNil))))
theorem rd_lack{K:Fg}{vs:List V}{H:Hp}{Q:VK}{E:XK}{N:List Str}(hN:N.length=1)(h:spLack K vs H Q E):t_lack K (ends Q) (L2.start N vs) H:=by
 obtain ⟨v,ws,ts,w,rfl,rv,co,h8,k⟩:=h;rw [show L2.start N [v]=[some v] by unfold L2.start;rw [hN];rfl];unfold t_lack;have t8:=co.le;walk_at "rd";refine ⟨v,ws,ts,rfl,rv,by omega,fun p1 H1 A1=>?_⟩;obtain ⟨xs,hp1,rx⟩:=A1.at_;have lx:xs.length=(hdd ts).length:=by rw [rx.length,List.length_map]
 walk_at "rd";refine k_lenL (SqL.of hp1) ?_;rw [lx];walk_at "rd";refine ⟨v,ws,ts,rfl,rv.same A1.same,t8,h8,fun p2 H2 S2 r2=>?_⟩;obtain ⟨c,ys,ec,_,hc,ry⟩:=Rp.lst_at r2;cases ec;have ly:ys.length=(lotM ts).length:=by rw [ry.length,List.length_map]
 walk_at "rd";refine k_lenL (SqL.of hc) ?_;rw [ly];walk_at "rd";refine ⟨v,ws,ts,w,rfl,(rv.same A1.same).same S2,co,fun p3 H3 A3=>?_⟩;have h3:=AccZ.ints A3;walk_at "rd";refine k_lenL (SqL.of h3) ?_;have ln:((ni (sft (ts.map chg)).free).map V.int).length=(sft (ts.map chg)).free.length:=by unfold ni;rw [List.length_map,List.length_map]
 rw [ln];walk_at "rd";exact k H3 ((A1.same.trans S2).trans A3.same)
def lackB(ts:List Tn):List (List Int):=(List.range (hdd ts).length).map fun i=>(hdd ts).getD i []++mrk i (lotM ts)
def spLackR(K:Fg):Sp:=fun vs H Q _=>∃(v:V) (ws:List Str) (ts:List Tn) (w:Nat),vs=[v]∧Rz K H v (dV ws ts)∧ChOk w ts∧(hdd ts).length≤8∧(lotM ts).length≤8∧Wide w (hdd ts)∧Bnd 2 (hdd ts) ∧
 ∀(p:Addr) (H':Hp),Same H H'→Rp K (fun a=>H a=none) H' (.ref p) (dM (sft (lackB ts)).makers)→Q (.ref p) H'
theorem len_lackR{K:Fg}{vs:List V}{H:Hp}{Q:VK}{E:XK}{x:Str}(h:spLackR K vs H Q E):vs.length=[x].length:=by
 obtain ⟨a,b,c,d,rfl,_⟩:=h;rfl
theorem lackB_len(ts:List Tn):(lackB ts).length=(hdd ts).length:=by unfold lackB;rw [List.length_map,List.length_range]
theorem lackB_at{ts:List Tn}{i:Nat}(h:i < (hdd ts).length):(lackB ts)[i]? = some ((hdd ts).getD i []++mrk i (lotM ts)):=by unfold lackB;rw [List.getElem?_map,List.getElem?_range h];rfl
theorem lackB_wide{ts:List Tn}{w:Nat}(hw:Wide w (hdd ts)):Wide (w+(lotM ts).length) (lackB ts):=fun r hr=>by
 unfold lackB at hr;obtain ⟨i,hi,rfl⟩:=List.mem_map.mp hr;rw [List.length_append];unfold mrk;rw [List.length_map,List.getD_eq_getElem?_getD,List.getElem?_eq_getElem (List.mem_range.mp hi),Option.getD_some,hw _ (List.getElem_mem _)]
theorem lackB_bnd{ts:List Tn}(br:Bnd 2 (hdd ts)):Bnd 2 (lackB ts):=fun r hr c hc=>by
 unfold lackB at hr;obtain ⟨i,hi,rfl⟩:=List.mem_map.mp hr;rcases List.mem_append.mp hc with y | y
 ·rw [List.getD_eq_getElem?_getD,List.getElem?_eq_getElem (List.mem_range.mp hi),Option.getD_some] at y;exact br _ (List.getElem_mem _) c y
 ·unfold mrk at y;obtain ⟨l,_,rfl⟩:=List.mem_map.mp y;split <;> decide
def t_lackR(K:Fg):TS:=(tSeq (tAsg (tCall (spLots K) [] E0 (tCons (tVar 0) tNil)) (gName 1))
 (tRet (tCall (spMakers K) [] E0 (tCons (tCompG (iEnum K (tCons (tCall (spHeaps K) [] E0 (tCons (tVar 0) tNil)) tNil)) 2 (gTup K 2 (gCons (gName 0) (gCons (gName 1) gNil))) (tOp rCat (tCB (rListOf K) (tCons (tVar 1) tNil)) (tCall (spMarks K) [] E0 (tCons (tVar 0) (tCons (tVar 3) tNil))))) tNil))))
theorem rd_lackR{K:Fg}{vs:List V}{H:Hp}{Q:VK}{E:XK}{N:List Str}(hN:N.length=2)(h:spLackR K vs H Q E):t_lackR K (ends Q) (L2.start N vs) H:=by
 obtain ⟨v,ws,ts,w,rfl,rv,co,h8,l8,hw,br,k⟩:=h;rw [show L2.start N [v]=[some v,none] by unfold L2.start;rw [hN];rfl];unfold t_lackR;have t8:=co.le;have w5:=co.w5;walk_at "rd";refine ⟨v,ws,ts,rfl,rv,t8,h8,fun p1 H1 S1 r1=>?_⟩;walk_at "rd";refine ⟨v,ws,ts,rfl,rv.same S1,by omega,fun p2 H2 A2=>?_⟩;obtain ⟨xs,hp2,rx⟩:=A2.at_;have lx:xs.length=(hdd ts).length:=by rw [rx.length,List.length_map]
 have r2:Rp K (fun _=>True) H2 (.ref p1) (dM (lotM ts)):=(r1.same A2.same).mono fun _ _=>trivial
 have S02:=S1.trans A2.same;walk_at "rd";refine ⟨p2,_,rfl,SqL.of hp2,?_⟩;refine comp_enumG (xs:=xs) fun D nD=>⟨fun j H3=>Acc K H2 D H3 (((lackB ts).take j).map dL),by simpa using Acc.start nD,fun j H3 _ A=>SqL.of (A.same _ _ hp2),?_,?_⟩
 ·rintro j x H3 T hx A nT us hu
  obtain ⟨u0,u1,rfl⟩:∃u w,us=[u,w]:=by
   match us,hu with
   | [u,w],_=>exact ⟨u,w,rfl⟩
  have lj:=(List.getElem?_eq_some_iff.mp hx).1;have lj':j < (hdd ts).length:=by omega
  obtain ⟨d,g1,g2⟩:=rx.get hx;rw [List.getElem?_map,List.getElem?_eq_getElem lj'] at g1;cases g1;obtain ⟨b,rfl,hb⟩:=dI_at (g2.same A.same);have eB:=lackB_at lj';rw [List.getD_eq_getElem?_getD,List.getElem?_eq_getElem lj',Option.getD_some] at eB;have lr:(hdd ts)[j].length=w:=hw _ (List.getElem_mem _);generalize (hdd ts)[j]=r at hb eB lr;have S3:=same_new nT (.tup [.int (j:Int),.ref b]);have hT:upd H3 T (.tup [.int (j:Int),.ref b]) T=some (.tup [.int (j:Int),.ref b]):=upd_same;have hb3:=S3 _ _ hb;have A3:=A.on S3;generalize upd H3 T (.tup [.int (j:Int),.ref b])=H4 at S3 hT hb3 A3 ⊢;refine k_gTup (SqT.of hT) rfl ?_;walk_at "rd";refine ⟨⟨[some (.int (j:Int)),some (.ref b)],rfl,rfl⟩,?_⟩;walk_at "rd";refine k_listT (SqT.of hb3) fun l nl=>?_
  have S5:=same_new nl (.lst (r.map V.int));have hl5:upd H4 l (.lst (r.map V.int)) l=some (.lst (r.map V.int)):=upd_same;generalize upd H4 l (.lst (r.map V.int))=H5 at S5 hl5 ⊢;have S45:=A3.same.trans S5;walk_at "rd";refine ⟨j,.ref p1,lotM ts,rfl,r2.same S45,by omega,fun m H6 A6=>?_⟩;have h6:=AccZ.ints A6;walk_at "rd";have lk:(mrk j (lotM ts)).length=(lotM ts).length:=by unfold mrk;rw [List.length_map]
  refine ⟨l,m,_,_,rfl,rfl,A6.same _ _ hl5,h6,by rw [sizeLine_eq,List.length_map,List.length_map];omega,fun q nq=>?_⟩;have S7:=same_new nq (.lst (r.map V.int++(mrk j (lotM ts)).map V.int));have hq:upd H6 q (.lst (r.map V.int++(mrk j (lotM ts)).map V.int)) q=some (.lst ((r++mrk j (lotM ts)).map V.int)):=by rw [List.map_append];exact upd_same
  have S47:=(S5.trans A6.same).trans S7;have nq4:H4 q=none:=(S5.trans A6.same).free nq;generalize upd H6 q (.lst (r.map V.int++(mrk j (lotM ts)).map V.int))=H7 at S7 hq S47 ⊢;refine pushed lj ?_;refine A3.pushK S47 (d:=dL (r++mrk j (lotM ts))) (dL_of nq4 hq) (small1000 (by rw [List.length_map,List.length_take];omega)) fun H8 A8=>?_
  show Acc K H2 D H8 (((lackB ts).take (j+1)).map dL);rw [List.take_add_one,eB,List.map_append];exact A8
 ·intro H3 A;have lB:=lackB_len ts;rw [List.take_of_length_le (by omega)] at A;walk_at "rd";refine ⟨D,lackB ts,w+(lotM ts).length,2,rfl,rowsA A,lackB_wide hw,by omega,by omega,lackB_bnd br,by decide,bits28 (by omega),fun q H4 S4 r4=>?_⟩;have S03:=S02.trans A.same;exact k q H4 (S03.trans S4) (r4.mono fun _ z=>S03.free z)
def spLLots(K:Fg):Sp:=fun vs H Q _=>∃(pe:Addr) (xs:List V) (es:List (Nat×Nat)) (n:Nat),vs=[.ref pe,.int (n:Int)]∧H pe=some (.lst xs)∧RzL K H xs (es.map dP)∧EOk n es∧es.length≤8∧n≤8 ∧
 ∀(p:Addr) (H':Hp),Same H H'→Rp K (fun a=>H a=none) H' (.ref p) (dM ((lotsOf (firstsOf n es)).map zN))→Q (.ref p) H'
theorem len_llots{K:Fg}{vs:List V}{H:Hp}{Q:VK}{E:XK}{x y:Str}(h:spLLots K vs H Q E):vs.length=[x,y].length:=by
 obtain ⟨a,b,c,d,rfl,_⟩:=h;rfl
theorem zN_inj{l m:List Nat}(h:zN l=zN m):l=m:=by
 unfold zN at h;exact (List.map_inj_right (f:=fun k:Nat=>(k:Int)) fun a b e=>Int.ofNat.inj e).mp h
theorem mem_lots{d:List (List Nat)}{c:List Nat}:dL (zN c)∈(d.map zN).map dL↔c∈d:=by
 constructor
 ·intro h;obtain ⟨m,hm,e⟩:=List.mem_map.mp h;obtain ⟨l,hl,rfl⟩:=List.mem_map.mp hm;rw [← zN_inj (dL_inj e)];exact hl
 ·intro h;exact List.mem_map.mpr ⟨_,List.mem_map.mpr ⟨_,h,rfl⟩,rfl⟩
def t_llots(K:Fg):TS:=(tSeq (tAsg (tOp rCat (tVar 0) (tCompG (iList K (tVar 0)) 2 (gTup K 2 (gCons (gName 0) (gCons (gName 1) gNil))) (tTup (tCons (tVar 1) (tCons (tVar 0) tNil))))) (gName 2))
 (tSeq (tAsg (tLst tNil) (gName 3))
 (tSeq (tFor (iRng1 (tCons (tVar 1) tNil)) (gName 4)
 (tSeq (tAsg (tCB (rSortI K) (tCons (tCall (spReach K) [] E0 (tCons (tVar 2) (tCons (tVar 4) tNil))) tNil)) (gName 5))
 (tIfS (tTest (tOp (rInD K true) (tVar 5) (tVar 3)))
 (tDrop (tBM K "list" rAppend (tVar 3) (tCons (tVar 5) tNil)))
 tNext)))
 (tRet (tVar 3)))))
theorem rd_llots{K:Fg}{vs:List V}{H:Hp}{Q:VK}{E:XK}{N:List Str}(hN:N.length=6)(h:spLLots K vs H Q E):t_llots K (ends Q) (L2.start N vs) H:=by
 obtain ⟨pe,xs,es,n,rfl,hpe,rx,ok,le,h8,k⟩:=h;rw [show L2.start N [.ref pe,.int (n:Int)]=[some (.ref pe),some (.int (n:Int)),none,none,none,none] by unfold L2.start;rw [hN];rfl];unfold t_llots;have lx:xs.length=es.length:=by rw [rx.length,List.length_map]
 walk_at "rd";refine ⟨pe,rfl,⟨_,SqL.of hpe⟩,?_⟩;refine comp_listG (xs:=xs) fun D nD=>⟨fun j H3=>AccZ K H D H3 (((es.map fun e=>(e.2,e.1)).take j).map dP),by simpa using AccZ.start (Same.refl _) nD,fun j H3 _ A=>SqL.of (A.same _ _ hpe),?_,?_⟩
 ·intro j x H3 hx A us hu
  obtain ⟨u0,u1,rfl⟩:∃u w,us=[u,w]:=by
   match us,hu with
   | [u,w],_=>exact ⟨u,w,rfl⟩
  have lj:=(List.getElem?_eq_some_iff.mp hx).1;obtain ⟨d,g1,g2⟩:=rx.get hx;rw [List.getElem?_map] at g1;obtain ⟨e,he,rfl⟩:=Option.map_eq_some_iff.mp g1;obtain ⟨b,rfl,hb⟩:=dP_at (g2.same A.same);refine k_gTup (SqT.of hb) rfl ?_;walk_at "rd";refine ⟨⟨[some (.int (e.1:Int)),some (.int (e.2:Int))],rfl,rfl⟩,?_⟩;walk_at "rd";refine ⟨by show 2≤sizeLine;decide,fun T nT=>?_⟩;have S4:=same_new nT (.tup [.int (e.2:Int),.int (e.1:Int)]);have hT:upd H3 T (.tup [.int (e.2:Int),.int (e.1:Int)]) T=some (.tup [.int (e.2:Int),.int (e.1:Int)]):=upd_same;have A4:=A.on S4;generalize upd H3 T (.tup [.int (e.2:Int),.int (e.1:Int)])=H4 at hT A4 ⊢;refine pushed lj ?_;refine A4.pushK (d:=dP (e.2,e.1)) (.tup hT (.cons (.int _) (.cons (.int _) .nil))) (small1000 (by rw [List.length_map,List.length_take,List.length_map];omega)) fun H5 A5=>?_
  show AccZ K H D H5 (((es.map fun e=>(e.2,e.1)).take (j+1)).map dP);rw [List.take_add_one,List.getElem?_map,he,List.map_append];exact A5
 intro H3 A3;rw [List.take_of_length_le (by rw [List.length_map];omega)] at A3;obtain ⟨ys,hD,ry⟩:=A3.at_;have ly:ys.length=es.length:=by rw [ry.length,List.length_map,List.length_map]
 walk_at "rd";refine ⟨pe,D,xs,ys,rfl,rfl,A3.same _ _ hpe,hD,by rw [sizeLine_eq];omega,fun pb npb=>?_⟩;have S4:=same_new npb (.lst (xs++ys));have hpb:upd H3 pb (.lst (xs++ys)) pb=some (.lst (xs++ys)):=upd_same
 have rb:RzL K (upd H3 pb (.lst (xs++ys))) (xs++ys) ((both es).map dP):=by
  unfold both;rw [List.map_append];exact ((rx.same A3.same).same S4).append (ry.same S4)
 generalize upd H3 pb (.lst (xs++ys))=H4 at S4 hpb rb ⊢;have S04:=A3.same.trans S4;have lb:(both es).length=es.length+es.length:=by unfold both;rw [List.length_append,List.length_map]
 walk_at "rd";refine ⟨by decide,fun l nl=>?_⟩;have FI:=first_all ok;generalize firstsOf n es=f at FI k;walk_at "rd";rw [Int.toNat_natCast];have D5:Acc K H4 l (upd H4 l (.lst [])) (((dueTo f 0).map zN).map dL):=Acc.start nl;refine fat_range (fun i σ H6=>∃u5 u6:Option V,σ = [some (.ref pe),some (.int (n:Int)),some (.ref pb),some (.ref l),u5,u6]∧Acc K H4 l H6 (((dueTo f i).map zN).map dL)) ⟨none,none,rfl,D5⟩ ?_ ?_
 ·rintro i σ H6 hi ⟨u5,u6,rfl,A6⟩;rw [Int.zero_add];walk_at "rd";refine ⟨pb,_,both es,i,rfl,A6.same _ _ hpb,rb.same A6.same,by omega,fun q H7 ms A7 nd mm=>?_⟩
  have lm:ms.length≤n:=by
   have:=nodup_len (hs:=List.range n) nd fun x hx=>List.mem_range.mpr (both_lt ok hi ((mm x).mp hx))
   rwa [List.length_range] at this
  have hq:H7 q=some (.lst ((zN ms).map V.int)):=by
   rw [← zD] at A7;exact AccZ.ints A7
  walk_at "rd";refine ⟨q,zN ms,rfl,SqL.of hq,by rw [zN_len];omega,fun s os ns pr pw=>?_⟩;have eo:os=zN (places f (at_ f i)):=lot_of FI ok hi nd mm pr pw;subst eo;have S8:=A7.same.trans (same_new ns (.lst ((zN (places f (at_ f i))).map V.int)));have hs8:upd H7 s (.lst ((zN (places f (at_ f i))).map V.int)) s=some (.lst ((zN (places f (at_ f i))).map V.int)):=upd_same;generalize upd H7 s (.lst ((zN (places f (at_ f i))).map V.int))=H8 at S8 hs8 ⊢;have ns6:H6 s=none:=A7.same.free ns;have r8:Rp K (fun a=>H6 a=none) H8 (.ref s) (dL (zN (places f (at_ f i)))):=dL_of ns6 hs8;have st:=due_step FI hi;have A8:=A6.on S8
  have ld:(dueTo f i).length≤n:=by
   unfold dueTo;rw [List.length_map];exact Nat.le_trans (List.length_filter_le _ _) (by rw [List.length_range];omega)
  walk_at "rd";refine k_notInD r8.rep A8.rep (fun e he=>by obtain ⟨b,_,rfl⟩:=List.mem_map.mp he;exact ok_dL b 7) (ok_dL _ 7) (fun nm=>?_) (fun mm=>?_)
  ·walk_at "rd";refine ⟨A8.ty,?_⟩;walk_at "rd";obtain ⟨vs,hv,lv,A9⟩:=A6.pushN S8 r8;refine k_append hv (small1000 (by rw [lv,List.length_map,List.length_map];omega)) ?_;walk_at "rd";refine ⟨_,_,rfl,?_⟩;rw [st];unfold insL;rw [if_neg (fun z=>nm (mem_lots.mpr z)),List.map_append,List.map_append];exact A9
  ·walk_at "rd";refine ⟨_,_,rfl,?_⟩;rw [st];unfold insL;rw [if_pos (mem_lots.mp mm)];exact A8
 rintro σ H6 ⟨u5,u6,rfl,A6⟩;rw [due_all FI.len] at A6;walk_at "rd";exact k l H6 (S04.trans A6.same) (A6.ref.mono fun _ z=>S04.free z)
end Lc
namespace Lc
open PySem L2 Fr G1 Sm Vs G2 Rk Sz Sf Rw Ti Lo
theorem hdd_in{hs:List (List Int)}:∀(ts:List Tn) (l:List (List Int)),(∀t∈ts,t.fr∈hs∧t.to∈hs)→(∀x∈l,x∈hs)→∀x∈hddF l ts,x∈hs
 | [],l,_,h,x,hx=>h x hx
 | t :: ts,l,ht,h,x,hx=>by
  have ins:∀(l:List (List Int)) (y:List Int),(∀x∈l,x∈hs)→y∈hs→∀x∈insH l y,x∈hs:=fun l y h hy x hx=>by
   unfold insH at hx;split at hx
   ·exact h x hx
   ·rcases List.mem_append.mp hx with z | z
    ·exact h x z
    ·rw [List.mem_singleton.mp z];exact hy
  have t0:=ht t List.mem_cons_self;exact hdd_in ts (insH (insH l t.fr) t.to) (fun u hu=>ht u (List.mem_cons_of_mem _ hu)) (ins _ _ (ins _ _ h t0.1) t0.2) x hx
structure HsOk (w:Nat) (ts:List Tn):Prop where
 h8:(hdd ts).length≤8
 l8:(lotM ts).length≤8
 wide:Wide w (hdd ts)
 bnd:Bnd 2 (hdd ts)
 to:∀t∈ts,t.to.length=w
theorem hsOk{ws:List Str}{ts:List Tn}(vo:VesOk ws ts):HsOk ws.length ts:=by
 obtain ⟨hs,po,h8,tk⟩:=vo.turns;have sub:∀x∈hdd ts,x∈hs:=hdd_in ts [] (fun t ht=>⟨(tk.ok t ht).1,(tk.ok t ht).2.1⟩) fun x h=>by cases h
 have n8:(hdd ts).length≤8:=Nat.le_trans (nodup_len (hdd_nd ts) sub) h8;refine ⟨n8,?_,fun r hr=>(po.2 r (sub r hr)).1,fun r hr c hc=>?_,fun t ht=>(po.2 _ (tk.ok t ht).2.1).1⟩
 ·unfold lotM lotsOf;rw [List.length_map,List.length_map];refine Nat.le_trans (List.length_filter_le _ _) ?_;rw [List.length_range,(first_all (ends_ok ts)).len];exact n8
 ·have:=(po.2 r (sub r hr)).2 c hc
  show c.natAbs < 4;omega
section
variable{ts:List Tn}{w:Nat}
theorem lotM_len(ts:List Tn):(lotM ts).length=(Lk.reps (firstsOf (hdd ts).length (endsOf ts))).length:=by
 unfold lotM lotsOf Lk.reps;rw [List.length_map,List.length_map]
theorem mrk_reps{i:Nat}(hi:i < (hdd ts).length):mrk i (lotM ts)=(Lk.reps (firstsOf (hdd ts).length (endsOf ts))).map fun v=>if at_ (firstsOf (hdd ts).length (endsOf ts)) i=v then 1 else 0:=by
 have F:=first_all (ends_ok ts);unfold lotM mrk lotsOf Lk.reps;generalize firstsOf (hdd ts).length (endsOf ts)=f at F;rw [List.map_map,List.map_map];refine List.map_congr_left fun v _=>?_
 show (if (i:Int)∈zN (places f v) then (1:Int) else 0)=_
 have e:(i:Int)∈zN (places f v)↔at_ f i=v:=by
  unfold zN places;rw [List.mem_map];constructor
  ·rintro ⟨a,ha,ea⟩
   have:a=i:=Int.ofNat.inj ea
   subst this;simpa using (List.mem_filter.mp ha).2
  ·intro h;exact ⟨i,List.mem_filter.mpr ⟨List.mem_range.mpr (by rw [F.len];exact hi),by simpa using h⟩,rfl⟩
 by_cases c:at_ f i=v
 ·rw [if_pos (e.mpr c),if_pos c]
 ·rw [if_neg fun z=>c (e.mp z),if_neg c]
theorem lackB_mk(ts:List Tn):lackB ts=(List.range (hdd ts).length).map (Lk.mk (fun h=>(hdd ts).getD h []) (firstsOf (hdd ts).length (endsOf ts))):=by
 unfold lackB;refine List.map_congr_left fun i hi=>?_
 rw [mrk_reps (List.mem_range.mp hi)];rfl
theorem getD_ix{x:List Int}(h:x∈hdd ts):(hdd ts).getD (ix (hdd ts) x) []=x:=by rw [List.getD_eq_getElem?_getD,ix_at h];rfl
theorem hdd_at(hw:Wide w (hdd ts)){h:Nat}(hh:h < (hdd ts).length):((hdd ts).getD h []).length=w:=by
 rw [List.getD_eq_getElem?_getD,List.getElem?_eq_getElem hh];exact hw _ (List.getElem_mem _)
theorem lack_rk(co:ChOk w ts)(ho:HsOk w ts):(grd (lackB ts) (lackB ts).length).length=(lotM ts).length+(grd (ts.map chg) (ts.map chg).length).length:=by
 rw [lackB_len,lackB_mk,lotM_len];have F:=first_all (ends_ok ts);refine Lk.lack_rank (w:=w) F F.len (ends_ok ts) (fun h hh=>hdd_at ho.wide hh) (by unfold endsOf;rw [List.length_map,List.length_map]) co.wide fun i e he q=>?_
 unfold endsOf at he;rw [List.getElem?_map] at he;obtain ⟨t,ht,rfl⟩:=Option.map_eq_some_iff.mp he;have mt:=List.mem_of_getElem? ht;have m:=hddF_new (hs:=[]) mt;show pt ((ts.map chg).getD i []) q=pt ((hdd ts).getD (ix (hdd ts) t.to) []) q - pt ((hdd ts).getD (ix (hdd ts) t.fr) []) q;rw [getD_ix m.2,getD_ix m.1,← Dn.pt_chg (co.fr t mt) (ho.to t mt),List.getD_eq_getElem?_getD,List.getElem?_map,ht];rfl
theorem lack_size(co:ChOk w ts):(sft (ts.map chg)).free.length=size w (ts.map chg):=by
 rw [Mb.row_rank co.wide];exact congrArg List.length (si_at co.wide (by decide) co.bnd (ts.map chg).length (Nat.le_refl _)).free
theorem lack_many(co:ChOk w ts)(ho:HsOk w ts):((sft (lackB ts)).makers.length:Int)=lackN ts∧(sft (lackB ts)).makers.length+(grd (lackB ts) (lackB ts).length).length=(hdd ts).length:=by
 have hw:=lackB_wide ho.wide;have hb:=lackB_bnd ho.bnd;have J:=Mk.mi_at hw (by decide) hb _ (Nat.le_refl _);have I:=si_at hw (by decide) hb _ (Nat.le_refl _);have c:(sft (lackB ts)).makers.length+(grd (lackB ts) (lackB ts).length).length=(lackB ts).length:=by rw [← I.free];exact J.cnt
 rw [lackB_len] at c;have r:=lack_rk co ho;rw [lackB_len] at r;have s:=congrArg List.length (si_at co.wide (by decide) co.bnd (ts.map chg).length (Nat.le_refl _)).free;have s':(sft (ts.map chg)).free.length=(grd (ts.map chg) (ts.map chg).length).length:=s;refine ⟨?_,by rw [lackB_len];exact c⟩;unfold lackN;omega
def lawR(w:Nat)(ts:List Tn):List (List Int):=((List.range (lotM ts).length).map fun k=>Cl.col (lackB ts) (w+k))++(List.range w).map fun q=>Cl.col (lackB ts) q
theorem lawR_len(w:Nat)(ts:List Tn):(lawR w ts).length=(lotM ts).length+w:=by unfold lawR;rw [List.length_append,List.length_map,List.length_map,List.length_range,List.length_range]
theorem lawR_col{r:List Int}(h:r∈lawR w ts):∃q,r=Cl.col (lackB ts) q:=by
 unfold lawR at h;rcases List.mem_append.mp h with y | y
 ·obtain ⟨k,_,rfl⟩:=List.mem_map.mp y;exact ⟨_,rfl⟩
 ·obtain ⟨k,_,rfl⟩:=List.mem_map.mp y;exact ⟨_,rfl⟩
theorem lawR_wide:Wide (hdd ts).length (lawR w ts):=fun r hr=>by
 obtain ⟨q,rfl⟩:=lawR_col hr;unfold Cl.col;rw [List.length_map,lackB_len]
theorem lawR_bnd(ho:HsOk w ts):Bnd 2 (lawR w ts):=fun r hr c hc=>by
 obtain ⟨q,rfl⟩:=lawR_col hr;unfold Cl.col at hc;obtain ⟨s,hs,rfl⟩:=List.mem_map.mp hc;exact pt_bnd (lackB_bnd ho.bnd s hs) q
theorem lawR_lot{k:Nat}(h:k < (lotM ts).length):(lawR w ts).getD k []=Cl.col (lackB ts) (w+k):=by
 unfold lawR;rw [List.getD_eq_getElem?_getD,List.getElem?_append_left (by rw [List.length_map,List.length_range];exact h),List.getElem?_map,List.getElem?_range h];rfl
theorem lawR_stuff{q:Nat}(h:q < w):(lawR w ts).getD ((lotM ts).length+q) []=Cl.col (lackB ts) q:=by
 unfold lawR;rw [List.getD_eq_getElem?_getD,List.getElem?_append_right (by rw [List.length_map,List.length_range];omega),List.length_map,List.length_range,Nat.add_sub_cancel_left,List.getElem?_map,List.getElem?_range h];rfl
theorem lawR_out{j i:Nat}(h:(lotM ts).length+w≤j):pt ((lawR w ts).getD j []) i=0:=by
 rw [List.getD_eq_getElem?_getD,List.getElem?_eq_none (by rw [lawR_len];exact h)];exact Mk.pt_out (Nat.zero_le _)
theorem lawR_size(ho:HsOk w ts):size (hdd ts).length (lawR w ts)=(grd (lackB ts) (lackB ts).length).length:=by
 have cw:=lackB_wide ho.wide;have lB:=lackB_len ts;rw [Cl.size_cols lawR_wide,lB]
 have row:∀{i q:Nat},i < (hdd ts).length→pt ((Cl.cols (hdd ts).length (lawR w ts)).getD i []) q=pt ((lawR w ts).getD q []) i:=fun {i q} hi=>by
  rw [show (Cl.cols (hdd ts).length (lawR w ts)).getD i []=Cl.col (lawR w ts) i by unfold Cl.cols;rw [List.getD_eq_getElem?_getD,List.getElem?_map,List.getElem?_range hi];rfl];by_cases hq:q < (lawR w ts).length
  ·rw [Mb.pt_colG hq]
  ·rw [lawR_out (by rw [lawR_len] at hq;omega)];exact Mk.pt_out (by unfold Cl.col;rw [List.length_map];omega)
 have out:∀{i q:Nat},i < (hdd ts).length→w+(lotM ts).length≤q→pt ((lackB ts).getD i []) q=0:=fun {i q} hi hq=>by
  refine Mk.pt_out ?_;rw [List.getD_eq_getElem?_getD,List.getElem?_eq_getElem (by omega)];show (lackB ts)[i].length≤q;rw [cw _ (List.getElem_mem _)];exact hq
 refine congrArg List.length (Mb.grd_pl (n:=(hdd ts).length) (fun q=>?_) (fun q=>?_) _ (Nat.le_refl _))
 ·by_cases h1:q < (lotM ts).length
  ·exact ⟨w+q,fun i hi=>by rw [row hi,lawR_lot h1,Mb.pt_colG (by omega)]⟩
  ·by_cases h2:q < (lotM ts).length+w
   ·refine ⟨q - (lotM ts).length,fun i hi=>?_⟩;have e:=lawR_stuff (ts:=ts) (w:=w) (q:=q - (lotM ts).length) (by omega);rw [show (lotM ts).length+(q - (lotM ts).length)=q by omega] at e;rw [row hi,e,Mb.pt_colG (by omega)]
   ·exact ⟨q,fun i hi=>by rw [row hi,lawR_out (by omega),out hi (by omega)]⟩
 ·by_cases h1:q < w
  ·exact ⟨(lotM ts).length+q,fun i hi=>by rw [row hi,lawR_stuff h1,Mb.pt_colG (by omega)]⟩
  ·by_cases h2:q < w+(lotM ts).length
   ·refine ⟨q - w,fun i hi=>?_⟩;have e:=lawR_lot (ts:=ts) (w:=w) (k:=q - w) (by omega);rw [show w+(q - w)=q by omega] at e;rw [row hi,e,Mb.pt_colG (by omega)]
   ·exact ⟨q,fun i hi=>by rw [row hi,lawR_out (by omega),out hi (by omega)]⟩
theorem look81(co:ChOk w ts)(ho:HsOk w ts):(∀m∈(sft (lackB ts)).makers,GRow (hdd ts).length 40 m∧∀r∈lawR w ts,wrt m r=0)∧Free (sft (lackB ts)).makers∧(sft (lackB ts)).makers.length+size (hdd ts).length (lawR w ts)=(hdd ts).length:=by
 have hw:=lackB_wide ho.wide;have hb:=lackB_bnd ho.bnd;have lB:=lackB_len ts;have J:=Mk.mi_at hw (by decide) hb (lackB ts).length (Nat.le_refl _);have b8:=Mb.mk8 hw hb (by rw [lB];exact ho.h8);refine ⟨fun m hm=>⟨⟨by rw [(J.good m hm).len,lB],(J.good m hm).low,(J.good m hm).first,b8 m hm⟩,fun r hr=>?_⟩,J.free,?_⟩
 ·obtain ⟨q,rfl⟩:=lawR_col hr;rw [wrt_col];exact (J.good m hm).nought q
 ·rw [lawR_size ho];exact (lack_many co ho).2
theorem lot_row(hw:Wide w (hdd ts)){k:Nat}{l:List Int}(h:(lotM ts)[k]? = some l):Cl.col (lackB ts) (w+k)=(List.range (hdd ts).length).map fun i:Nat=>if (i:Int)∈l then 1 else 0:=by
 unfold Cl.col;show (lackB ts).map _=_
 conv=>lhs;unfold lackB
 rw [List.map_map];refine List.map_congr_left fun i hi=>?_
 show pt ((hdd ts).getD i []++mrk i (lotM ts)) (w+k)=_;rw [Lk.pt_app,hdd_at hw (List.mem_range.mp hi),if_neg (by omega),Nat.add_sub_cancel_left];unfold pt mrk;rw [List.getD_eq_getElem?_getD,List.getElem?_map,h];rfl
theorem stuff_row(hw:Wide w (hdd ts)){q:Nat}(h:q < w):Cl.col (lackB ts) q=Cl.col (hdd ts) q:=by
 refine List.ext_getElem? fun i=>?_
 unfold Cl.col;rw [List.getElem?_map,List.getElem?_map];by_cases hi:i < (hdd ts).length
 ·rw [lackB_at hi,List.getElem?_eq_getElem hi];show some (pt _ q)=some (pt _ q);rw [Lk.pt_app,hdd_at hw hi,if_pos h,List.getD_eq_getElem?_getD,List.getElem?_eq_getElem hi];rfl
 ·rw [List.getElem?_eq_none (by rw [lackB_len];omega),List.getElem?_eq_none (by omega)]
end
end Lc
namespace Wd
open PySem L2 Fr G1 Sm Vs Dn Rk
open PySem.W (Dat kqdOk)
end Wd
set_option Elab.async false
set_option linter.all false
set_option maxRecDepth 100000
set_option maxHeartbeats 4000000
namespace K81
open PySem L2 Fr G1 Sm Vs G2 Rk Sz Sf Rw Cl Ti Lo Lc
open PySem.W (Dat kqdOk)
open K81H
def t_law(K:Fg):TS:=(tSeq (tAsg (tCall (spVes2 K) [] E0 (tCons (tVar 0) (tCons (tC (.int 0)) tNil))) (gName 1))
 (tSeq (tAsg (tCall (spHeaps K) [] E0 (tCons (tVar 1) tNil)) (gName 2))
 (tSeq (tAsg (tCompG (iList K (tCall (spLLots K) [] E0 (tCons (tCall (spEnds K) [] E0 (tCons (tVar 1) tNil)) (tCons (tCB (rLenQ K) (tCons (tVar 2) tNil)) tNil)))) 1 (gName 0) (tComp (iRng1 (tCons (tCB (rLenQ K) (tCons (tVar 3) tNil)) tNil)) (tCB rInt1 (tCons (tOp (rInD K false) (tVar 0) (tVar 1)) tNil)))) (gName 3))
 (tSeq (tAsg (tOp qSub (tOp qSub (tCB (rLenQ K) (tCons (tVar 2) tNil)) (tCB (rLenQ K) (tCons (tVar 3) tNil))) (tCall (spSize K) [] E0 (tCons (tCall (spChanges K) [] E0 (tCons (tVar 1) tNil)) tNil))) (gName 4))
 (tSeq (tAsg (tCall (spLack K) [] E0 (tCons (tVar 1) tNil)) (gName 5))
 (tSeq (tFor (iRng1 (tCons (tCB (rLenQ K) (tCons (tOp (rIxT K) (tVar 1) (tC (.int 0))) tNil)) tNil)) (gName 6)
 (tDrop (tBM K "list" rAppend (tVar 3) (tCons (tComp (iList K (tVar 2)) (tOp (rIxT K) (tVar 0) (tVar 7))) tNil))))
 (tSeq (tAsg (tCall (spLackR K) [] E0 (tCons (tVar 1) tNil)) (gName 7))
 (tSeq (tIfS (tOr (tNot (tB (tCall spWhole [] E0 (tCons (tVar 5) tNil)))) (tOr (tTest (tOp rNe (tVar 5) (tVar 4))) (tOr (tTest (tOp rNe (tCB (rLenQ K) (tCons (tVar 7) tNil)) (tVar 4))) (tNot (tB (tCall (spBasis K) [] E0 (tCons (tVar 7) (tCons (tVar 3) (tCons (tCB (rLenQ K) (tCons (tVar 2) tNil)) tNil)))))))))
 (tRet (tC (.bl false)))
 tNext)
 (tSeq (tAsg (tComp (iList K (tVar 7)) (tCB (rListOf K) (tCons (tVar 0) tNil))) (gName 8))
 (tSeq (tFor (iList K (tVar 7)) (gName 9)
 (tDrop (tBM0 K "list" rClear (tVar 9))))
 (tSeq (tDrop (tBM0 K "list" rClear (tVar 7)))
 (tRet (tOp (rEqD K) (tCall (spLackR K) [] E0 (tCons (tVar 1) tNil)) (tVar 8))))))))))))))
theorem rd_law {K:Fg} {vs:List V} {H:Hp} {Q:VK} {E:XK} (h:spLaw K vs H Q E):t_law K (ends Q) (L2.start ["_law_script","_law_vessel_here","_law_told","_law_rows","_law_due","_law_many","_law_stuff","_law_found","_law_held","_law_row"] vs) H:=by
 obtain ⟨a,ns,rfl,hS,hl,k⟩:=h;show t_law K (ends Q) [some (.ref a),none,none,none,none,none,none,none,none,none] H;unfold t_law;walk_at "rd";refine ⟨a,ns,0,rfl,hS,by decide,fun p H1 ws ts S1 vo rv=>?_⟩;have co:=chOk vo;have ho:=hsOk vo;have t8:=co.le;have w5:=co.w5;have h8:=ho.h8;have l8:=ho.l8;walk_at "rd";refine ⟨.ref p,ws,ts,rfl,rv,by omega,fun pt0 H2 A2=>?_⟩;obtain ⟨xs,ht0,rx⟩:=A2.at_;have lx:xs.length=(hdd ts).length:=by rw [rx.length,List.length_map]
 have rv2:=rv.same A2.same;walk_at "rd";refine ⟨.ref p,ws,ts,rfl,rv2,by omega,fun pe H3 A3=>?_⟩;obtain ⟨es,hpe,re⟩:=A3.at_;have ht3:=A3.same _ _ ht0;walk_at "rd";refine k_lenL (SqL.of ht3) ?_;rw [lx];walk_at "rd";refine ⟨pe,es,endsOf ts,(hdd ts).length,rfl,hpe,re,ends_ok ts,by unfold endsOf;rw [List.length_map];omega,h8,fun pl H4 S4 r4=>?_⟩;have r4:Rp K (fun a=>H3 a=none) H4 (.ref pl) (dM (lotM ts)):=r4;obtain ⟨pl',ls,epl,_,hpl,rl⟩:=Rp.lst_at r4;cases epl;have ll:ls.length=(lotM ts).length:=by rw [rl.length,List.length_map]
 have ht4:=S4 _ _ ht3;have rv4:=(rv2.same A3.same).same S4;walk_at "rd";refine ⟨pl,rfl,⟨_,SqL.of hpl⟩,?_⟩;refine comp_listG (xs:=ls) fun D nD=>⟨fun j H5=>Acc K H4 D H5 (((lawR ws.length ts).take j).map dL),by simpa using Acc.start nD,fun j H5 _ A=>SqL.of (A.same _ _ hpl),?_,?_⟩
 ·intro j x H5 hx A us hu;obtain ⟨u0,rfl⟩:∃u,us=[u]:=List.length_eq_one_iff.mp hu;have lj:=(List.getElem?_eq_some_iff.mp hx).1;have lj':j < (lotM ts).length:=by omega
  obtain ⟨d,g1,g2⟩:=rl.get hx;rw [List.getElem?_map] at g1;obtain ⟨l,hl2,rfl⟩:=Option.map_eq_some_iff.mp g1;have r5:=g2.same A.same;have er:=lot_row ho.wide hl2;have e0:=lawR_lot (w:=ws.length) lj'
  have eR:(lawR ws.length ts)[j]? = some (Cl.col (lackB ts) (ws.length+j)):=by
   rw [← e0,List.getD_eq_getElem?_getD,List.getElem?_eq_getElem (by rw [lawR_len];omega)];rfl
  rw [er] at eR;walk_at "rd";refine ⟨⟨[some x],rfl,rfl⟩,?_⟩;walk_at "rd";refine k_lenL (SqL.of (A.same _ _ ht4)) ?_;rw [lx];walk_at "rd";rw [Int.toNat_natCast];generalize hrow:((List.range (hdd ts).length).map fun i:Nat=>if (i:Int)∈l then (1:Int) else 0)=row at eR;have at_row:∀i,i < (hdd ts).length→row[i]? = some (if (i:Int)∈l then 1 else 0):=fun i hi=>by rw [← hrow,List.getElem?_map,List.getElem?_range hi];rfl
  have lrow:row.length=(hdd ts).length:=by rw [← hrow,List.length_map,List.length_range]
  refine comp_range (n:=(hdd ts).length) fun D2 nD2=>⟨fun i H6=>AccZ K H5 D2 H6 ((row.take i).map Dat.int),by simpa using AccZ.start (Same.refl _) nD2,?_,?_⟩
  ·intro i H6 hi B;rw [Int.zero_add];have ri:=at_row i hi;walk_at "rd";refine k_inD (d:=Dat.int (i:Int)) (ds:=l.map Dat.int) (.int _) (r5.same B.same).rep (fun e he=>by obtain ⟨b,_,rfl⟩:=List.mem_map.mp he;rfl) rfl (fun z=>?_) (fun z=>?_)
   ·walk_at "rd";refine pushed hi ?_;refine B.pushK (.int 1) (small1000 (by rw [List.length_map,List.length_take];omega)) fun H7 B7=>?_
    show AccZ K H5 D2 H7 ((row.take (i+1)).map Dat.int);rw [List.take_add_one,ri,List.map_append,if_pos (mem_ints.mp z)];exact B7
   ·walk_at "rd";refine pushed hi ?_;refine B.pushK (.int 0) (small1000 (by rw [List.length_map,List.length_take];omega)) fun H7 B7=>?_
    show AccZ K H5 D2 H7 ((row.take (i+1)).map Dat.int);rw [List.take_add_one,ri,List.map_append,if_neg fun y=>z (mem_ints.mpr y)];exact B7
  ·intro H6 B;rw [List.take_of_length_le (by omega)] at B;refine pushed lj ?_;refine A.pushK B.same (d:=dL row) B.ref (small1000 (by rw [List.length_map,List.length_take];omega)) fun H7 A7=>?_
   show Acc K H4 D H7 (((lawR ws.length ts).take (j+1)).map dL);rw [List.take_add_one,eR,List.map_append];exact A7
 intro H5 A5;rw [ll] at A5;obtain ⟨ds,hD,rD⟩:=A5.at_;have lR:=lawR_len ws.length ts;have lds:ds.length=(lotM ts).length:=by rw [rD.length,List.length_map,List.length_take];omega
 have rv5:=rv4.same A5.same;have ht5:=A5.same _ _ ht4;walk_at "rd";refine k_lenL (SqL.of ht5) ?_;rw [lx];walk_at "rd";refine k_lenL (SqL.of hD) ?_;rw [lds];walk_at "rd";refine ⟨.ref p,ws,ts,rfl,rv5,by omega,fun t ht=>by rw [co.fr t ht];omega,fun pc H6 A6=>?_⟩;have lC:(ts.map chg).length=ts.length:=List.length_map _;have p5:2 ^ ws.length≤2 ^ 5:=Nat.pow_le_pow_right (by decide) w5;walk_at "rd";refine ⟨.ref pc,ts.map chg,ws.length,2,rfl,A6.ref.mono fun _ _=>trivial,co.wide,by omega,by omega,co.bnd,by omega,fun H7 S7=>?_⟩;have S57:=A6.same.trans S7;walk_at "rd";refine ⟨.ref p,ws,ts,ws.length,rfl,rv5.same S57,co,h8,fun H8 S8=>?_⟩;have S58:=S57.trans S8;have rv8:=rv5.same S58;have A8:=A5.on S58;have ht8:=S58 _ _ ht5;have edue:((hdd ts).length:Int) - (lotM ts).length - (size ws.length (ts.map chg):Nat)=lackN ts:=by unfold lackN;rw [lack_size co]
 obtain ⟨p',y1,y2,ep,hp,ry1,_⟩:=dV_at rv8;cases ep;obtain ⟨q1,zs1,rfl,hq1,rz1⟩:=ry1.tup_at;have lz1:zs1.length=ws.length:=by rw [rz1.length,List.length_map]
 walk_at "rd";refine k_ixT (SqT.of hp) (v:=.ref q1) rfl ?_;walk_at "rd";refine k_lenT (SqT.of hq1) ?_;rw [lz1];walk_at "rd";rw [Int.toNat_natCast];rw [edue];refine fat_range (fun i σ H9=>∃u6:Option V,σ = [some (.ref a),some (.ref p),some (.ref pt0),some (.ref D),some (.int (lackN ts)),some (.int (lackN ts)),u6,none,none,none]∧Acc K H4 D H9 (((lawR ws.length ts).take ((lotM ts).length+i)).map dL)) ⟨none,rfl,A8⟩ ?_ ?_
 ·rintro i σ H9 hi ⟨u6,rfl,A9⟩;rw [Int.zero_add];have ht9:=A9.same _ _ ht4;have rx9:=((rx.same A3.same).same S4).same A9.same;have lcol:(col (hdd ts) i).length=(hdd ts).length:=by unfold col;rw [List.length_map]
  have eR:(lawR ws.length ts)[(lotM ts).length+i]? = some (col (hdd ts) i):=by
   rw [← stuff_row ho.wide hi,← lawR_stuff (ts:=ts) (w:=ws.length) hi,List.getD_eq_getElem?_getD,List.getElem?_eq_getElem (by omega)];rfl
  walk_at "rd";refine ⟨A9.ty,?_⟩;walk_at "rd";refine k_rlC (SqL.of ht9) ?_;refine comp_list (xs:=xs) fun D2 nD2=>⟨fun j H10=>AccZ K H9 D2 H10 (((col (hdd ts) i).take j).map Dat.int),by simpa using AccZ.start (Same.refl _) nD2,fun j H10 _ B=>SqL.of (B.same _ _ ht9),?_,?_⟩
  ·intro j x H10 hx B;have lj:=(List.getElem?_eq_some_iff.mp hx).1;obtain ⟨d,g1,g2⟩:=rx9.get hx;rw [List.getElem?_map] at g1;obtain ⟨r,hr,rfl⟩:=Option.map_eq_some_iff.mp g1;obtain ⟨b0,rfl,hb0⟩:=dI_at g2;have lr:=ho.wide r (List.mem_of_getElem? hr);have ecm:(col (hdd ts) i)[j]? = some (pt r i):=by unfold col;rw [List.getElem?_map,hr];rfl
   walk_at "rd";refine k_ixT (SqT.of (B.same _ _ hb0)) (atI_row (by omega)) ?_;refine pushed lj ?_;refine B.pushK (.int _) (small1000 (by rw [List.length_map,List.length_take];omega)) fun H11 B11=>?_
   show AccZ K H9 D2 H11 (((col (hdd ts) i).take (j+1)).map Dat.int);rw [List.take_add_one,ecm,List.map_append];exact B11
  intro H10 B;rw [List.take_of_length_le (by omega)] at B;obtain ⟨vs,hv,lv,A11⟩:=A9.pushN B.same (d:=dL (col (hdd ts) i)) B.ref;walk_at "rd";refine k_append hv (small1000 (by rw [lv,List.length_map,List.length_take];omega)) ?_;walk_at "rd";refine ⟨_,rfl,?_⟩;rw [show (lotM ts).length+(i+1)=(lotM ts).length+i+1 by omega,List.take_add_one,eR,List.map_append];exact A11
 rintro σ H9 ⟨u6,rfl,A9⟩;rw [List.take_of_length_le (by omega)] at A9;have rv9:=rv4.same A9.same;have ht9:=A9.same _ _ ht4;obtain ⟨gd,fr,cnt⟩:=look81 co ho;have many:=lack_many co ho;have p8:2 ^ (hdd ts).length≤2 ^ 8:=Nat.pow_le_pow_right (by decide) h8;walk_at "rd";refine ⟨.ref p,ws,ts,ws.length,rfl,rv9,co,h8,l8,ho.wide,ho.bnd,fun f H10 S10 r10=>?_⟩;obtain ⟨fs,rf,T4⟩:=told_of S10 r10;have lf:fs.length=(sft (lackB ts)).makers.length:=by rw [rf.length,List.length_map]
 walk_at "rd";refine ⟨lackN ts,rfl,?_⟩;walk_at "rd";refine k_iteN (fun z=>absurd rfl z) (fun _=>?_);walk_at "rd";refine k_lenL (SqL.of T4.at_) ?_;rw [lf];walk_at "rd";refine k_iteN (fun z=>absurd many.1 z) (fun _=>?_);walk_at "rd";refine k_lenL (SqL.of (S10 _ _ ht9)) ?_;rw [lx];walk_at "rd";refine ⟨.ref f,.ref D,(sft (lackB ts)).makers,lawR ws.length ts,(hdd ts).length,0,40,rfl,r10.mono fun _ _=>trivial,(A9.ref.same S10).mono fun _ _=>trivial,lawR_wide,by omega,by omega,lawR_bnd ho,by omega,cnt,gd,by decide,by omega,fr,fun H11 S11=>?_⟩;have lM:(sft (lackB ts)).makers.length≤8:=by omega
 generalize hM:(sft (lackB ts)).makers=M at r10 lM rf lf;have T5:=T4.on S11;walk_at "rd";refine k_rlC (SqL.of T5.at_) ?_;refine comp_list (xs:=fs) fun E nE=>⟨fun j H6=>Same H11 H6∧Held K H10 H6 E (M.take j),⟨same_new nE _,S11.free nE,[],upd_same,RpL.nil⟩,fun j H6 _ q=>SqL.of ((T5.on q.1).at_),?_,?_⟩
 ·rintro j x H6 hx ⟨S6,A6⟩;have lj:=(List.getElem?_eq_some_iff.mp hx).1;obtain ⟨d,g1,g2⟩:=rf.get hx;rw [List.getElem?_map] at g1;obtain ⟨m,hm,rfl⟩:=Option.map_eq_some_iff.mp g1;obtain ⟨b0,rfl,_,hb0⟩:=dL_at g2;walk_at "rd";refine k_listL (SqL.of (S6 _ _ (S11 _ _ hb0))) fun l nl=>?_
  obtain ⟨ys,h1,h2⟩:=A6.at_;have S7:=same_new nl (.lst (m.map V.int));have hl7:upd H6 l (.lst (m.map V.int)) l=some (.lst (m.map V.int)):=upd_same;have nlE:l≠E:=(ne_of_none h1 nl).symm;have nl4:H10 l=none:=(S11.trans S6).free nl;generalize upd H6 l (.lst (m.map V.int))=H7 at S7 hl7 ⊢;refine pushed lj ⟨ys,S7 _ _ h1,small1000 ?_,fun c o q=>?_,A6.new,_,upd_same,?_⟩
  ·rw [h2.length,List.length_map,List.length_take];omega
  ·rw [upd_ne (ne_of_none q nE)];exact S7 _ _ (S6 _ _ q)
  ·rw [List.take_add_one,hm,List.map_append];exact ((h2.same S7).append (.cons (dL_of ⟨nl4,nlE⟩ hl7) .nil)).agr (Agr.of_upd (S7 _ _ h1) fun w=>w.2 rfl)
 rintro H6 ⟨S6,A6⟩;rw [List.take_of_length_le (by omega)] at A6;have T6:=T5.on S6;walk_at "rd";refine k_rlF (SqL.of T6.at_) ?_;refine fat_list (xs:=fs) (fun j σ H7=>∃u9:Option V,σ = [some (.ref a),some (.ref p),some (.ref pt0),some (.ref D),some (.int (lackN ts)),some (.int (lackN ts)),u6,some (.ref f),some (.ref E),u9]∧Told H9 H10 H7 f fs∧Held K H10 H7 E M) ⟨none,rfl,T6,A6⟩ (fun j σ H7 _ ⟨_,_,T,_⟩=>SqL.of T.at_) ?_ ?_
 ·rintro j x σ H7 hx ⟨u9,rfl,T,A⟩;obtain ⟨b0,l0,rfl,_⟩:=T.row x (List.mem_of_getElem? hx);obtain ⟨T',⟨l,hl⟩,o⟩:=T.clear (List.mem_of_getElem? hx);walk_at "rd";refine ⟨k_tyL hl,k_clear hl ?_⟩;exact ⟨_,rfl,T',A.upd o hl⟩
 rintro σ H7 ⟨u9,rfl,T,A⟩;walk_at "rd";refine ⟨k_tyL T.at_,k_clear T.at_ ?_⟩;have A8:=A.upd (o:=.lst []) T.old T.at_;have S8:Same H9 (upd H7 f (.lst [])):=fun c o q=>by rw [upd_ne (ne_of_none q T.new)];exact T.same c o q
 generalize upd H7 f (.lst [])=H8 at A8 S8 ⊢;walk_at "rd";refine ⟨.ref p,ws,ts,ws.length,rfl,rv9.same S8,co,h8,l8,ho.wide,ho.bnd,fun f2 H12 S12 r12=>?_⟩;rw [hM] at r12;walk_at "rd";exact k_eqD r12.rep (A8.on S12).rep (ok_dM M) (ok_dM M) (fun _=>k _) fun z=>absurd rfl z
theorem sc_whole:FnScope ["value"] ["value"] (defScope (top 4)):=⟨rfl,rfl,rfl,by decide +kernel,rfl,by decide +kernel,by decide +kernel⟩
theorem sc_greatest_divisor:FnScope ["one","two","rest"] ["one","two"] (defScope (top 5)):=⟨rfl,rfl,rfl,by decide +kernel,rfl,by decide +kernel,by decide +kernel⟩
theorem sc_first_place:FnScope ["row","place","number"] ["row"] (defScope (top 7)):=⟨rfl,rfl,rfl,by decide +kernel,rfl,by decide +kernel,by decide +kernel⟩
theorem sc_unit_row:FnScope ["size","own"] ["size","own"] (defScope (top 8)):=⟨rfl,rfl,rfl,by decide +kernel,rfl,by decide +kernel,by decide +kernel⟩
theorem sc_unit_rows:FnScope ["size"] ["size"] (defScope (top 9)):=⟨rfl,rfl,rfl,by decide +kernel,rfl,by decide +kernel,by decide +kernel⟩
theorem sc_common_divisor:FnScope ["row","divisor","number"] ["row"] (defScope (top 10)):=⟨rfl,rfl,rfl,by decide +kernel,rfl,by decide +kernel,by decide +kernel⟩
theorem sc_lowest:FnScope ["row","place","divisor"] ["row"] (defScope (top 11)):=⟨rfl,rfl,rfl,by decide +kernel,rfl,by decide +kernel,by decide +kernel⟩
theorem sc_cleared:FnScope ["row","stairs","stair","place"] ["row","stairs"] (defScope (top 12)):=⟨rfl,rfl,rfl,by decide +kernel,rfl,by decide +kernel,by decide +kernel⟩
theorem sc_sifted:FnScope ["rows","stairs","free","makers","units","place","row","rest"] ["rows"] (defScope (top 13)):=⟨rfl,rfl,rfl,by decide +kernel,rfl,by decide +kernel,by decide +kernel⟩
theorem sc_free_places:FnScope ["rows"] ["rows"] (defScope (top 14)):=⟨rfl,rfl,rfl,by decide +kernel,rfl,by decide +kernel,by decide +kernel⟩
theorem sc_nought_makers:FnScope ["rows"] ["rows"] (defScope (top 15)):=⟨rfl,rfl,rfl,by decide +kernel,rfl,by decide +kernel,by decide +kernel⟩
theorem sc_heaps_of:FnScope ["turnings","found","turning"] ["turnings"] (defScope (top 17)):=⟨rfl,rfl,rfl,by decide +kernel,rfl,by decide +kernel,by decide +kernel⟩
theorem sc_heaps:FnScope ["vessel"] ["vessel"] (defScope (top 18)):=⟨rfl,rfl,rfl,by decide +kernel,rfl,by decide +kernel,by decide +kernel⟩
theorem sc_turning_at:FnScope ["vessel","number","turnings"] ["vessel","number"] (defScope (top 19)):=⟨rfl,rfl,rfl,by decide +kernel,rfl,by decide +kernel,by decide +kernel⟩
theorem sc_change:FnScope ["vessel","number","turning"] ["vessel","number"] (defScope (top 20)):=⟨rfl,rfl,rfl,by decide +kernel,rfl,by decide +kernel,by decide +kernel⟩
theorem sc_changes:FnScope ["vessel"] ["vessel"] (defScope (top 21)):=⟨rfl,rfl,rfl,by decide +kernel,rfl,by decide +kernel,by decide +kernel⟩
theorem sc_free:FnScope ["vessel"] ["vessel"] (defScope (top 23)):=⟨rfl,rfl,rfl,by decide +kernel,rfl,by decide +kernel,by decide +kernel⟩
theorem sc_heap_numbers:FnScope ["vessel","numbers","number","heap"] ["vessel"] (defScope (top 25)):=⟨rfl,rfl,rfl,by decide +kernel,rfl,by decide +kernel,by decide +kernel⟩
theorem sc_places_of:FnScope ["things","thing"] ["things","thing"] (defScope (top 26)):=⟨rfl,rfl,rfl,by decide +kernel,rfl,by decide +kernel,by decide +kernel⟩
theorem sc_lots:FnScope ["vessel","firsts","one","two","lesser","greater"] ["vessel"] (defScope (top 27)):=⟨rfl,rfl,rfl,by decide +kernel,rfl,by decide +kernel,by decide +kernel⟩
theorem sc_lack:FnScope ["vessel"] ["vessel"] (defScope (top 29)):=⟨rfl,rfl,rfl,by decide +kernel,rfl,by decide +kernel,by decide +kernel⟩
theorem sc_lot_marks:FnScope ["number","told_lots"] ["number","told_lots"] (defScope (top 30)):=⟨rfl,rfl,rfl,by decide +kernel,rfl,by decide +kernel,by decide +kernel⟩
theorem sc_lack_rows:FnScope ["vessel","told_lots"] ["vessel"] (defScope (top 31)):=⟨rfl,rfl,rfl,by decide +kernel,rfl,by decide +kernel,by decide +kernel⟩
theorem sc_law_cell_at:FnScope ["_law_script","_law_k"] ["_law_script","_law_k"] (defScope (top 33)):=⟨rfl,rfl,rfl,by decide +kernel,rfl,by decide +kernel,by decide +kernel⟩
theorem sc_law_mixed:FnScope ["_law_cell","_law_place","_law_number"] ["_law_cell","_law_place"] (defScope (top 34)):=⟨rfl,rfl,rfl,by decide +kernel,rfl,by decide +kernel,by decide +kernel⟩
theorem sc_law_divisor:FnScope ["_law_one","_law_two"] ["_law_one","_law_two"] (defScope (top 35)):=⟨rfl,rfl,rfl,by decide +kernel,rfl,by decide +kernel,by decide +kernel⟩
theorem sc_law_lowest:FnScope ["_law_top","_law_bottom","_law_by"] ["_law_top","_law_bottom"] (defScope (top 36)):=⟨rfl,rfl,rfl,by decide +kernel,rfl,by decide +kernel,by decide +kernel⟩
theorem sc_law_words:FnScope ["_law_number","_law_many","_law_letters","_law_found","_law_k","_law_first"] ["_law_number","_law_many"] (defScope (top 37)):=⟨rfl,rfl,rfl,by decide +kernel,rfl,by decide +kernel,by decide +kernel⟩
theorem sc_law_heap:FnScope ["_law_cell","_law_k","_law_many","_law_top","_law_plain","_law_number","_law_found","_law_j"] ["_law_cell","_law_k","_law_many","_law_top","_law_plain"] (defScope (top 38)):=⟨rfl,rfl,rfl,by decide +kernel,rfl,by decide +kernel,by decide +kernel⟩
theorem sc_law_pool:FnScope ["_law_script","_law_at","_law_many","_law_size_here","_law_top","_law_plain","_law_found","_law_k","_law_heap_here"] ["_law_script","_law_at","_law_many","_law_size_here","_law_top","_law_plain"] (defScope (top 39)):=⟨rfl,rfl,rfl,by decide +kernel,rfl,by decide +kernel,by decide +kernel⟩
theorem sc_law_pairs:FnScope ["_law_script","_law_at","_law_size_here","_law_kind","_law_plain","_law_found","_law_k","_law_after","_law_cell","_law_one","_law_step","_law_chosen","_law_two"] ["_law_script","_law_at","_law_size_here","_law_kind","_law_plain"] (defScope (top 40)):=⟨rfl,rfl,rfl,by decide +kernel,rfl,by decide +kernel,by decide +kernel⟩
theorem sc_law_pace:FnScope ["_law_cell","_law_kind"] ["_law_cell","_law_kind"] (defScope (top 41)):=⟨rfl,rfl,rfl,by decide +kernel,rfl,by decide +kernel,by decide +kernel⟩
theorem sc_law_vessel:FnScope ["_law_script","_law_at","_law_number","_law_many","_law_top","_law_plain","_law_pool_here","_law_pairs_here","_law_rows","_law_k","_law_cell","_law_one","_law_two"] ["_law_script","_law_at"] (defScope (top 42)):=⟨rfl,rfl,rfl,by decide +kernel,rfl,by decide +kernel,by decide +kernel⟩
theorem sc_law_whole:FnScope ["_law_found"] ["_law_found"] (defScope (top 43)):=⟨rfl,rfl,rfl,by decide +kernel,rfl,by decide +kernel,by decide +kernel⟩
theorem sc_law_heaps:FnScope ["_law_vessel_here","_law_found","_law_take","_law_give","_law_pace_here","_law_heap_here"] ["_law_vessel_here"] (defScope (top 44)):=⟨rfl,rfl,rfl,by decide +kernel,rfl,by decide +kernel,by decide +kernel⟩
theorem sc_law_ends:FnScope ["_law_vessel_here","_law_told"] ["_law_vessel_here"] (defScope (top 45)):=⟨rfl,rfl,rfl,by decide +kernel,rfl,by decide +kernel,by decide +kernel⟩
theorem sc_law_changes:FnScope ["_law_vessel_here","_law_found","_law_take","_law_give","_law_pace_here"] ["_law_vessel_here"] (defScope (top 46)):=⟨rfl,rfl,rfl,by decide +kernel,rfl,by decide +kernel,by decide +kernel⟩
theorem sc_law_reach:FnScope ["_law_ends_here","_law_one","_law_seen","_law_k","_law_here","_law_there"] ["_law_ends_here","_law_one"] (defScope (top 47)):=⟨rfl,rfl,rfl,by decide +kernel,rfl,by decide +kernel,by decide +kernel⟩
theorem sc_law_size:FnScope ["_law_rows","_law_left","_law_many","_law_width","_law_place","_law_picks","_law_by"] ["_law_rows"] (defScope (top 48)):=⟨rfl,rfl,rfl,by decide +kernel,rfl,by decide +kernel,by decide +kernel⟩
theorem sc_law_good_row:FnScope ["_law_row","_law_width","_law_by","_law_number","_law_above"] ["_law_row","_law_width"] (defScope (top 49)):=⟨rfl,rfl,rfl,by decide +kernel,rfl,by decide +kernel,by decide +kernel⟩
theorem sc_law_nought:FnScope ["_law_row","_law_other"] ["_law_row","_law_other"] (defScope (top 50)):=⟨rfl,rfl,rfl,by decide +kernel,rfl,by decide +kernel,by decide +kernel⟩
theorem sc_law_basis:FnScope ["_law_found","_law_rows","_law_width","_law_row","_law_other"] ["_law_found","_law_rows","_law_width"] (defScope (top 51)):=⟨rfl,rfl,rfl,by decide +kernel,rfl,by decide +kernel,by decide +kernel⟩
theorem sc_law_lots:FnScope ["_law_ends_here","_law_many","_law_both","_law_found","_law_k","_law_lot"] ["_law_ends_here","_law_many"] (defScope (top 52)):=⟨rfl,rfl,rfl,by decide +kernel,rfl,by decide +kernel,by decide +kernel⟩
theorem sc_law:FnScope ["_law_script","_law_vessel_here","_law_told","_law_rows","_law_due","_law_many","_law_stuff","_law_found","_law_held","_law_row"] ["_law_script"] (defScope (top 53)):=⟨rfl,rfl,rfl,by decide +kernel,rfl,by decide +kernel,by decide +kernel⟩
section
variable{P:Program}{w:World}{K:Fg}{mg:Str→Option Value}{base:Heap}
theorem ok_whole (F:FunAt K mg "whole" (top 4) ["value"]) (B:Blt mg)  : FnC P w K mg base CX0 1 "whole" ["value"] spWhole:=by
 refine F.ok sc_whole (fun vs H Q E h=>len_whole h) (fun f cdv A outer s H vs Q E hr h=>?_);have nd:=sc_whole.nd;have hpo:=fun {M A env}=>@PassesOwn.never M A env
 have hu:=hr.units;have hu1:=Nat.lt_of_le_of_lt (Nat.add_le_add_left (by decide:1≤64) _) hu;have own:OwnFr (cxOf CX0 P w K mg base ["value"] "whole" (defScope (top 4)) f cdv A outer s H E).nox:=⟨rfl,rfl,rfl⟩
 exact ⟨tWhole K,(pss_one (ps_ret (pe_and (pe_callB call_isi rfl B.isinstance bb_isinstance (pa_cons (pv 0) (pa_cons (pe_bltn rfl B.int bb_int rfl) pa_nil))) (pe_one (pe_not (pe_callB call_isi rfl B.isinstance bb_isinstance (pa_cons (pv 0) (pa_cons (pe_bltn rfl B.bool bb_bool rfl) pa_nil)))))))),(by obtain ⟨i,rfl,k⟩:=h;exact rd_whole k)⟩
theorem ok_greatest_divisor (F:FunAt K mg "greatest_divisor" (top 5) ["one","two"]) (B:Blt mg)  : FnC P w K mg base CX0 1 "greatest_divisor" ["one","two"] spDiv:=by
 refine F.ok sc_greatest_divisor (fun vs H Q E h=>len_div h) (fun f cdv A outer s H vs Q E hr h=>?_);have nd:=sc_greatest_divisor.nd;have hpo:=fun {M A env}=>@PassesOwn.never M A env
 have hu:=hr.units;have hu1:=Nat.lt_of_le_of_lt (Nat.add_le_add_left (by decide:1≤64) _) hu;have own:OwnFr (cxOf CX0 P w K mg base ["one","two","rest"] "greatest_divisor" (defScope (top 5)) f cdv A outer s H E).nox:=⟨rfl,rfl,rfl⟩
 exact ⟨tDiv,(pss_cons (ps_while hpo (pt_cmpR op_ne (pv 1) pe_int (nomark _))
 (pss_cons (ps_set (i:=2) nd rfl (by walk_at "o") (pe_op op_modN (pv 0) (pv 1)))
 (pss_cons (ps_set (i:=0) nd rfl (by walk_at "o") (pv 1))
 (pss_one (ps_set (i:=1) nd rfl (by walk_at "o") (pv 2))))))
 (pss_one (ps_ret (pe_callB call_abs rfl B.abs bb_abs (pa_cons (pv 0) pa_nil))))),(by obtain ⟨a,b,rfl,k⟩:=h;exact rd_div a b H _ k)⟩
theorem ok_first_place (F:FunAt K mg "first_place" (top 7) ["row"]) (B:Blt mg)  : FnC P w K mg base CX0 1 "first_place" ["row"] (spFirst K):=by
 refine F.ok sc_first_place (fun vs H Q E h=>len_first h) (fun f cdv A outer s H vs Q E hr h=>?_);have nd:=sc_first_place.nd;have hpo:=fun {M A env}=>@PassesOwn.never M A env
 have hu:=hr.units;have hu1:=Nat.lt_of_le_of_lt (Nat.add_le_add_left (by decide:1≤64) _) hu;have own:OwnFr (cxOf CX0 P w K mg base ["row","place","number"] "first_place" (defScope (top 7)) f cdv A outer s H E).nox:=⟨rfl,rfl,rfl⟩
 exact ⟨t_first K,(pss_cons (ps_for hpo rfl (pi_enum rfl B.enumerate (pa_cons (pv 0) pa_nil)) (pg_tup rfl (pgs_cons (pg_name (i:=1) nd rfl (by walk_at "o")) (pgs_cons (pg_name (i:=2) nd rfl (by walk_at "o")) pgs_nil)))
 (pss_one (ps_if (pt_cmpR op_ne (pv 2) pe_int (nomark _))
 (pss_one (ps_ret (pv 1)))
 pss_nil)))
 (pss_one (ps_ret pe_non))),(rd_first rfl h)⟩
theorem ok_unit_row (F:FunAt K mg "unit_row" (top 8) ["size","own"]) (B:Blt mg)  : FnC P w K mg base CX0 1 "unit_row" ["size","own"] (spUnitR K):=by
 refine F.ok sc_unit_row (fun vs H Q E h=>len_unitR h) (fun f cdv A outer s H vs Q E hr h=>?_);have nd:=sc_unit_row.nd;have hpo:=fun {M A env}=>@PassesOwn.never M A env
 have hu:=hr.units;have hu1:=Nat.lt_of_le_of_lt (Nat.add_le_add_left (by decide:1≤64) _) hu;have own:OwnFr (cxOf CX0 P w K mg base ["size","own"] "unit_row" (defScope (top 8)) f cdv A outer s H E).nox:=⟨rfl,rfl,rfl⟩
 exact ⟨t_unitR K,(pss_one (ps_ret (pe_lc (M:=["size","own"]) (by show CompS (defScope (top 8)) ["size","own"] ["size","own"] _ _;walk_at "c") nd rfl (pi_range1 rfl B.range (pa_cons (pv 0) pa_nil)) (fun _ _ _ _ _=>(pe_ifExp (pt_cmpR op_eq (pv 0) (pv 2) (nomark _)) pe_int pe_int))))),(rd_unitR rfl h)⟩
theorem ok_unit_rows (F:FunAt K mg "unit_rows" (top 9) ["size"]) (B:Blt mg) (c_unit_row:FnC P w K mg base CX0 1 "unit_row" ["size","own"] (spUnitR K)):FnC P w K mg base CX0 2 "unit_rows" ["size"] (spUnits K):=by
 refine F.ok sc_unit_rows (fun vs H Q E h=>len_units h) (fun f cdv A outer s H vs Q E hr h=>?_);have nd:=sc_unit_rows.nd;have hpo:=fun {M A env}=>@PassesOwn.never M A env
 have hu:=hr.units;have hu1:=Nat.lt_of_le_of_lt (Nat.add_le_add_left (by decide:1≤64) _) hu;have own:OwnFr (cxOf CX0 P w K mg base ["size"] "unit_rows" (defScope (top 9)) f cdv A outer s H E).nox:=⟨rfl,rfl,rfl⟩
 exact ⟨t_units K,(pss_one (ps_ret (pe_lc (M:=["size"]) (by show CompS (defScope (top 9)) ["size"] ["size"] _ _;walk_at "c") nd rfl (pi_range1 rfl B.range (pa_cons (pv 0) pa_nil)) (fun _ _ _ _ _=>(pe_callF c_unit_row hr rfl (pa_cons (pv 1) (pa_cons (pv 0) pa_nil))))))),(rd_units rfl h)⟩
theorem ok_common_divisor (F:FunAt K mg "common_divisor" (top 10) ["row"]) (B:Blt mg) (c_greatest_divisor:FnC P w K mg base CX0 1 "greatest_divisor" ["one","two"] spDiv):FnC P w K mg base CX0 2 "common_divisor" ["row"] (spCom K):=by
 refine F.ok sc_common_divisor (fun vs H Q E h=>len_com h) (fun f cdv A outer s H vs Q E hr h=>?_);have nd:=sc_common_divisor.nd;have hpo:=fun {M A env}=>@PassesOwn.never M A env
 have hu:=hr.units;have hu1:=Nat.lt_of_le_of_lt (Nat.add_le_add_left (by decide:1≤64) _) hu;have own:OwnFr (cxOf CX0 P w K mg base ["row","divisor","number"] "common_divisor" (defScope (top 10)) f cdv A outer s H E).nox:=⟨rfl,rfl,rfl⟩
 exact ⟨t_com K,(pss_cons (ps_set (i:=1) nd rfl (by walk_at "o") pe_int)
 (pss_cons (ps_for hpo rfl (pi_list (pv 0)) (pg_name (i:=2) nd rfl (by walk_at "o"))
 (pss_one (ps_set (i:=1) nd rfl (by walk_at "o") (pe_callF c_greatest_divisor hr rfl (pa_cons (pv 1) (pa_cons (pv 2) pa_nil))))))
 (pss_one (ps_ret (pv 1))))),(rd_com rfl h)⟩
theorem ok_lowest (F:FunAt K mg "lowest" (top 11) ["row"]) (B:Blt mg) (c_first_place:FnC P w K mg base CX0 2 "first_place" ["row"] (spFirst K)) (c_common_divisor:FnC P w K mg base CX0 2 "common_divisor" ["row"] (spCom K)):FnC P w K mg base CX0 3 "lowest" ["row"] (spLowR K):=by
 refine F.ok sc_lowest (fun vs H Q E h=>len_lowR h) (fun f cdv A outer s H vs Q E hr h=>?_);have nd:=sc_lowest.nd;have hpo:=fun {M A env}=>@PassesOwn.never M A env
 have hu:=hr.units;have hu1:=Nat.lt_of_le_of_lt (Nat.add_le_add_left (by decide:1≤64) _) hu;have own:OwnFr (cxOf CX0 P w K mg base ["row","place","divisor"] "lowest" (defScope (top 11)) f cdv A outer s H E).nox:=⟨rfl,rfl,rfl⟩
 exact ⟨t_lowR K,(pss_cons (ps_set (i:=1) nd rfl (by walk_at "o") (pe_callF c_first_place hr rfl (pa_cons (pv 0) pa_nil)))
 (pss_cons (ps_if (pt_cmpR op_isN (pv 1) pe_non (nomark _))
 (pss_one (ps_ret (pe_callTy call_list_of rfl B.list bb_list (pa_cons (pv 0) pa_nil))))
 pss_nil)
 (pss_cons (ps_set (i:=2) nd rfl (by walk_at "o") (pe_callF c_common_divisor hr rfl (pa_cons (pv 0) pa_nil)))
 (pss_cons (ps_if (pt_cmpR op_lt (pe_ix ix_list (pv 0) (pv 1) (fun _ _=>rfl)) pe_int (nomark _))
 (pss_one (ps_set (i:=2) nd rfl (by walk_at "o") (pe_un un_neg (pv 2))))
 pss_nil)
 (pss_one (ps_ret (pe_lc (M:=["row","place","divisor"]) (by show CompS (defScope (top 11)) ["row","place","divisor"] ["row","place","divisor"] _ _;walk_at "c") nd rfl (pi_list (pv 0)) (fun _ _ _ _ _=>(pe_op op_fdivW (pv 0) (pv 3)))))))))),(rd_lowR rfl h)⟩
theorem ok_cleared (F:FunAt K mg "cleared" (top 12) ["row","stairs"]) (B:Blt mg) (c_first_place:FnC P w K mg base CX0 3 "first_place" ["row"] (spFirst K)) (c_lowest:FnC P w K mg base CX0 3 "lowest" ["row"] (spLowR K)):FnC P w K mg base CX0 4 "cleared" ["row","stairs"] (spClr K):=by
 refine F.ok sc_cleared (fun vs H Q E h=>len_clrR h) (fun f cdv A outer s H vs Q E hr h=>?_);have nd:=sc_cleared.nd;have hpo:=fun {M A env}=>@PassesOwn.never M A env
 have hu:=hr.units;have hu1:=Nat.lt_of_le_of_lt (Nat.add_le_add_left (by decide:1≤64) _) hu;have own:OwnFr (cxOf CX0 P w K mg base ["row","stairs","stair","place"] "cleared" (defScope (top 12)) f cdv A outer s H E).nox:=⟨rfl,rfl,rfl⟩
 exact ⟨t_clrR K,(pss_cons (ps_for hpo rfl (pi_list (pv 1)) (pg_name (i:=2) nd rfl (by walk_at "o"))
 (pss_cons (ps_set (i:=3) nd rfl (by walk_at "o") (pe_callF c_first_place hr rfl (pa_cons (pv 2) pa_nil)))
 (pss_one (ps_set (i:=0) nd rfl (by walk_at "o") (pe_callF c_lowest hr rfl (pa_cons (pe_lcN ["number","step"] ["row","stairs","stair","place"] (by show CompS (defScope (top 12)) ["row","stairs","stair","place"] ["row","stairs","stair","place"] _ _;walk_at "c") rfl (pi_zip (k1:=.L) (k2:=.L) rfl B.zip (pa_cons (pv 0) (pa_cons (pv 2) pa_nil))) (fun _ _ _ _ _=>(pg_tup rfl (pgs_cons (pg_name (i:=0) (show (["number","step","row","stairs","stair","place"]:List Str).Nodup by decide +kernel) rfl (by walk_at "o")) (pgs_cons (pg_name (i:=1) (show (["number","step","row","stairs","stair","place"]:List Str).Nodup by decide +kernel) rfl (by walk_at "o")) pgs_nil)))) (fun _ _ _ _ _=>(pe_op op_sub (pe_op op_mulW (pe_ix ix_list (pv 4) (pv 5) (fun _ _=>rfl)) (pv 0)) (pe_op op_mulW (pe_ix ix_list (pv 2) (pv 5) (fun _ _=>rfl)) (pv 1))))) pa_nil))))))
 (pss_one (ps_ret (pv 0)))),(rd_clrR rfl h)⟩
theorem ok_sifted (F:FunAt K mg "sifted" (top 13) ["rows"]) (B:Blt mg) (c_unit_rows:FnC P w K mg base CX0 4 "unit_rows" ["size"] (spUnits K)) (c_cleared:FnC P w K mg base CX0 4 "cleared" ["row","stairs"] (spClr K)) (c_first_place:FnC P w K mg base CX0 4 "first_place" ["row"] (spFirst K)) (c_lowest:FnC P w K mg base CX0 4 "lowest" ["row"] (spLowR K)):FnC P w K mg base CX0 5 "sifted" ["rows"] (spSift K):=by
 refine F.ok sc_sifted (fun vs H Q E h=>len_sift h) (fun f cdv A outer s H vs Q E hr h=>?_);have nd:=sc_sifted.nd;have hpo:=fun {M A env}=>@PassesOwn.never M A env
 have hu:=hr.units;have hu1:=Nat.lt_of_le_of_lt (Nat.add_le_add_left (by decide:1≤64) _) hu;have own:OwnFr (cxOf CX0 P w K mg base ["rows","stairs","free","makers","units","place","row","rest"] "sifted" (defScope (top 13)) f cdv A outer s H E).nox:=⟨rfl,rfl,rfl⟩
 exact ⟨t_sift K,(pss_cons (ps_set (i:=1) nd rfl (by walk_at "o") (pe_lst pa_nil))
 (pss_cons (ps_set (i:=2) nd rfl (by walk_at "o") (pe_lst pa_nil))
 (pss_cons (ps_set (i:=3) nd rfl (by walk_at "o") (pe_lst pa_nil))
 (pss_cons (ps_set (i:=4) nd rfl (by walk_at "o") (pe_callF c_unit_rows hr rfl (pa_cons (pe_callB call_len_seq rfl B.len bb_len (pa_cons (pv 0) pa_nil)) pa_nil)))
 (pss_cons (ps_for hpo rfl (pi_enum rfl B.enumerate (pa_cons (pv 0) pa_nil)) (pg_tup rfl (pgs_cons (pg_name (i:=5) nd rfl (by walk_at "o")) (pgs_cons (pg_name (i:=6) nd rfl (by walk_at "o")) pgs_nil)))
 (pss_cons (ps_set (i:=7) nd rfl (by walk_at "o") (pe_callF c_cleared hr rfl (pa_cons (pe_op op_cat (pe_callTy call_list_of rfl B.list bb_list (pa_cons (pv 6) pa_nil)) (pe_ix ix_list (pv 4) (pv 5) (fun _ _=>rfl))) (pa_cons (pv 1) pa_nil))))
 (pss_one (ps_if (pt_cmpR op_lt (pe_callF c_first_place hr rfl (pa_cons (pv 7) pa_nil)) (pe_callB call_len_seq rfl B.len bb_len (pa_cons (pv 6) pa_nil)) (nomark _))
 (pss_cons (ps_expr (pe_bm PySem.F.plainAttrs_list PySem.F.slot_list_append PySem.F.type_list_append mt_append (pv 1) (pa_cons (pv 7) pa_nil)))
 (pss_one (ps_expr (pe_bm PySem.F.plainAttrs_list PySem.F.slot_list_append PySem.F.type_list_append mt_append (pv 2) (pa_cons (pv 5) pa_nil)))))
 (pss_one (ps_expr (pe_bm PySem.F.plainAttrs_list PySem.F.slot_list_append PySem.F.type_list_append mt_append (pv 3) (pa_cons (pe_callF c_lowest hr rfl (pa_cons (pe_slice sl_list (pv 7) (po_some (pe_callB call_len_seq rfl B.len bb_len (pa_cons (pv 6) pa_nil))) po_none) pa_nil)) pa_nil))))))))
 (pss_one (ps_ret (pe_tup (pa_cons (pv 2) (pa_cons (pv 3) pa_nil)))))))))),(rd_sift rfl h)⟩
theorem ok_free_places (F:FunAt K mg "free_places" (top 14) ["rows"]) (B:Blt mg) (c_sifted:FnC P w K mg base CX0 5 "sifted" ["rows"] (spSift K)):FnC P w K mg base CX0 6 "free_places" ["rows"] (spFreeP K):=by
 refine F.ok sc_free_places (fun vs H Q E h=>len_freeP h) (fun f cdv A outer s H vs Q E hr h=>?_);have nd:=sc_free_places.nd;have hpo:=fun {M A env}=>@PassesOwn.never M A env
 have hu:=hr.units;have hu1:=Nat.lt_of_le_of_lt (Nat.add_le_add_left (by decide:1≤64) _) hu;have own:OwnFr (cxOf CX0 P w K mg base ["rows"] "free_places" (defScope (top 14)) f cdv A outer s H E).nox:=⟨rfl,rfl,rfl⟩
 exact ⟨t_freeP K,(pss_one (ps_ret (pe_ix ix_tup (pe_callF c_sifted hr rfl (pa_cons (pv 0) pa_nil)) pe_int (fun _ _=>rfl)))),(rd_freeP rfl h)⟩
theorem ok_nought_makers (F:FunAt K mg "nought_makers" (top 15) ["rows"]) (B:Blt mg) (c_sifted:FnC P w K mg base CX0 5 "sifted" ["rows"] (spSift K)):FnC P w K mg base CX0 6 "nought_makers" ["rows"] (spMakers K):=by
 refine F.ok sc_nought_makers (fun vs H Q E h=>len_makers h) (fun f cdv A outer s H vs Q E hr h=>?_);have nd:=sc_nought_makers.nd;have hpo:=fun {M A env}=>@PassesOwn.never M A env
 have hu:=hr.units;have hu1:=Nat.lt_of_le_of_lt (Nat.add_le_add_left (by decide:1≤64) _) hu;have own:OwnFr (cxOf CX0 P w K mg base ["rows"] "nought_makers" (defScope (top 15)) f cdv A outer s H E).nox:=⟨rfl,rfl,rfl⟩
 exact ⟨t_makers K,(pss_one (ps_ret (pe_ix ix_tup (pe_callF c_sifted hr rfl (pa_cons (pv 0) pa_nil)) pe_int (fun _ _=>rfl)))),(rd_makers rfl h)⟩
theorem ok_heaps_of (F:FunAt K mg "heaps_of" (top 17) ["turnings"]) (B:Blt mg)  : FnC P w K mg base CX0 1 "heaps_of" ["turnings"] (spHeapsOf K):=by
 refine F.ok sc_heaps_of (fun vs H Q E h=>len_heapsOf h) (fun f cdv A outer s H vs Q E hr h=>?_);have nd:=sc_heaps_of.nd;have hpo:=fun {M A env}=>@PassesOwn.never M A env
 have hu:=hr.units;have hu1:=Nat.lt_of_le_of_lt (Nat.add_le_add_left (by decide:1≤64) _) hu;have own:OwnFr (cxOf CX0 P w K mg base ["turnings","found","turning"] "heaps_of" (defScope (top 17)) f cdv A outer s H E).nox:=⟨rfl,rfl,rfl⟩
 exact ⟨t_heapsOf K,(pss_cons (ps_set (i:=1) nd rfl (by walk_at "o") pe_dnewT)
 (pss_cons (ps_for hpo rfl (pi_tup (pv 0)) (pg_name (i:=2) nd rfl (by walk_at "o"))
 (pss_cons (ps_dput hu1 (pv 1) (pe_ix ix_tup (pv 2) pe_int (fun _ _=>rfl)) pe_bl rfl)
 (pss_one (ps_dput hu1 (pv 1) (pe_ix ix_tup (pv 2) pe_int (fun _ _=>rfl)) pe_bl rfl))))
 (pss_one (ps_ret (pe_callTy (call_listD rfl) rfl B.list bb_list (pa_cons (pv 1) pa_nil)))))),(rd_heapsOf rfl h)⟩
theorem ok_heaps (F:FunAt K mg "heaps" (top 18) ["vessel"]) (B:Blt mg) (c_heaps_of:FnC P w K mg base CX0 1 "heaps_of" ["turnings"] (spHeapsOf K)):FnC P w K mg base CX0 2 "heaps" ["vessel"] (spHeaps K):=by
 refine F.ok sc_heaps (fun vs H Q E h=>len_heaps h) (fun f cdv A outer s H vs Q E hr h=>?_);have nd:=sc_heaps.nd;have hpo:=fun {M A env}=>@PassesOwn.never M A env
 have hu:=hr.units;have hu1:=Nat.lt_of_le_of_lt (Nat.add_le_add_left (by decide:1≤64) _) hu;have own:OwnFr (cxOf CX0 P w K mg base ["vessel"] "heaps" (defScope (top 18)) f cdv A outer s H E).nox:=⟨rfl,rfl,rfl⟩
 exact ⟨t_heaps K,(pss_one (ps_ret (pe_callF c_heaps_of hr rfl (pa_cons (pe_ix ix_tup (pv 0) pe_int (fun _ _=>rfl)) pa_nil)))),(rd_heaps rfl h)⟩
theorem ok_turning_at (F:FunAt K mg "turning_at" (top 19) ["vessel","number"]) (B:Blt mg) (c_whole:FnC P w K mg base CX0 1 "whole" ["value"] spWhole):FnC P w K mg base CX0 2 "turning_at" ["vessel","number"] (spTurnAt K):=by
 refine F.ok sc_turning_at (fun vs H Q E h=>len_turnAt h) (fun f cdv A outer s H vs Q E hr h=>?_);have nd:=sc_turning_at.nd;have hpo:=fun {M A env}=>@PassesOwn.never M A env
 have hu:=hr.units;have hu1:=Nat.lt_of_le_of_lt (Nat.add_le_add_left (by decide:1≤64) _) hu;have own:OwnFr (cxOf CX0 P w K mg base ["vessel","number","turnings"] "turning_at" (defScope (top 19)) f cdv A outer s H E).nox:=⟨rfl,rfl,rfl⟩
 exact ⟨t_turnAt K,(pss_cons (ps_set (i:=2) nd rfl (by walk_at "o") (pe_ix ix_tup (pv 0) pe_int (fun _ _=>rfl)))
 (pss_cons (ps_if (PW.pt (pw_or (pt_not (pt_val (pe_callF c_whole hr rfl (pa_cons (pv 1) pa_nil)))) (pw_or1 (pt_not (pt_chain op_le op_lt pe_int (pv 1) (pe_callB call_len_seq rfl B.len bb_len (pa_cons (pv 2) pa_nil)))))))
 pss_never
 pss_nil)
 (pss_one (ps_ret (pe_ix ix_tup (pv 2) (pv 1) (fun _ _=>rfl)))))),(rd_turnAt rfl h)⟩
theorem ok_change (F:FunAt K mg "change" (top 20) ["vessel","number"]) (B:Blt mg) (c_turning_at:FnC P w K mg base CX0 2 "turning_at" ["vessel","number"] (spTurnAt K)):FnC P w K mg base CX0 3 "change" ["vessel","number"] (spChg K):=by
 refine F.ok sc_change (fun vs H Q E h=>len_chg h) (fun f cdv A outer s H vs Q E hr h=>?_);have nd:=sc_change.nd;have hpo:=fun {M A env}=>@PassesOwn.never M A env
 have hu:=hr.units;have hu1:=Nat.lt_of_le_of_lt (Nat.add_le_add_left (by decide:1≤64) _) hu;have own:OwnFr (cxOf CX0 P w K mg base ["vessel","number","turning"] "change" (defScope (top 20)) f cdv A outer s H E).nox:=⟨rfl,rfl,rfl⟩
 exact ⟨t_chg K,(pss_cons (ps_set (i:=2) nd rfl (by walk_at "o") (pe_callF c_turning_at hr rfl (pa_cons (pv 0) (pa_cons (pv 1) pa_nil))))
 (pss_one (ps_ret (pe_callTy call_tuple_of rfl B.tuple bb_tuple (pa_cons (pe_lcN ["ahead","behind"] ["vessel","number","turning"] (by show CompS (defScope (top 20)) ["vessel","number","turning"] ["vessel","number","turning"] _ _;walk_at "c") rfl (pi_zip (k1:=.T) (k2:=.T) rfl B.zip (pa_cons (pe_ix ix_tup (pv 2) pe_int (fun _ _=>rfl)) (pa_cons (pe_ix ix_tup (pv 2) pe_int (fun _ _=>rfl)) pa_nil))) (fun _ _ _ _ _=>(pg_tup rfl (pgs_cons (pg_name (i:=0) (show (["ahead","behind","vessel","number","turning"]:List Str).Nodup by decide +kernel) rfl (by walk_at "o")) (pgs_cons (pg_name (i:=1) (show (["ahead","behind","vessel","number","turning"]:List Str).Nodup by decide +kernel) rfl (by walk_at "o")) pgs_nil)))) (fun _ _ _ _ _=>(pe_op op_sub (pv 1) (pv 0)))) pa_nil))))),(rd_chg rfl h)⟩
theorem ok_changes (F:FunAt K mg "changes" (top 21) ["vessel"]) (B:Blt mg) (c_change:FnC P w K mg base CX0 3 "change" ["vessel","number"] (spChg K)):FnC P w K mg base CX0 4 "changes" ["vessel"] (spChgs K):=by
 refine F.ok sc_changes (fun vs H Q E h=>len_chgs h) (fun f cdv A outer s H vs Q E hr h=>?_);have nd:=sc_changes.nd;have hpo:=fun {M A env}=>@PassesOwn.never M A env
 have hu:=hr.units;have hu1:=Nat.lt_of_le_of_lt (Nat.add_le_add_left (by decide:1≤64) _) hu;have own:OwnFr (cxOf CX0 P w K mg base ["vessel"] "changes" (defScope (top 21)) f cdv A outer s H E).nox:=⟨rfl,rfl,rfl⟩
 exact ⟨t_chgs K,(pss_one (ps_ret (pe_lc (M:=["vessel"]) (by show CompS (defScope (top 21)) ["vessel"] ["vessel"] _ _;walk_at "c") nd rfl (pi_range1 rfl B.range (pa_cons (pe_callB call_len_seq rfl B.len bb_len (pa_cons (pe_ix ix_tup (pv 0) pe_int (fun _ _=>rfl)) pa_nil)) pa_nil)) (fun _ _ _ _ _=>(pe_callF c_change hr rfl (pa_cons (pv 1) (pa_cons (pv 0) pa_nil))))))),(rd_chgs rfl h)⟩
theorem ok_free (F:FunAt K mg "free" (top 23) ["vessel"]) (B:Blt mg) (c_free_places:FnC P w K mg base CX0 6 "free_places" ["rows"] (spFreeP K)) (c_changes:FnC P w K mg base CX0 6 "changes" ["vessel"] (spChgs K)):FnC P w K mg base CX0 7 "free" ["vessel"] (spFreeV K):=by
 refine F.ok sc_free (fun vs H Q E h=>len_freeV h) (fun f cdv A outer s H vs Q E hr h=>?_);have nd:=sc_free.nd;have hpo:=fun {M A env}=>@PassesOwn.never M A env
 have hu:=hr.units;have hu1:=Nat.lt_of_le_of_lt (Nat.add_le_add_left (by decide:1≤64) _) hu;have own:OwnFr (cxOf CX0 P w K mg base ["vessel"] "free" (defScope (top 23)) f cdv A outer s H E).nox:=⟨rfl,rfl,rfl⟩
 exact ⟨t_freeV K,(pss_one (ps_ret (pe_callF c_free_places hr rfl (pa_cons (pe_callF c_changes hr rfl (pa_cons (pv 0) pa_nil)) pa_nil)))),(rd_freeV rfl h)⟩
theorem ok_heap_numbers (F:FunAt K mg "heap_numbers" (top 25) ["vessel"]) (B:Blt mg) (c_heaps:FnC P w K mg base CX0 2 "heaps" ["vessel"] (spHeaps K)):FnC P w K mg base CX0 3 "heap_numbers" ["vessel"] (spEnds K):=by
 refine F.ok sc_heap_numbers (fun vs H Q E h=>len_ends h) (fun f cdv A outer s H vs Q E hr h=>?_);have nd:=sc_heap_numbers.nd;have hpo:=fun {M A env}=>@PassesOwn.never M A env
 have hu:=hr.units;have hu1:=Nat.lt_of_le_of_lt (Nat.add_le_add_left (by decide:1≤64) _) hu;have own:OwnFr (cxOf CX0 P w K mg base ["vessel","numbers","number","heap"] "heap_numbers" (defScope (top 25)) f cdv A outer s H E).nox:=⟨rfl,rfl,rfl⟩
 exact ⟨t_hnum K,(pss_cons (ps_set (i:=1) nd rfl (by walk_at "o") pe_dnewT)
 (pss_cons (ps_for hpo rfl (pi_enum rfl B.enumerate (pa_cons (pe_callF c_heaps hr rfl (pa_cons (pv 0) pa_nil)) pa_nil)) (pg_tup rfl (pgs_cons (pg_name (i:=2) nd rfl (by walk_at "o")) (pgs_cons (pg_name (i:=3) nd rfl (by walk_at "o")) pgs_nil)))
 (pss_one (ps_dput hu1 (pv 1) (pv 3) (pv 2) rfl)))
 (pss_one (ps_ret (pe_lc (M:=["vessel","numbers","number","heap"]) (by show CompS (defScope (top 25)) ["vessel","numbers","number","heap"] ["vessel","numbers","number","heap"] _ _;walk_at "c") nd rfl (pi_tup (pe_ix ix_tup (pv 0) pe_int (fun _ _=>rfl))) (fun _ _ _ _ _=>(pe_tup (pa_cons (pe_dget hu1 (pv 2) (pe_ix ix_tup (pv 0) pe_int (fun _ _=>rfl)) (fun _ _=>rfl)) (pa_cons (pe_dget hu1 (pv 2) (pe_ix ix_tup (pv 0) pe_int (fun _ _=>rfl)) (fun _ _=>rfl)) pa_nil))))))))),(rd_hnum rfl h)⟩
theorem ok_places_of (F:FunAt K mg "places_of" (top 26) ["things","thing"]) (B:Blt mg)  : FnC P w K mg base CX0 1 "places_of" ["things","thing"] (spPlaces K):=by
 refine F.ok sc_places_of (fun vs H Q E h=>len_places h) (fun f cdv A outer s H vs Q E hr h=>?_);have nd:=sc_places_of.nd;have hpo:=fun {M A env}=>@PassesOwn.never M A env
 have hu:=hr.units;have hu1:=Nat.lt_of_le_of_lt (Nat.add_le_add_left (by decide:1≤64) _) hu;have own:OwnFr (cxOf CX0 P w K mg base ["things","thing"] "places_of" (defScope (top 26)) f cdv A outer s H E).nox:=⟨rfl,rfl,rfl⟩
 exact ⟨t_places K,(pss_one (ps_ret (pe_lcF ["place","other"] ["things","thing"] (by show CompS (defScope (top 26)) ["things","thing"] ["things","thing"] _ _;walk_at "c") rfl (pi_enum rfl B.enumerate (pa_cons (pv 0) pa_nil)) (fun _ _ _ _ _=>(pg_tup rfl (pgs_cons (pg_name (i:=0) (show (["place","other","things","thing"]:List Str).Nodup by decide +kernel) rfl (by walk_at "o")) (pgs_cons (pg_name (i:=1) (show (["place","other","things","thing"]:List Str).Nodup by decide +kernel) rfl (by walk_at "o")) pgs_nil)))) (fun _ _ _ _ _=>(pt_cmpR op_eq (pv 1) (pv 3) (nomark _))) (fun _ _ _ _ _=>(pv 0))))),(rd_places rfl h)⟩
theorem ok_lots (F:FunAt K mg "lots" (top 27) ["vessel"]) (B:Blt mg) (c_heap_numbers:FnC P w K mg base CX0 3 "heap_numbers" ["vessel"] (spEnds K)) (c_places_of:FnC P w K mg base CX0 3 "places_of" ["things","thing"] (spPlaces K)) (c_heaps:FnC P w K mg base CX0 3 "heaps" ["vessel"] (spHeaps K)):FnC P w K mg base CX0 4 "lots" ["vessel"] (spLots K):=by
 refine F.ok sc_lots (fun vs H Q E h=>len_lots h) (fun f cdv A outer s H vs Q E hr h=>?_);have nd:=sc_lots.nd;have hpo:=fun {M A env}=>@PassesOwn.never M A env
 have hu:=hr.units;have hu1:=Nat.lt_of_le_of_lt (Nat.add_le_add_left (by decide:1≤64) _) hu;have own:OwnFr (cxOf CX0 P w K mg base ["vessel","firsts","one","two","lesser","greater"] "lots" (defScope (top 27)) f cdv A outer s H E).nox:=⟨rfl,rfl,rfl⟩
 exact ⟨t_lots K,(pss_cons (ps_set (i:=1) nd rfl (by walk_at "o") (pe_listrange rfl rfl B.list rfl B.range (pe_callB call_len_seq rfl B.len bb_len (pa_cons (pe_callF c_heaps hr rfl (pa_cons (pv 0) pa_nil)) pa_nil))))
 (pss_cons (ps_for hpo rfl (pi_list (pe_callF c_heap_numbers hr rfl (pa_cons (pv 0) pa_nil))) (pg_tup rfl (pgs_cons (pg_name (i:=2) nd rfl (by walk_at "o")) (pgs_cons (pg_name (i:=3) nd rfl (by walk_at "o")) pgs_nil)))
 (pss_cons (ps_set (i:=4) nd rfl (by walk_at "o") (pe_callB (call_min2 rfl) rfl B.min bb_min (pa_cons (pe_ix ix_list (pv 1) (pv 2) (fun _ _=>rfl)) (pa_cons (pe_ix ix_list (pv 1) (pv 3) (fun _ _=>rfl)) pa_nil))))
 (pss_cons (ps_set (i:=5) nd rfl (by walk_at "o") (pe_callB (call_max2 rfl) rfl B.max bb_max (pa_cons (pe_ix ix_list (pv 1) (pv 2) (fun _ _=>rfl)) (pa_cons (pe_ix ix_list (pv 1) (pv 3) (fun _ _=>rfl)) pa_nil))))
 (pss_one (ps_set (i:=1) nd rfl (by walk_at "o") (pe_lc (M:=["vessel","firsts","one","two","lesser","greater"]) (by show CompS (defScope (top 27)) ["vessel","firsts","one","two","lesser","greater"] ["vessel","firsts","one","two","lesser","greater"] _ _;walk_at "c") nd rfl (pi_list (pv 1)) (fun _ _ _ _ _=>(pe_ifExp (pt_cmpR op_eq (pv 0) (pv 6) (nomark _)) (pv 5) (pv 0)))))))))
 (pss_one (ps_ret (pe_lc (M:=["vessel","firsts","one","two","lesser","greater"]) (by show CompS (defScope (top 27)) ["vessel","firsts","one","two","lesser","greater"] ["vessel","firsts","one","two","lesser","greater"] _ _;walk_at "c") nd rfl (pi_list (pe_sortset rfl rfl B.sorted rfl B.set (pv 1))) (fun _ _ _ _ _=>(pe_callF c_places_of hr rfl (pa_cons (pv 2) (pa_cons (pv 0) pa_nil))))))))),(rd_lots rfl h)⟩
theorem ok_lack (F:FunAt K mg "lack" (top 29) ["vessel"]) (B:Blt mg) (c_free:FnC P w K mg base CX0 7 "free" ["vessel"] (spFreeV K)) (c_heaps:FnC P w K mg base CX0 7 "heaps" ["vessel"] (spHeaps K)) (c_lots:FnC P w K mg base CX0 7 "lots" ["vessel"] (spLots K)):FnC P w K mg base CX0 8 "lack" ["vessel"] (spLack K):=by
 refine F.ok sc_lack (fun vs H Q E h=>len_lack h) (fun f cdv A outer s H vs Q E hr h=>?_);have nd:=sc_lack.nd;have hpo:=fun {M A env}=>@PassesOwn.never M A env
 have hu:=hr.units;have hu1:=Nat.lt_of_le_of_lt (Nat.add_le_add_left (by decide:1≤64) _) hu;have own:OwnFr (cxOf CX0 P w K mg base ["vessel"] "lack" (defScope (top 29)) f cdv A outer s H E).nox:=⟨rfl,rfl,rfl⟩
 exact ⟨t_lack K,(pss_one (ps_ret (pe_op op_sub (pe_op op_sub (pe_callB call_len_seq rfl B.len bb_len (pa_cons (pe_callF c_heaps hr rfl (pa_cons (pv 0) pa_nil)) pa_nil)) (pe_callB call_len_seq rfl B.len bb_len (pa_cons (pe_callF c_lots hr rfl (pa_cons (pv 0) pa_nil)) pa_nil))) (pe_callB call_len_seq rfl B.len bb_len (pa_cons (pe_callF c_free hr rfl (pa_cons (pv 0) pa_nil)) pa_nil))))),(rd_lack rfl h)⟩
theorem ok_lot_marks (F:FunAt K mg "lot_marks" (top 30) ["number","told_lots"]) (B:Blt mg)  : FnC P w K mg base CX0 1 "lot_marks" ["number","told_lots"] (spMarks K):=by
 refine F.ok sc_lot_marks (fun vs H Q E h=>len_marks h) (fun f cdv A outer s H vs Q E hr h=>?_);have nd:=sc_lot_marks.nd;have hpo:=fun {M A env}=>@PassesOwn.never M A env
 have hu:=hr.units;have hu1:=Nat.lt_of_le_of_lt (Nat.add_le_add_left (by decide:1≤64) _) hu;have own:OwnFr (cxOf CX0 P w K mg base ["number","told_lots"] "lot_marks" (defScope (top 30)) f cdv A outer s H E).nox:=⟨rfl,rfl,rfl⟩
 exact ⟨t_marks K,(pss_one (ps_ret (pe_lc (M:=["number","told_lots"]) (by show CompS (defScope (top 30)) ["number","told_lots"] ["number","told_lots"] _ _;walk_at "c") nd rfl (pi_list (pv 1)) (fun _ _ _ _ _=>(pe_ifExp (pt_cmpR (op_inD hu) (pv 1) (pv 0) (by with_unfolding_all rfl)) pe_int pe_int))))),(rd_marks rfl h)⟩
theorem ok_lack_rows (F:FunAt K mg "lack_rows" (top 31) ["vessel"]) (B:Blt mg) (c_lots:FnC P w K mg base CX0 6 "lots" ["vessel"] (spLots K)) (c_nought_makers:FnC P w K mg base CX0 6 "nought_makers" ["rows"] (spMakers K)) (c_lot_marks:FnC P w K mg base CX0 6 "lot_marks" ["number","told_lots"] (spMarks K)) (c_heaps:FnC P w K mg base CX0 6 "heaps" ["vessel"] (spHeaps K)):FnC P w K mg base CX0 7 "lack_rows" ["vessel"] (spLackR K):=by
 refine F.ok sc_lack_rows (fun vs H Q E h=>len_lackR h) (fun f cdv A outer s H vs Q E hr h=>?_);have nd:=sc_lack_rows.nd;have hpo:=fun {M A env}=>@PassesOwn.never M A env
 have hu:=hr.units;have hu1:=Nat.lt_of_le_of_lt (Nat.add_le_add_left (by decide:1≤64) _) hu;have own:OwnFr (cxOf CX0 P w K mg base ["vessel","told_lots"] "lack_rows" (defScope (top 31)) f cdv A outer s H E).nox:=⟨rfl,rfl,rfl⟩
 exact ⟨t_lackR K,(pss_cons (ps_set (i:=1) nd rfl (by walk_at "o") (pe_callF c_lots hr rfl (pa_cons (pv 0) pa_nil)))
 (pss_one (ps_ret (pe_callF c_nought_makers hr rfl (pa_cons (pe_lcN ["number","heap"] ["vessel","told_lots"] (by show CompS (defScope (top 31)) ["vessel","told_lots"] ["vessel","told_lots"] _ _;walk_at "c") rfl (pi_enum rfl B.enumerate (pa_cons (pe_callF c_heaps hr rfl (pa_cons (pv 0) pa_nil)) pa_nil)) (fun _ _ _ _ _=>(pg_tup rfl (pgs_cons (pg_name (i:=0) (show (["number","heap","vessel","told_lots"]:List Str).Nodup by decide +kernel) rfl (by walk_at "o")) (pgs_cons (pg_name (i:=1) (show (["number","heap","vessel","told_lots"]:List Str).Nodup by decide +kernel) rfl (by walk_at "o")) pgs_nil)))) (fun _ _ _ _ _=>(pe_op op_cat (pe_callTy call_list_of rfl B.list bb_list (pa_cons (pv 1) pa_nil)) (pe_callF c_lot_marks hr rfl (pa_cons (pv 0) (pa_cons (pv 3) pa_nil)))))) pa_nil))))),(rd_lackR rfl h)⟩
theorem ok_law_cell_at (F:FunAt K mg "_law_cell_at" (top 33) ["_law_script","_law_k"]) (B:Blt mg)  : FnC P w K mg base CX0 1 "_law_cell_at" ["_law_script","_law_k"] (spCell K):=by
 refine F.ok sc_law_cell_at (fun vs H Q E h=>len_cell h) (fun f cdv A outer s H vs Q E hr h=>?_);have nd:=sc_law_cell_at.nd;have hpo:=fun {M A env}=>@PassesOwn.never M A env
 have hu:=hr.units;have hu1:=Nat.lt_of_le_of_lt (Nat.add_le_add_left (by decide:1≤64) _) hu;have own:OwnFr (cxOf CX0 P w K mg base ["_law_script","_law_k"] "_law_cell_at" (defScope (top 33)) f cdv A outer s H E).nox:=⟨rfl,rfl,rfl⟩
 exact ⟨tCell K,(pss_cons (ps_if (pt_cmpR op_lt (pv 1) (pe_callB call_len_seq rfl B.len bb_len (pa_cons (pv 0) pa_nil)) (nomark _))
 (pss_one (ps_ret (pe_ix ix_list (pv 0) (pv 1) (fun _ _=>rfl))))
 pss_nil)
 (pss_one (ps_ret pe_int))),(by obtain ⟨a,ns,k,rfl,hS,h0,q⟩:=h;exact rd_cell hS h0 q)⟩
theorem ok_law_mixed (F:FunAt K mg "_law_mixed" (top 34) ["_law_cell","_law_place"]) (B:Blt mg)  : FnC P w K mg base CX0 1 "_law_mixed" ["_law_cell","_law_place"] spMix2:=by
 refine F.ok sc_law_mixed (fun vs H Q E h=>len_mix2 h) (fun f cdv A outer s H vs Q E hr h=>?_);have nd:=sc_law_mixed.nd;have hpo:=fun {M A env}=>@PassesOwn.never M A env
 have hu:=hr.units;have hu1:=Nat.lt_of_le_of_lt (Nat.add_le_add_left (by decide:1≤64) _) hu;have own:OwnFr (cxOf CX0 P w K mg base ["_law_cell","_law_place","_law_number"] "_law_mixed" (defScope (top 34)) f cdv A outer s H E).nox:=⟨rfl,rfl,rfl⟩
 exact ⟨t_mix2 K,(pss_cons (ps_set (i:=2) nd rfl (by walk_at "o") (pe_op op_mod (pe_op op_add (pe_op op_add (pe_op op_mul (pe_op op_mod (pv 0) pe_int) pe_int) (pe_op op_mul pe_int (pv 1))) pe_int) pe_int))
 (pss_cons (ps_set (i:=2) nd rfl (by walk_at "o") (pe_op op_mod (pe_op op_add (pe_op op_add (pe_op op_mul (pv 2) (pv 2)) (pe_op op_mul pe_int (pv 1))) pe_int) pe_int))
 (pss_one (ps_ret (pe_op op_mod (pe_op op_add (pe_op op_mul (pv 2) (pv 2)) pe_int) pe_int))))),(rd_mix2 rfl h)⟩
theorem ok_law_divisor (F:FunAt K mg "_law_divisor" (top 35) ["_law_one","_law_two"]) (B:Blt mg)  : FnC P w K mg base CX0 1 "_law_divisor" ["_law_one","_law_two"] spDiv:=by
 refine F.ok sc_law_divisor (fun vs H Q E h=>len_div h) (fun f cdv A outer s H vs Q E hr h=>?_);have nd:=sc_law_divisor.nd;have hpo:=fun {M A env}=>@PassesOwn.never M A env
 have hu:=hr.units;have hu1:=Nat.lt_of_le_of_lt (Nat.add_le_add_left (by decide:1≤64) _) hu;have own:OwnFr (cxOf CX0 P w K mg base ["_law_one","_law_two"] "_law_divisor" (defScope (top 35)) f cdv A outer s H E).nox:=⟨rfl,rfl,rfl⟩
 exact ⟨t_div2 K,(pss_cons (ps_while hpo (pt_cmpR op_ne (pv 1) pe_int (nomark _))
 (pss_one (ps_par (i:=0) (j:=1) rfl nd rfl rfl (by decide) rfl rfl (pa_cons (pv 1) (pa_cons (pe_op op_modN (pv 0) (pv 1)) pa_nil)) rfl)))
 (pss_one (ps_ret (pe_callB call_abs rfl B.abs bb_abs (pa_cons (pv 0) pa_nil))))),(rd_div2 rfl h)⟩
theorem ok_law_lowest (F:FunAt K mg "_law_lowest" (top 36) ["_law_top","_law_bottom"]) (B:Blt mg) (c_law_divisor:FnC P w K mg base CX0 1 "_law_divisor" ["_law_one","_law_two"] spDiv):FnC P w K mg base CX0 2 "_law_lowest" ["_law_top","_law_bottom"] (spLowP K):=by
 refine F.ok sc_law_lowest (fun vs H Q E h=>len_lowP h) (fun f cdv A outer s H vs Q E hr h=>?_);have nd:=sc_law_lowest.nd;have hpo:=fun {M A env}=>@PassesOwn.never M A env
 have hu:=hr.units;have hu1:=Nat.lt_of_le_of_lt (Nat.add_le_add_left (by decide:1≤64) _) hu;have own:OwnFr (cxOf CX0 P w K mg base ["_law_top","_law_bottom","_law_by"] "_law_lowest" (defScope (top 36)) f cdv A outer s H E).nox:=⟨rfl,rfl,rfl⟩
 exact ⟨t_low2 K,(pss_cons (ps_set (i:=2) nd rfl (by walk_at "o") (pe_callF c_law_divisor hr rfl (pa_cons (pv 0) (pa_cons (pv 1) pa_nil))))
 (pss_one (ps_ret (pe_tup (pa_cons (pe_op op_fdivW (pv 0) (pv 2)) (pa_cons (pe_op op_fdivW (pv 1) (pv 2)) pa_nil)))))),(rd_low2 rfl h)⟩
theorem ok_law_words (F:FunAt K mg "_law_words" (top 37) ["_law_number","_law_many"]) (B:Blt mg)  : FnC P w K mg base CX0 1 "_law_words" ["_law_number","_law_many"] (spWords2 K):=by
 refine F.ok sc_law_words (fun vs H Q E h=>len_words2 h) (fun f cdv A outer s H vs Q E hr h=>?_);have nd:=sc_law_words.nd;have hpo:=fun {M A env}=>@PassesOwn.never M A env
 have hu:=hr.units;have hu1:=Nat.lt_of_le_of_lt (Nat.add_le_add_left (by decide:1≤64) _) hu;have own:OwnFr (cxOf CX0 P w K mg base ["_law_number","_law_many","_law_letters","_law_found","_law_k","_law_first"] "_law_words" (defScope (top 37)) f cdv A outer s H E).nox:=⟨rfl,rfl,rfl⟩
 exact ⟨t_words2 K,(pss_cons (ps_set (i:=2) nd rfl (by walk_at "o") pe_str)
 (pss_cons (ps_set (i:=3) nd rfl (by walk_at "o") (pe_lst pa_nil))
 (pss_cons (ps_for hpo rfl (pi_range1 rfl B.range (pa_cons (pv 1) pa_nil)) (pg_name (i:=4) nd rfl (by walk_at "o"))
 (pss_cons (ps_set (i:=5) nd rfl (by walk_at "o") (pe_ix ix_str (pv 2) (pe_op op_mod (pe_op op_add (pv 0) (pe_op op_mul pe_int (pv 4))) pe_int) (fun _ _=>rfl)))
 (pss_one (ps_expr (pe_bm PySem.F.plainAttrs_list PySem.F.slot_list_append PySem.F.type_list_append mt_append (pv 3) (pa_cons (pe_op op_add_str (pe_op op_add_str (pv 5) (pe_slice sl_str pe_str po_none (po_some (pe_op op_mod (pe_op op_fdiv (pv 0) pe_int) pe_int)))) (pe_op op_repS (pv 5) (pe_op op_mod (pe_op op_fdiv (pv 0) pe_int) pe_int))) pa_nil))))))
 (pss_one (ps_ret (pe_callTy call_tuple_of rfl B.tuple bb_tuple (pa_cons (pv 3) pa_nil))))))),(rd_words2 rfl h)⟩
theorem ok_law_heap (F:FunAt K mg "_law_heap" (top 38) ["_law_cell","_law_k","_law_many","_law_top","_law_plain"]) (B:Blt mg) (c_law_mixed:FnC P w K mg base CX0 1 "_law_mixed" ["_law_cell","_law_place"] spMix2):FnC P w K mg base CX0 2 "_law_heap" ["_law_cell","_law_k","_law_many","_law_top","_law_plain"] (spHeap2 K):=by
 refine F.ok sc_law_heap (fun vs H Q E h=>len_heap2 h) (fun f cdv A outer s H vs Q E hr h=>?_);have nd:=sc_law_heap.nd;have hpo:=fun {M A env}=>@PassesOwn.never M A env
 have hu:=hr.units;have hu1:=Nat.lt_of_le_of_lt (Nat.add_le_add_left (by decide:1≤64) _) hu;have own:OwnFr (cxOf CX0 P w K mg base ["_law_cell","_law_k","_law_many","_law_top","_law_plain","_law_number","_law_found","_law_j"] "_law_heap" (defScope (top 38)) f cdv A outer s H E).nox:=⟨rfl,rfl,rfl⟩
 exact ⟨t_heap2 K,(pss_cons (ps_set (i:=5) nd rfl (by walk_at "o") (pv 0))
 (pss_cons (ps_if (pt_cmpR op_gt (pv 1) pe_int (nomark _))
 (pss_one (ps_set (i:=5) nd rfl (by walk_at "o") (pe_op op_fdiv (pv 0) pe_int)))
 pss_nil)
 (pss_cons (ps_set (i:=6) nd rfl (by walk_at "o") (pe_lst pa_nil))
 (pss_cons (ps_for hpo rfl (pi_range1 rfl B.range (pa_cons (pv 2) pa_nil)) (pg_name (i:=7) nd rfl (by walk_at "o"))
 (pss_one (ps_if (pt_val (pv 4))
 (pss_cons (ps_expr (pe_bm PySem.F.plainAttrs_list PySem.F.slot_list_append PySem.F.type_list_append mt_append (pv 6) (pa_cons (pe_op op_mod (pv 5) (pv 3)) pa_nil)))
 (pss_one (ps_set (i:=5) nd rfl (by walk_at "o") (pe_op op_fdiv (pv 5) (pv 3)))))
 (pss_one (ps_expr (pe_bm PySem.F.plainAttrs_list PySem.F.slot_list_append PySem.F.type_list_append mt_append (pv 6) (pa_cons (pe_op op_mod (pe_callF c_law_mixed hr rfl (pa_cons (pv 0) (pa_cons (pe_op op_add (pe_op op_mul pe_int (pv 1)) (pv 7)) pa_nil))) (pv 3)) pa_nil)))))))
 (pss_one (ps_ret (pe_callTy call_tuple_of rfl B.tuple bb_tuple (pa_cons (pv 6) pa_nil)))))))),(rd_heap2 rfl h)⟩
theorem ok_law_pool (F:FunAt K mg "_law_pool" (top 39) ["_law_script","_law_at","_law_many","_law_size_here","_law_top","_law_plain"]) (B:Blt mg) (c_law_heap:FnC P w K mg base CX0 2 "_law_heap" ["_law_cell","_law_k","_law_many","_law_top","_law_plain"] (spHeap2 K)) (c_law_cell_at:FnC P w K mg base CX0 2 "_law_cell_at" ["_law_script","_law_k"] (spCell K)):FnC P w K mg base CX0 3 "_law_pool" ["_law_script","_law_at","_law_many","_law_size_here","_law_top","_law_plain"] (spPool2 K):=by
 refine F.ok sc_law_pool (fun vs H Q E h=>len_pool2 h) (fun f cdv A outer s H vs Q E hr h=>?_);have nd:=sc_law_pool.nd;have hpo:=fun {M A env}=>@PassesOwn.never M A env
 have hu:=hr.units;have hu1:=Nat.lt_of_le_of_lt (Nat.add_le_add_left (by decide:1≤64) _) hu;have own:OwnFr (cxOf CX0 P w K mg base ["_law_script","_law_at","_law_many","_law_size_here","_law_top","_law_plain","_law_found","_law_k","_law_heap_here"] "_law_pool" (defScope (top 39)) f cdv A outer s H E).nox:=⟨rfl,rfl,rfl⟩
 exact ⟨t_pool2 K,(pss_cons (ps_set (i:=6) nd rfl (by walk_at "o") (pe_lst pa_nil))
 (pss_cons (ps_for hpo rfl (pi_range1 rfl B.range (pa_cons (pv 3) pa_nil)) (pg_name (i:=7) nd rfl (by walk_at "o"))
 (pss_cons (ps_set (i:=8) nd rfl (by walk_at "o") (pe_callF c_law_heap hr rfl (pa_cons (pe_callF c_law_cell_at hr rfl (pa_cons (pv 0) (pa_cons (pe_op op_add (pv 1) (pe_op op_mod (pv 7) pe_int)) pa_nil))) (pa_cons (pv 7) (pa_cons (pv 2) (pa_cons (pv 4) (pa_cons (pv 5) pa_nil)))))))
 (pss_one (ps_if (pt_cmpR (op_notInD hu) (pv 8) (pv 6) (by with_unfolding_all rfl))
 (pss_one (ps_expr (pe_bm PySem.F.plainAttrs_list PySem.F.slot_list_append PySem.F.type_list_append mt_append (pv 6) (pa_cons (pv 8) pa_nil))))
 pss_nil))))
 (pss_cons (ps_if (pt_cmpR op_eq (pe_callB call_len_seq rfl B.len bb_len (pa_cons (pv 6) pa_nil)) pe_int (nomark _))
 (pss_one (ps_expr (pe_bm PySem.F.plainAttrs_list PySem.F.slot_list_append PySem.F.type_list_append mt_append (pv 6) (pa_cons (pe_callTy call_tuple_of rfl B.tuple bb_tuple (pa_cons (pe_lc (M:=["_law_script","_law_at","_law_many","_law_size_here","_law_top","_law_plain","_law_found","_law_k","_law_heap_here"]) (by show CompS (defScope (top 39)) ["_law_script","_law_at","_law_many","_law_size_here","_law_top","_law_plain","_law_found","_law_k","_law_heap_here"] ["_law_script","_law_at","_law_many","_law_size_here","_law_top","_law_plain","_law_found","_law_k","_law_heap_here"] _ _;walk_at "c") nd rfl (pi_range1 rfl B.range (pa_cons (pv 2) pa_nil)) (fun _ _ _ _ _=>(pe_callTy call_int1 rfl B.int bb_int (pa_cons (pe_and (pe_cmpR op_eq (pv 0) pe_int (nomark _)) (pe_one (pe_cmpR op_eq (pe_ix ix_tup (pe_ix ix_list (pv 7) pe_int (fun _ _=>rfl)) pe_int (fun _ _=>rfl)) pe_int (nomark _)))) pa_nil)))) pa_nil)) pa_nil))))
 pss_nil)
 (pss_one (ps_ret (pv 6)))))),(rd_pool2 rfl h)⟩
theorem ok_law_pairs (F:FunAt K mg "_law_pairs" (top 40) ["_law_script","_law_at","_law_size_here","_law_kind","_law_plain"]) (B:Blt mg) (c_law_cell_at:FnC P w K mg base CX0 1 "_law_cell_at" ["_law_script","_law_k"] (spCell K)) (c_law_mixed:FnC P w K mg base CX0 1 "_law_mixed" ["_law_cell","_law_place"] spMix2):FnC P w K mg base CX0 2 "_law_pairs" ["_law_script","_law_at","_law_size_here","_law_kind","_law_plain"] (spPairs2 K):=by
 refine F.ok sc_law_pairs (fun vs H Q E h=>len_pairs2 h) (fun f cdv A outer s H vs Q E hr h=>?_);have nd:=sc_law_pairs.nd;have hpo:=fun {M A env}=>@PassesOwn.never M A env
 have hu:=hr.units;have hu1:=Nat.lt_of_le_of_lt (Nat.add_le_add_left (by decide:1≤64) _) hu;have own:OwnFr (cxOf CX0 P w K mg base ["_law_script","_law_at","_law_size_here","_law_kind","_law_plain","_law_found","_law_k","_law_after","_law_cell","_law_one","_law_step","_law_chosen","_law_two"] "_law_pairs" (defScope (top 40)) f cdv A outer s H E).nox:=⟨rfl,rfl,rfl⟩
 exact ⟨t_pairs2 K,(pss_cons (ps_set (i:=5) nd rfl (by walk_at "o") (pe_lst pa_nil))
 (pss_cons (ps_for hpo rfl (pi_range1 rfl B.range (pa_cons (pv 2) pa_nil)) (pg_name (i:=6) nd rfl (by walk_at "o"))
 (pss_cons (ps_set (i:=7) nd rfl (by walk_at "o") (pe_op op_mod (pe_op op_add (pv 6) pe_int) (pv 2)))
 (pss_cons (ps_if (PW.pt (pw_and (pt_cmpR op_eq (pv 3) pe_int (nomark _)) (pw_and1 (pt_cmpR op_gt (pv 2) pe_int (nomark _)))))
 (pss_one (ps_expr (pe_bm PySem.F.plainAttrs_list PySem.F.slot_list_append PySem.F.type_list_append mt_append (pv 5) (pa_cons (pe_tup (pa_cons (pv 6) (pa_cons (pe_op op_add (pe_op op_mul (pe_op op_fdiv (pv 6) pe_int) pe_int) (pe_op op_mod (pe_op op_add (pv 6) pe_int) pe_int)) pa_nil))) pa_nil))))
 (pss_one (ps_if (pt_cmpR op_gt (pv 3) pe_int (nomark _))
 (pss_one (ps_expr (pe_bm PySem.F.plainAttrs_list PySem.F.slot_list_append PySem.F.type_list_append mt_append (pv 5) (pa_cons (pe_tup (pa_cons (pv 6) (pa_cons (pv 7) pa_nil))) pa_nil))))
 pss_nil)))
 (pss_one (ps_if (pt_cmpR op_eq (pv 3) pe_int (nomark _))
 (pss_one (ps_expr (pe_bm PySem.F.plainAttrs_list PySem.F.slot_list_append PySem.F.type_list_append mt_append (pv 5) (pa_cons (pe_tup (pa_cons (pv 7) (pa_cons (pv 6) pa_nil))) pa_nil))))
 pss_nil)))))
 (pss_cons (ps_for hpo rfl (pi_range1 rfl B.range (pa_cons pe_int pa_nil)) (pg_name (i:=6) nd rfl (by walk_at "o"))
 (pss_cons (ps_set (i:=8) nd rfl (by walk_at "o") (pe_callF c_law_cell_at hr rfl (pa_cons (pv 0) (pa_cons (pe_op op_add (pv 1) (pv 6)) pa_nil))))
 (pss_one (ps_if (PW.pt (pw_or (pt_cmpR op_eq (pv 3) pe_int (nomark _)) (pw_or1 (pt_cmpR op_eq (pe_op op_mod (pv 8) pe_int) pe_int (nomark _)))))
 (pss_cons (ps_set (i:=9) nd rfl (by walk_at "o") (pe_op op_mod (pe_callF c_law_mixed hr rfl (pa_cons (pv 8) (pa_cons pe_int pa_nil))) (pv 2)))
 (pss_cons (ps_set (i:=10) nd rfl (by walk_at "o") (pe_op op_mod (pe_callF c_law_mixed hr rfl (pa_cons (pv 8) (pa_cons pe_int pa_nil))) (pe_op op_sub (pv 2) pe_int)))
 (pss_cons (ps_if (pt_val (pv 4))
 (pss_cons (ps_set (i:=9) nd rfl (by walk_at "o") (pe_op op_mod (pe_op op_mod (pe_op op_fdiv (pv 8) pe_int) pe_int) (pv 2)))
 (pss_one (ps_set (i:=10) nd rfl (by walk_at "o") (pe_op op_mod (pe_op op_mod (pe_op op_fdiv (pv 8) pe_int) pe_int) (pe_op op_sub (pv 2) pe_int)))))
 pss_nil)
 (pss_one (ps_expr (pe_bm PySem.F.plainAttrs_list PySem.F.slot_list_append PySem.F.type_list_append mt_append (pv 5) (pa_cons (pe_tup (pa_cons (pv 9) (pa_cons (pe_op op_mod (pe_op op_add (pe_op op_add (pv 9) pe_int) (pv 10)) (pv 2)) pa_nil))) pa_nil)))))))
 pss_nil))))
 (pss_cons (ps_set (i:=11) nd rfl (by walk_at "o") (pe_lst pa_nil))
 (pss_cons (ps_for hpo rfl (pi_list (pv 5)) (pg_tup rfl (pgs_cons (pg_name (i:=9) nd rfl (by walk_at "o")) (pgs_cons (pg_name (i:=12) nd rfl (by walk_at "o")) pgs_nil)))
 (pss_one (ps_if (PW.pt (pw_and (pt_cmpR (op_notInD hu) (pe_tup (pa_cons (pv 9) (pa_cons (pv 12) pa_nil))) (pv 11) (by with_unfolding_all rfl)) (pw_and (pt_cmpR op_lt (pv 12) (pv 2) (nomark _)) (pw_and1 (pt_cmpR op_lt (pe_callB call_len_seq rfl B.len bb_len (pa_cons (pv 11) pa_nil)) pe_int (nomark _))))))
 (pss_one (ps_expr (pe_bm PySem.F.plainAttrs_list PySem.F.slot_list_append PySem.F.type_list_append mt_append (pv 11) (pa_cons (pe_tup (pa_cons (pv 9) (pa_cons (pv 12) pa_nil))) pa_nil))))
 pss_nil)))
 (pss_one (ps_ret (pv 11)))))))),(rd_pairs2 rfl h)⟩
theorem ok_law_pace (F:FunAt K mg "_law_pace" (top 41) ["_law_cell","_law_kind"]) (B:Blt mg) (c_law_lowest:FnC P w K mg base CX0 2 "_law_lowest" ["_law_top","_law_bottom"] (spLowP K)):FnC P w K mg base CX0 3 "_law_pace" ["_law_cell","_law_kind"] (spPace2 K):=by
 refine F.ok sc_law_pace (fun vs H Q E h=>len_pace2 h) (fun f cdv A outer s H vs Q E hr h=>?_);have nd:=sc_law_pace.nd;have hpo:=fun {M A env}=>@PassesOwn.never M A env
 have hu:=hr.units;have hu1:=Nat.lt_of_le_of_lt (Nat.add_le_add_left (by decide:1≤64) _) hu;have own:OwnFr (cxOf CX0 P w K mg base ["_law_cell","_law_kind"] "_law_pace" (defScope (top 41)) f cdv A outer s H E).nox:=⟨rfl,rfl,rfl⟩
 exact ⟨t_pace2 K,(pss_cons (ps_if (pt_cmpR op_eq (pv 1) pe_int (nomark _))
 (pss_one (ps_ret (pe_tup (pa_cons pe_int (pa_cons pe_int pa_nil)))))
 pss_nil)
 (pss_cons (ps_if (pt_cmpR op_eq (pv 1) pe_int (nomark _))
 (pss_one (ps_ret (pe_callF c_law_lowest hr rfl (pa_cons (pe_op op_add pe_int (pe_op op_mod (pv 0) pe_int)) (pa_cons (pe_op op_add pe_int (pe_op op_mod (pe_op op_fdiv (pv 0) pe_int) pe_int)) pa_nil)))))
 pss_nil)
 (pss_one (ps_ret (pe_callF c_law_lowest hr rfl (pa_cons (pe_op op_add pe_int (pe_op op_mod (pv 0) (pe_op op_pow pe_int pe_int))) (pa_cons (pe_op op_add pe_int (pe_op op_mod (pe_op op_fdiv (pv 0) (pe_op op_pow pe_int pe_int)) (pe_op op_pow pe_int pe_int))) pa_nil))))))),(rd_pace2 rfl h)⟩
theorem ok_law_vessel (F:FunAt K mg "_law_vessel" (top 42) ["_law_script","_law_at"]) (B:Blt mg) (c_law_mixed:FnC P w K mg base CX0 3 "_law_mixed" ["_law_cell","_law_place"] spMix2) (c_law_pool:FnC P w K mg base CX0 3 "_law_pool" ["_law_script","_law_at","_law_many","_law_size_here","_law_top","_law_plain"] (spPool2 K)) (c_law_pairs:FnC P w K mg base CX0 3 "_law_pairs" ["_law_script","_law_at","_law_size_here","_law_kind","_law_plain"] (spPairs2 K)) (c_law_cell_at:FnC P w K mg base CX0 3 "_law_cell_at" ["_law_script","_law_k"] (spCell K)) (c_law_words:FnC P w K mg base CX0 3 "_law_words" ["_law_number","_law_many"] (spWords2 K)) (c_law_pace:FnC P w K mg base CX0 3 "_law_pace" ["_law_cell","_law_kind"] (spPace2 K)):FnC P w K mg base CX0 4 "_law_vessel" ["_law_script","_law_at"] (spVes2 K):=by
 refine F.ok sc_law_vessel (fun vs H Q E h=>len_ves2 h) (fun f cdv A outer s H vs Q E hr h=>?_);have nd:=sc_law_vessel.nd;have hpo:=fun {M A env}=>@PassesOwn.never M A env
 have hu:=hr.units;have hu1:=Nat.lt_of_le_of_lt (Nat.add_le_add_left (by decide:1≤64) _) hu;have own:OwnFr (cxOf CX0 P w K mg base ["_law_script","_law_at","_law_number","_law_many","_law_top","_law_plain","_law_pool_here","_law_pairs_here","_law_rows","_law_k","_law_cell","_law_one","_law_two"] "_law_vessel" (defScope (top 42)) f cdv A outer s H E).nox:=⟨rfl,rfl,rfl⟩
 exact ⟨t_ves2 K,(pss_cons (ps_set (i:=2) nd rfl (by walk_at "o") (pe_callF c_law_mixed hr rfl (pa_cons (pe_callF c_law_cell_at hr rfl (pa_cons (pv 0) (pa_cons (pv 1) pa_nil))) (pa_cons pe_int pa_nil))))
 (pss_cons (ps_set (i:=3) nd rfl (by walk_at "o") (pe_op op_add pe_int (pe_op op_mod (pv 2) pe_int)))
 (pss_cons (ps_set (i:=4) nd rfl (by walk_at "o") (pe_op op_add pe_int (pe_op op_mod (pe_op op_fdiv (pv 2) pe_int) pe_int)))
 (pss_cons (ps_set (i:=5) nd rfl (by walk_at "o") (pe_cmpR op_eq (pe_op op_mod (pe_op op_fdiv (pv 2) pe_int) pe_int) pe_int (nomark _)))
 (pss_cons (ps_set (i:=6) nd rfl (by walk_at "o") (pe_callF c_law_pool hr rfl (pa_cons (pv 0) (pa_cons (pe_op op_add (pv 1) pe_int) (pa_cons (pv 3) (pa_cons (pe_op op_add pe_int (pe_op op_mod (pe_op op_fdiv (pv 2) pe_int) pe_int)) (pa_cons (pv 4) (pa_cons (pv 5) pa_nil))))))))
 (pss_cons (ps_set (i:=7) nd rfl (by walk_at "o") (pe_callF c_law_pairs hr rfl (pa_cons (pv 0) (pa_cons (pe_op op_add (pv 1) pe_int) (pa_cons (pe_callB call_len_seq rfl B.len bb_len (pa_cons (pv 6) pa_nil)) (pa_cons (pe_op op_mod (pe_op op_fdiv (pv 2) pe_int) pe_int) (pa_cons (pv 5) pa_nil)))))))
 (pss_cons (ps_set (i:=8) nd rfl (by walk_at "o") (pe_lst pa_nil))
 (pss_cons (ps_for hpo rfl (pi_range1 rfl B.range (pa_cons (pe_callB call_len_seq rfl B.len bb_len (pa_cons (pv 7) pa_nil)) pa_nil)) (pg_name (i:=9) nd rfl (by walk_at "o"))
 (pss_cons (ps_set (i:=10) nd rfl (by walk_at "o") (pe_callF c_law_cell_at hr rfl (pa_cons (pv 0) (pa_cons (pe_op op_add (pe_op op_add (pv 1) pe_int) (pv 9)) pa_nil))))
 (pss_cons (ps_asg (pe_ix ix_list (pv 7) (pv 9) (fun _ _=>rfl)) (pg_tup rfl (pgs_cons (pg_name (i:=11) nd rfl (by walk_at "o")) (pgs_cons (pg_name (i:=12) nd rfl (by walk_at "o")) pgs_nil))))
 (pss_one (ps_expr (pe_bm PySem.F.plainAttrs_list PySem.F.slot_list_append PySem.F.type_list_append mt_append (pv 8) (pa_cons (pe_tup (pa_cons (pe_ix ix_list (pv 6) (pv 11) (fun _ _=>rfl)) (pa_cons (pe_ix ix_list (pv 6) (pv 12) (fun _ _=>rfl)) (pa_cons (pe_callF c_law_pace hr rfl (pa_cons (pe_op op_fdiv (pv 10) pe_int) (pa_cons (pe_op op_mod (pe_op op_fdiv (pv 2) pe_int) pe_int) pa_nil))) pa_nil)))) pa_nil)))))))
 (pss_one (ps_ret (pe_tup (pa_cons (pe_callF c_law_words hr rfl (pa_cons (pe_op op_fdiv (pv 2) pe_int) (pa_cons (pv 3) pa_nil))) (pa_cons (pe_callTy call_tuple_of rfl B.tuple bb_tuple (pa_cons (pv 8) pa_nil)) pa_nil))))))))))))),(rd_ves2 rfl h)⟩
theorem ok_law_whole (F:FunAt K mg "_law_whole" (top 43) ["_law_found"]) (B:Blt mg)  : FnC P w K mg base CX0 1 "_law_whole" ["_law_found"] spWhole:=by
 refine F.ok sc_law_whole (fun vs H Q E h=>len_whole h) (fun f cdv A outer s H vs Q E hr h=>?_);have nd:=sc_law_whole.nd;have hpo:=fun {M A env}=>@PassesOwn.never M A env
 have hu:=hr.units;have hu1:=Nat.lt_of_le_of_lt (Nat.add_le_add_left (by decide:1≤64) _) hu;have own:OwnFr (cxOf CX0 P w K mg base ["_law_found"] "_law_whole" (defScope (top 43)) f cdv A outer s H E).nox:=⟨rfl,rfl,rfl⟩
 exact ⟨tWhole K,(pss_one (ps_ret (pe_and (pe_callB call_isi rfl B.isinstance bb_isinstance (pa_cons (pv 0) (pa_cons (pe_bltn rfl B.int bb_int rfl) pa_nil))) (pe_one (pe_not (pe_callB call_isi rfl B.isinstance bb_isinstance (pa_cons (pv 0) (pa_cons (pe_bltn rfl B.bool bb_bool rfl) pa_nil)))))))),(by obtain ⟨i,rfl,k⟩:=h;exact rd_whole k)⟩
theorem ok_law_heaps (F:FunAt K mg "_law_heaps" (top 44) ["_law_vessel_here"]) (B:Blt mg)  : FnC P w K mg base CX0 1 "_law_heaps" ["_law_vessel_here"] (spHeaps K):=by
 refine F.ok sc_law_heaps (fun vs H Q E h=>len_heaps h) (fun f cdv A outer s H vs Q E hr h=>?_);have nd:=sc_law_heaps.nd;have hpo:=fun {M A env}=>@PassesOwn.never M A env
 have hu:=hr.units;have hu1:=Nat.lt_of_le_of_lt (Nat.add_le_add_left (by decide:1≤64) _) hu;have own:OwnFr (cxOf CX0 P w K mg base ["_law_vessel_here","_law_found","_law_take","_law_give","_law_pace_here","_law_heap_here"] "_law_heaps" (defScope (top 44)) f cdv A outer s H E).nox:=⟨rfl,rfl,rfl⟩
 exact ⟨t_lheaps K,(pss_cons (ps_set (i:=1) nd rfl (by walk_at "o") (pe_lst pa_nil))
 (pss_cons (ps_for hpo rfl (pi_tup (pe_ix ix_tup (pv 0) pe_int (fun _ _=>rfl))) (pg_tup rfl (pgs_cons (pg_name (i:=2) nd rfl (by walk_at "o")) (pgs_cons (pg_name (i:=3) nd rfl (by walk_at "o")) (pgs_cons (pg_name (i:=4) nd rfl (by walk_at "o")) pgs_nil))))
 (pss_one (ps_for hpo rfl (pi_list (pe_lst (pa_cons (pv 2) (pa_cons (pv 3) pa_nil)))) (pg_name (i:=5) nd rfl (by walk_at "o"))
 (pss_one (ps_if (pt_cmpR (op_notInD hu) (pv 5) (pv 1) (by with_unfolding_all rfl))
 (pss_one (ps_expr (pe_bm PySem.F.plainAttrs_list PySem.F.slot_list_append PySem.F.type_list_append mt_append (pv 1) (pa_cons (pv 5) pa_nil))))
 pss_nil)))))
 (pss_one (ps_ret (pv 1))))),(rd_lheaps rfl h)⟩
theorem ok_law_ends (F:FunAt K mg "_law_ends" (top 45) ["_law_vessel_here"]) (B:Blt mg) (c_law_heaps:FnC P w K mg base CX0 1 "_law_heaps" ["_law_vessel_here"] (spHeaps K)):FnC P w K mg base CX0 2 "_law_ends" ["_law_vessel_here"] (spEnds K):=by
 refine F.ok sc_law_ends (fun vs H Q E h=>len_ends h) (fun f cdv A outer s H vs Q E hr h=>?_);have nd:=sc_law_ends.nd;have hpo:=fun {M A env}=>@PassesOwn.never M A env
 have hu:=hr.units;have hu1:=Nat.lt_of_le_of_lt (Nat.add_le_add_left (by decide:1≤64) _) hu;have own:OwnFr (cxOf CX0 P w K mg base ["_law_vessel_here","_law_told"] "_law_ends" (defScope (top 45)) f cdv A outer s H E).nox:=⟨rfl,rfl,rfl⟩
 exact ⟨t_lends K,(pss_cons (ps_set (i:=1) nd rfl (by walk_at "o") (pe_callF c_law_heaps hr rfl (pa_cons (pv 0) pa_nil)))
 (pss_one (ps_ret (pe_lc (M:=["_law_vessel_here","_law_told"]) (by show CompS (defScope (top 45)) ["_law_vessel_here","_law_told"] ["_law_vessel_here","_law_told"] _ _;walk_at "c") nd rfl (pi_tup (pe_ix ix_tup (pv 0) pe_int (fun _ _=>rfl))) (fun _ _ _ _ _=>(pe_tup (pa_cons (pe_bm PySem.F.plainAttrs_list PySem.F.slot_list_index PySem.F.type_list_index (mt_index hu) (pv 2) (pa_cons (pe_ix ix_tup (pv 0) pe_int (fun _ _=>rfl)) pa_nil)) (pa_cons (pe_bm PySem.F.plainAttrs_list PySem.F.slot_list_index PySem.F.type_list_index (mt_index hu) (pv 2) (pa_cons (pe_ix ix_tup (pv 0) pe_int (fun _ _=>rfl)) pa_nil)) pa_nil)))))))),(rd_lends rfl h)⟩
theorem ok_law_changes (F:FunAt K mg "_law_changes" (top 46) ["_law_vessel_here"]) (B:Blt mg)  : FnC P w K mg base CX0 1 "_law_changes" ["_law_vessel_here"] (spChanges K):=by
 refine F.ok sc_law_changes (fun vs H Q E h=>len_changes h) (fun f cdv A outer s H vs Q E hr h=>?_);have nd:=sc_law_changes.nd;have hpo:=fun {M A env}=>@PassesOwn.never M A env
 have hu:=hr.units;have hu1:=Nat.lt_of_le_of_lt (Nat.add_le_add_left (by decide:1≤64) _) hu;have own:OwnFr (cxOf CX0 P w K mg base ["_law_vessel_here","_law_found","_law_take","_law_give","_law_pace_here"] "_law_changes" (defScope (top 46)) f cdv A outer s H E).nox:=⟨rfl,rfl,rfl⟩
 exact ⟨t_lchgs K,(pss_cons (ps_set (i:=1) nd rfl (by walk_at "o") (pe_lst pa_nil))
 (pss_cons (ps_for hpo rfl (pi_tup (pe_ix ix_tup (pv 0) pe_int (fun _ _=>rfl))) (pg_tup rfl (pgs_cons (pg_name (i:=2) nd rfl (by walk_at "o")) (pgs_cons (pg_name (i:=3) nd rfl (by walk_at "o")) (pgs_cons (pg_name (i:=4) nd rfl (by walk_at "o")) pgs_nil))))
 (pss_one (ps_expr (pe_bm PySem.F.plainAttrs_list PySem.F.slot_list_append PySem.F.type_list_append mt_append (pv 1) (pa_cons (pe_lcN ["_law_one","_law_two"] ["_law_vessel_here","_law_found","_law_take","_law_give","_law_pace_here"] (by show CompS (defScope (top 46)) ["_law_vessel_here","_law_found","_law_take","_law_give","_law_pace_here"] ["_law_vessel_here","_law_found","_law_take","_law_give","_law_pace_here"] _ _;walk_at "c") rfl (pi_zip (k1:=.T) (k2:=.T) rfl B.zip (pa_cons (pv 2) (pa_cons (pv 3) pa_nil))) (fun _ _ _ _ _=>(pg_tup rfl (pgs_cons (pg_name (i:=0) (show (["_law_one","_law_two","_law_vessel_here","_law_found","_law_take","_law_give","_law_pace_here"]:List Str).Nodup by decide +kernel) rfl (by walk_at "o")) (pgs_cons (pg_name (i:=1) (show (["_law_one","_law_two","_law_vessel_here","_law_found","_law_take","_law_give","_law_pace_here"]:List Str).Nodup by decide +kernel) rfl (by walk_at "o")) pgs_nil)))) (fun _ _ _ _ _=>(pe_op op_sub (pv 1) (pv 0)))) pa_nil)))))
 (pss_one (ps_ret (pv 1))))),(rd_lchgs rfl h)⟩
theorem ok_law_reach (F:FunAt K mg "_law_reach" (top 47) ["_law_ends_here","_law_one"]) (B:Blt mg)  : FnC P w K mg base CX0 1 "_law_reach" ["_law_ends_here","_law_one"] (spReach K):=by
 refine F.ok sc_law_reach (fun vs H Q E h=>len_reach h) (fun f cdv A outer s H vs Q E hr h=>?_);have nd:=sc_law_reach.nd;have hpo:=fun {M A env}=>@PassesOwn.never M A env
 have hu:=hr.units;have hu1:=Nat.lt_of_le_of_lt (Nat.add_le_add_left (by decide:1≤64) _) hu;have own:OwnFr (cxOf CX0 P w K mg base ["_law_ends_here","_law_one","_law_seen","_law_k","_law_here","_law_there"] "_law_reach" (defScope (top 47)) f cdv A outer s H E).nox:=⟨rfl,rfl,rfl⟩
 exact ⟨t_reach K,(pss_cons (ps_set (i:=2) nd rfl (by walk_at "o") (pe_lst (pa_cons (pv 1) pa_nil)))
 (pss_cons (ps_for hpo rfl (pi_range1 rfl B.range (pa_cons (pe_callB call_len_seq rfl B.len bb_len (pa_cons (pv 0) pa_nil)) pa_nil)) (pg_name (i:=3) nd rfl (by walk_at "o"))
 (pss_one (ps_for hpo rfl (pi_list (pv 0)) (pg_tup rfl (pgs_cons (pg_name (i:=4) nd rfl (by walk_at "o")) (pgs_cons (pg_name (i:=5) nd rfl (by walk_at "o")) pgs_nil)))
 (pss_one (ps_if (PW.pt (pw_and (pt_cmpR (op_inD hu) (pv 4) (pv 2) (by with_unfolding_all rfl)) (pw_and1 (pt_cmpR (op_notInD hu) (pv 5) (pv 2) (by with_unfolding_all rfl)))))
 (pss_one (ps_expr (pe_bm PySem.F.plainAttrs_list PySem.F.slot_list_append PySem.F.type_list_append mt_append (pv 2) (pa_cons (pv 5) pa_nil))))
 pss_nil)))))
 (pss_one (ps_ret (pv 2))))),(rd_reach rfl h)⟩
theorem ok_law_size (F:FunAt K mg "_law_size" (top 48) ["_law_rows"]) (B:Blt mg)  : FnC P w K mg base CX0 1 "_law_size" ["_law_rows"] (spSize K):=by
 refine F.ok sc_law_size (fun vs H Q E h=>len_size h) (fun f cdv A outer s H vs Q E hr h=>?_);have nd:=sc_law_size.nd;have hpo:=fun {M A env}=>@PassesOwn.never M A env
 have hu:=hr.units;have hu1:=Nat.lt_of_le_of_lt (Nat.add_le_add_left (by decide:1≤64) _) hu;have own:OwnFr (cxOf CX0 P w K mg base ["_law_rows","_law_left","_law_many","_law_width","_law_place","_law_picks","_law_by"] "_law_size" (defScope (top 48)) f cdv A outer s H E).nox:=⟨rfl,rfl,rfl⟩
 exact ⟨t_size K,(pss_cons (ps_lc (M:=["_law_rows","_law_left","_law_many","_law_width","_law_place","_law_picks","_law_by"]) (i:=1) nd rfl rfl (by show CompS (defScope (top 48)) ["_law_rows","_law_left","_law_many","_law_width","_law_place","_law_picks","_law_by"] ["_law_rows","_law_left","_law_many","_law_width","_law_place","_law_picks","_law_by"] _ _;walk_at "c") rfl (pi_list (pv 0)) (fun _ _ _ _ _=>(pe_callTy call_list_of rfl B.list bb_list (pa_cons (pv 0) pa_nil))))
 (pss_cons (ps_set (i:=2) nd rfl (by walk_at "o") pe_int)
 (pss_cons (ps_set (i:=3) nd rfl (by walk_at "o") (pe_callB (call_maxL rfl) rfl B.max bb_max (pa_cons (pe_op op_cat (pe_lst (pa_cons pe_int pa_nil)) (pe_lc (M:=["_law_rows","_law_left","_law_many","_law_width","_law_place","_law_picks","_law_by"]) (by show CompS (defScope (top 48)) ["_law_rows","_law_left","_law_many","_law_width","_law_place","_law_picks","_law_by"] ["_law_rows","_law_left","_law_many","_law_width","_law_place","_law_picks","_law_by"] _ _;walk_at "c") nd rfl (pi_list (pv 1)) (fun _ _ _ _ _=>(pe_callB call_len_seq rfl B.len bb_len (pa_cons (pv 0) pa_nil))))) pa_nil)))
 (pss_cons (ps_for hpo rfl (pi_range1 rfl B.range (pa_cons (pv 3) pa_nil)) (pg_name (i:=4) nd rfl (by walk_at "o"))
 (pss_cons (ps_lcF (i:=5) ["_law_row"] ["_law_rows","_law_left","_law_many","_law_width","_law_place","_law_picks","_law_by"] nd rfl rfl (by show CompS (defScope (top 48)) ["_law_rows","_law_left","_law_many","_law_width","_law_place","_law_picks","_law_by"] ["_law_rows","_law_left","_law_many","_law_width","_law_place","_law_picks","_law_by"] _ _;walk_at "c") rfl (pi_list (pv 1)) (fun _ _ _ _ _=>(pg_name (i:=0) (show (["_law_row","_law_rows","_law_left","_law_many","_law_width","_law_place","_law_picks","_law_by"]:List Str).Nodup by decide +kernel) rfl (by walk_at "o"))) (fun _ _ _ _ _=>(pt_cmpR op_ne (pe_ix ix_list (pv 0) (pv 5) (fun _ _=>rfl)) pe_int (nomark _))) (fun _ _ _ _ _=>(pv 0)))
 (pss_one (ps_if (pt_cmpR op_gt (pe_callB call_len_seq rfl B.len bb_len (pa_cons (pv 5) pa_nil)) pe_int (nomark _))
 (pss_cons (ps_set (i:=6) nd rfl (by walk_at "o") (pe_ix ix_list (pv 5) pe_int (fun _ _=>rfl)))
 (pss_cons (ps_expr (pe_bm PySem.F.plainAttrs_list PySem.F.slot_list_remove PySem.F.type_list_remove (mt_remove hu) (pv 1) (pa_cons (pv 6) pa_nil)))
 (pss_cons (ps_set (i:=2) nd rfl (by walk_at "o") (pe_op op_add (pv 2) pe_int))
 (pss_one (ps_lcK (i:=1) ["_law_row"] ["_law_rows","_law_left","_law_many","_law_width","_law_place","_law_picks","_law_by"] nd rfl rfl (by show CompSK (defScope (top 48)) ["_law_rows","_law_left","_law_many","_law_width","_law_place","_law_picks","_law_by"] ["_law_rows","_law_left","_law_many","_law_width","_law_place","_law_picks","_law_by"] _ _;walk_at "k") rfl (pi_list (pv 1)) (fun _ _ _ _ _=>(pg_name (i:=0) (show (["_law_row","_law_rows","_law_left","_law_many","_law_width","_law_place","_law_picks","_law_by"]:List Str).Nodup by decide +kernel) rfl (by walk_at "o"))) (fun _ _ _ _ _=>(pe_lcN ["_law_one","_law_two"] ["_law_row","_law_rows","_law_left","_law_many","_law_width","_law_place","_law_picks","_law_by"] (by show CompS (relC _ (defScope (top 48))) ["_law_row","_law_rows","_law_left","_law_many","_law_width","_law_place","_law_picks","_law_by"] ["_law_row","_law_rows","_law_left","_law_many","_law_width","_law_place","_law_picks","_law_by"] _ _;walk_at "c") rfl (pi_zip (k1:=.L) (k2:=.L) rfl B.zip (pa_cons (pv 0) (pa_cons (pv 7) pa_nil))) (fun _ _ _ _ _=>(pg_tup rfl (pgs_cons (pg_name (i:=0) (show (["_law_one","_law_two","_law_row","_law_rows","_law_left","_law_many","_law_width","_law_place","_law_picks","_law_by"]:List Str).Nodup by decide +kernel) rfl (by walk_at "o")) (pgs_cons (pg_name (i:=1) (show (["_law_one","_law_two","_law_row","_law_rows","_law_left","_law_many","_law_width","_law_place","_law_picks","_law_by"]:List Str).Nodup by decide +kernel) rfl (by walk_at "o")) pgs_nil)))) (fun _ _ _ _ _=>(pe_op op_sub (pe_op op_mulW (pv 0) (pe_ix ix_list (pv 9) (pv 7) (fun _ _=>rfl))) (pe_op op_mulW (pe_ix ix_list (pv 2) (pv 7) (fun _ _=>rfl)) (pv 1)))))))))))
 pss_nil))))
 (pss_one (ps_ret (pv 2))))))),(rd_size rfl h)⟩
theorem ok_law_good_row (F:FunAt K mg "_law_good_row" (top 49) ["_law_row","_law_width"]) (B:Blt mg) (c_law_divisor:FnC P w K mg base CX0 1 "_law_divisor" ["_law_one","_law_two"] spDiv) (c_law_whole:FnC P w K mg base CX0 1 "_law_whole" ["_law_found"] spWhole):FnC P w K mg base CX0 2 "_law_good_row" ["_law_row","_law_width"] (spGood K):=by
 refine F.ok sc_law_good_row (fun vs H Q E h=>len_good h) (fun f cdv A outer s H vs Q E hr h=>?_);have nd:=sc_law_good_row.nd;have hpo:=fun {M A env}=>@PassesOwn.never M A env
 have hu:=hr.units;have hu1:=Nat.lt_of_le_of_lt (Nat.add_le_add_left (by decide:1≤64) _) hu;have own:OwnFr (cxOf CX0 P w K mg base ["_law_row","_law_width","_law_by","_law_number","_law_above"] "_law_good_row" (defScope (top 49)) f cdv A outer s H E).nox:=⟨rfl,rfl,rfl⟩
 exact ⟨t_good K,(pss_cons (ps_if (PW.pt (pw_or (pt_not (pt_val (pe_callB call_isi rfl B.isinstance bb_isinstance (pa_cons (pv 0) (pa_cons (pe_bltn rfl B.list bb_list rfl) pa_nil))))) (pw_or (pt_cmpR op_ne (pe_callB call_len_seq rfl B.len bb_len (pa_cons (pv 0) pa_nil)) (pv 1) (nomark _)) (pw_or1 (pt_not (pt_val (pe_callB (call_all rfl) rfl B.all bb_all (pa_cons (pe_lc (M:=["_law_row","_law_width","_law_by","#_law_number","_law_above"]) (by show CompS (defScope (top 49)) ["_law_row","_law_width","_law_by","_law_number","_law_above"] ["_law_row","_law_width","_law_by","#_law_number","_law_above"] _ _;walk_at "c") nd rfl (pi_list (pv 0)) (fun _ _ _ _ _=>(pe_callF c_law_whole hr rfl (pa_cons (pv 0) pa_nil)))) pa_nil))))))))
 (pss_one (ps_ret pe_bl))
 pss_nil)
 (pss_cons (ps_set (i:=2) nd rfl (by walk_at "o") pe_int)
 (pss_cons (ps_for hpo rfl (pi_list (pv 0)) (pg_name (i:=3) nd rfl (by walk_at "o"))
 (pss_one (ps_set (i:=2) nd rfl (by walk_at "o") (pe_callF c_law_divisor hr rfl (pa_cons (pv 2) (pa_cons (pv 3) pa_nil))))))
 (pss_cons (ps_lcF (i:=4) ["_law_number"] ["_law_row","_law_width","_law_by","#_law_number","_law_above"] nd rfl rfl (by show CompS (defScope (top 49)) ["_law_row","_law_width","_law_by","_law_number","_law_above"] ["_law_row","_law_width","_law_by","#_law_number","_law_above"] _ _;walk_at "c") rfl (pi_list (pv 0)) (fun _ _ _ _ _=>(pg_name (i:=0) (show (["_law_number","_law_row","_law_width","_law_by","#_law_number","_law_above"]:List Str).Nodup by decide +kernel) rfl (by walk_at "o"))) (fun _ _ _ _ _=>(pt_cmpR op_ne (pv 0) pe_int (nomark _))) (fun _ _ _ _ _=>(pv 0)))
 (pss_one (ps_ret (pe_and (pe_cmpR op_eq (pv 2) pe_int (nomark _)) (pe_and (pe_cmpR op_gt (pe_ix ix_list (pv 4) pe_int (fun _ _=>rfl)) pe_int (nomark _)) (pe_one (pe_cmpR op_lt (pe_callB (call_maxL rfl) rfl B.max bb_max (pa_cons (pe_lc (M:=["_law_row","_law_width","_law_by","#_law_number","_law_above"]) (by show CompS (defScope (top 49)) ["_law_row","_law_width","_law_by","_law_number","_law_above"] ["_law_row","_law_width","_law_by","#_law_number","_law_above"] _ _;walk_at "c") nd rfl (pi_list (pv 0)) (fun _ _ _ _ _=>(pe_callB call_abs rfl B.abs bb_abs (pa_cons (pv 0) pa_nil)))) pa_nil)) (pe_op op_pow pe_int pe_int) (nomark _))))))))))),(rd_good rfl h)⟩
theorem ok_law_nought (F:FunAt K mg "_law_nought" (top 50) ["_law_row","_law_other"]) (B:Blt mg)  : FnC P w K mg base CX0 1 "_law_nought" ["_law_row","_law_other"] (spNought K):=by
 refine F.ok sc_law_nought (fun vs H Q E h=>len_nought h) (fun f cdv A outer s H vs Q E hr h=>?_);have nd:=sc_law_nought.nd;have hpo:=fun {M A env}=>@PassesOwn.never M A env
 have hu:=hr.units;have hu1:=Nat.lt_of_le_of_lt (Nat.add_le_add_left (by decide:1≤64) _) hu;have own:OwnFr (cxOf CX0 P w K mg base ["_law_row","_law_other"] "_law_nought" (defScope (top 50)) f cdv A outer s H E).nox:=⟨rfl,rfl,rfl⟩
 exact ⟨t_nought K,(pss_one (ps_ret (pe_cmpR op_eq (pe_callB (call_sumL rfl) rfl B.sum bb_sum (pa_cons (pe_lcN ["_law_one","_law_two"] ["_law_row","_law_other"] (by show CompS (defScope (top 50)) ["_law_row","_law_other"] ["_law_row","_law_other"] _ _;walk_at "c") rfl (pi_zip (k1:=.L) (k2:=.L) rfl B.zip (pa_cons (pv 0) (pa_cons (pv 1) pa_nil))) (fun _ _ _ _ _=>(pg_tup rfl (pgs_cons (pg_name (i:=0) (show (["_law_one","_law_two","_law_row","_law_other"]:List Str).Nodup by decide +kernel) rfl (by walk_at "o")) (pgs_cons (pg_name (i:=1) (show (["_law_one","_law_two","_law_row","_law_other"]:List Str).Nodup by decide +kernel) rfl (by walk_at "o")) pgs_nil)))) (fun _ _ _ _ _=>(pe_op op_mul (pv 0) (pv 1)))) pa_nil)) pe_int (nomark _)))),(rd_nought rfl h)⟩
theorem ok_law_basis (F:FunAt K mg "_law_basis" (top 51) ["_law_found","_law_rows","_law_width"]) (B:Blt mg) (c_law_size:FnC P w K mg base CX0 2 "_law_size" ["_law_rows"] (spSize K)) (c_law_good_row:FnC P w K mg base CX0 2 "_law_good_row" ["_law_row","_law_width"] (spGood K)) (c_law_nought:FnC P w K mg base CX0 2 "_law_nought" ["_law_row","_law_other"] (spNought K)):FnC P w K mg base CX0 3 "_law_basis" ["_law_found","_law_rows","_law_width"] (spBasis K):=by
 refine F.ok sc_law_basis (fun vs H Q E h=>len_basis h) (fun f cdv A outer s H vs Q E hr h=>?_);have nd:=sc_law_basis.nd;have hpo:=fun {M A env}=>@PassesOwn.never M A env
 have hu:=hr.units;have hu1:=Nat.lt_of_le_of_lt (Nat.add_le_add_left (by decide:1≤64) _) hu;have own:OwnFr (cxOf CX0 P w K mg base ["_law_found","_law_rows","_law_width","_law_row","_law_other"] "_law_basis" (defScope (top 51)) f cdv A outer s H E).nox:=⟨rfl,rfl,rfl⟩
 exact ⟨t_basis K,(pss_cons (ps_if (PW.pt (pw_or (pt_not (pt_val (pe_callB call_isi rfl B.isinstance bb_isinstance (pa_cons (pv 0) (pa_cons (pe_bltn rfl B.list bb_list rfl) pa_nil))))) (pw_or1 (pt_cmpR op_ne (pe_callB call_len_seq rfl B.len bb_len (pa_cons (pv 0) pa_nil)) (pe_op op_sub (pv 2) (pe_callF c_law_size hr rfl (pa_cons (pv 1) pa_nil))) (nomark _)))))
 (pss_one (ps_ret pe_bl))
 pss_nil)
 (pss_cons (ps_for hpo rfl (pi_list (pv 0)) (pg_name (i:=3) nd rfl (by walk_at "o"))
 (pss_cons (ps_if (pt_not (pt_val (pe_callF c_law_good_row hr rfl (pa_cons (pv 3) (pa_cons (pv 2) pa_nil)))))
 (pss_one (ps_ret pe_bl))
 pss_nil)
 (pss_one (ps_for hpo rfl (pi_list (pv 1)) (pg_name (i:=4) nd rfl (by walk_at "o"))
 (pss_one (ps_if (pt_not (pt_val (pe_callF c_law_nought hr rfl (pa_cons (pv 3) (pa_cons (pv 4) pa_nil)))))
 (pss_one (ps_ret pe_bl))
 pss_nil))))))
 (pss_one (ps_ret (pe_cmpR op_eq (pe_callF c_law_size hr rfl (pa_cons (pv 0) pa_nil)) (pe_callB call_len_seq rfl B.len bb_len (pa_cons (pv 0) pa_nil)) (nomark _)))))),(rd_basis rfl h)⟩
theorem ok_law_lots (F:FunAt K mg "_law_lots" (top 52) ["_law_ends_here","_law_many"]) (B:Blt mg) (c_law_reach:FnC P w K mg base CX0 1 "_law_reach" ["_law_ends_here","_law_one"] (spReach K)):FnC P w K mg base CX0 2 "_law_lots" ["_law_ends_here","_law_many"] (spLLots K):=by
 refine F.ok sc_law_lots (fun vs H Q E h=>len_llots h) (fun f cdv A outer s H vs Q E hr h=>?_);have nd:=sc_law_lots.nd;have hpo:=fun {M A env}=>@PassesOwn.never M A env
 have hu:=hr.units;have hu1:=Nat.lt_of_le_of_lt (Nat.add_le_add_left (by decide:1≤64) _) hu;have own:OwnFr (cxOf CX0 P w K mg base ["_law_ends_here","_law_many","_law_both","_law_found","_law_k","_law_lot"] "_law_lots" (defScope (top 52)) f cdv A outer s H E).nox:=⟨rfl,rfl,rfl⟩
 exact ⟨t_llots K,(pss_cons (ps_set (i:=2) nd rfl (by walk_at "o") (pe_op op_cat (pv 0) (pe_lcN ["_law_one","_law_two"] ["_law_ends_here","_law_many","_law_both","_law_found","_law_k","_law_lot"] (by show CompS (defScope (top 52)) ["_law_ends_here","_law_many","_law_both","_law_found","_law_k","_law_lot"] ["_law_ends_here","_law_many","_law_both","_law_found","_law_k","_law_lot"] _ _;walk_at "c") rfl (pi_list (pv 0)) (fun _ _ _ _ _=>(pg_tup rfl (pgs_cons (pg_name (i:=0) (show (["_law_one","_law_two","_law_ends_here","_law_many","_law_both","_law_found","_law_k","_law_lot"]:List Str).Nodup by decide +kernel) rfl (by walk_at "o")) (pgs_cons (pg_name (i:=1) (show (["_law_one","_law_two","_law_ends_here","_law_many","_law_both","_law_found","_law_k","_law_lot"]:List Str).Nodup by decide +kernel) rfl (by walk_at "o")) pgs_nil)))) (fun _ _ _ _ _=>(pe_tup (pa_cons (pv 1) (pa_cons (pv 0) pa_nil)))))))
 (pss_cons (ps_set (i:=3) nd rfl (by walk_at "o") (pe_lst pa_nil))
 (pss_cons (ps_for hpo rfl (pi_range1 rfl B.range (pa_cons (pv 1) pa_nil)) (pg_name (i:=4) nd rfl (by walk_at "o"))
 (pss_cons (ps_set (i:=5) nd rfl (by walk_at "o") (pe_callB call_sortI rfl B.sorted bb_sorted (pa_cons (pe_callF c_law_reach hr rfl (pa_cons (pv 2) (pa_cons (pv 4) pa_nil))) pa_nil)))
 (pss_one (ps_if (pt_cmpR (op_notInD hu) (pv 5) (pv 3) (by with_unfolding_all rfl))
 (pss_one (ps_expr (pe_bm PySem.F.plainAttrs_list PySem.F.slot_list_append PySem.F.type_list_append mt_append (pv 3) (pa_cons (pv 5) pa_nil))))
 pss_nil))))
 (pss_one (ps_ret (pv 3)))))),(rd_llots rfl h)⟩
theorem ok_law {f:Addr} {fd:FuncData} (F:Fun K "law" "law" (top 53) f fd) (B:Blt mg) (c_law_vessel:FnC P w K mg base CX0 8 "_law_vessel" ["_law_script","_law_at"] (spVes2 K)) (c_law_heaps:FnC P w K mg base CX0 8 "_law_heaps" ["_law_vessel_here"] (spHeaps K)) (c_lack:FnC P w K mg base CX0 8 "lack" ["vessel"] (spLack K)) (c_lack_rows:FnC P w K mg base CX0 8 "lack_rows" ["vessel"] (spLackR K)) (c_law_size:FnC P w K mg base CX0 8 "_law_size" ["_law_rows"] (spSize K)) (c_law_lots:FnC P w K mg base CX0 8 "_law_lots" ["_law_ends_here","_law_many"] (spLLots K)) (c_law_changes:FnC P w K mg base CX0 8 "_law_changes" ["_law_vessel_here"] (spChanges K)) (c_law_whole:FnC P w K mg base CX0 8 "_law_whole" ["_law_found"] spWhole) (c_law_basis:FnC P w K mg base CX0 8 "_law_basis" ["_law_found","_law_rows","_law_width"] (spBasis K)) (c_law_ends:FnC P w K mg base CX0 8 "_law_ends" ["_law_vessel_here"] (spEnds K)):FnOk P w K mg base CX0 9 f fd ["_law_script"] (spLaw K):=by
 refine F.ok sc_law (fun vs H Q E h=>?_) (fun cdv A outer s H vs Q E hr h=>?_)
 ·obtain ⟨a,ns,rfl,_⟩:=h;rfl
 have nd:=sc_law.nd;have hpo:=fun {M A env}=>@PassesOwn.never M A env
 have hu:=hr.units;have hu1:=Nat.lt_of_le_of_lt (Nat.add_le_add_left (by decide:1≤64) _) hu;exact ⟨t_law K,(pss_cons (ps_set (i:=1) nd rfl (by walk_at "o") (pe_callF c_law_vessel hr rfl (pa_cons (pv 0) (pa_cons pe_int pa_nil))))
 (pss_cons (ps_set (i:=2) nd rfl (by walk_at "o") (pe_callF c_law_heaps hr rfl (pa_cons (pv 1) pa_nil)))
 (pss_cons (ps_lcK (i:=3) ["_law_lot"] ["_law_script","_law_vessel_here","_law_told","_law_rows","_law_due","_law_many","_law_stuff","_law_found","_law_held","_law_row"] nd rfl rfl (by show CompSK (defScope (top 53)) ["_law_script","_law_vessel_here","_law_told","_law_rows","_law_due","_law_many","_law_stuff","_law_found","_law_held","_law_row"] ["_law_script","_law_vessel_here","_law_told","_law_rows","_law_due","_law_many","_law_stuff","_law_found","_law_held","_law_row"] _ _;walk_at "k") rfl (pi_list (pe_callF c_law_lots hr rfl (pa_cons (pe_callF c_law_ends hr rfl (pa_cons (pv 1) pa_nil)) (pa_cons (pe_callB call_len_seq rfl B.len bb_len (pa_cons (pv 2) pa_nil)) pa_nil)))) (fun _ _ _ _ _=>(pg_name (i:=0) (show (["_law_lot","_law_script","_law_vessel_here","_law_told","_law_rows","_law_due","_law_many","_law_stuff","_law_found","_law_held","_law_row"]:List Str).Nodup by decide +kernel) rfl (by walk_at "o"))) (fun _ _ _ _ _=>(pe_lc (M:=["_law_lot","_law_script","_law_vessel_here","_law_told","_law_rows","_law_due","_law_many","_law_stuff","_law_found","_law_held","_law_row"]) (by show CompS (relC _ (defScope (top 53))) ["_law_lot","_law_script","_law_vessel_here","_law_told","_law_rows","_law_due","_law_many","_law_stuff","_law_found","_law_held","_law_row"] ["_law_lot","_law_script","_law_vessel_here","_law_told","_law_rows","_law_due","_law_many","_law_stuff","_law_found","_law_held","_law_row"] _ _;walk_at "c") (show (["_law_lot","_law_script","_law_vessel_here","_law_told","_law_rows","_law_due","_law_many","_law_stuff","_law_found","_law_held","_law_row"]:List Str).Nodup by decide +kernel) rfl (pi_range1 rfl B.range (pa_cons (pe_callB call_len_seq rfl B.len bb_len (pa_cons (pv 3) pa_nil)) pa_nil)) (fun _ _ _ _ _=>(pe_callTy call_int1 rfl B.int bb_int (pa_cons (pe_cmpR (op_inD hu) (pv 0) (pv 1) (by with_unfolding_all rfl)) pa_nil))))))
 (pss_cons (ps_set (i:=4) nd rfl (by walk_at "o") (pe_op op_sub (pe_op op_sub (pe_callB call_len_seq rfl B.len bb_len (pa_cons (pv 2) pa_nil)) (pe_callB call_len_seq rfl B.len bb_len (pa_cons (pv 3) pa_nil))) (pe_callF c_law_size hr rfl (pa_cons (pe_callF c_law_changes hr rfl (pa_cons (pv 1) pa_nil)) pa_nil))))
 (pss_cons (ps_set (i:=5) nd rfl (by walk_at "o") (pe_callF c_lack hr rfl (pa_cons (pv 1) pa_nil)))
 (pss_cons (ps_for hpo rfl (pi_range1 rfl B.range (pa_cons (pe_callB call_len_seq rfl B.len bb_len (pa_cons (pe_ix ix_tup (pv 1) pe_int (fun _ _=>rfl)) pa_nil)) pa_nil)) (pg_name (i:=6) nd rfl (by walk_at "o"))
 (pss_one (ps_expr (pe_bm PySem.F.plainAttrs_list PySem.F.slot_list_append PySem.F.type_list_append mt_append (pv 3) (pa_cons (pe_lc (M:=["_law_script","_law_vessel_here","_law_told","_law_rows","_law_due","_law_many","_law_stuff","_law_found","_law_held","_law_row"]) (by show CompS (defScope (top 53)) ["_law_script","_law_vessel_here","_law_told","_law_rows","_law_due","_law_many","_law_stuff","_law_found","_law_held","_law_row"] ["_law_script","_law_vessel_here","_law_told","_law_rows","_law_due","_law_many","_law_stuff","_law_found","_law_held","_law_row"] _ _;walk_at "c") nd rfl (pi_list (pv 2)) (fun _ _ _ _ _=>(pe_ix ix_tup (pv 0) (pv 7) (fun _ _=>rfl)))) pa_nil)))))
 (pss_cons (ps_set (i:=7) nd rfl (by walk_at "o") (pe_callF c_lack_rows hr rfl (pa_cons (pv 1) pa_nil)))
 (pss_cons (ps_if (PW.pt (pw_or (pt_not (pt_val (pe_callF c_law_whole hr rfl (pa_cons (pv 5) pa_nil)))) (pw_or (pt_cmpR op_ne (pv 5) (pv 4) (nomark _)) (pw_or (pt_cmpR op_ne (pe_callB call_len_seq rfl B.len bb_len (pa_cons (pv 7) pa_nil)) (pv 4) (nomark _)) (pw_or1 (pt_not (pt_val (pe_callF c_law_basis hr rfl (pa_cons (pv 7) (pa_cons (pv 3) (pa_cons (pe_callB call_len_seq rfl B.len bb_len (pa_cons (pv 2) pa_nil)) pa_nil)))))))))))
 (pss_one (ps_ret pe_bl))
 pss_nil)
 (pss_cons (ps_lc (M:=["_law_script","_law_vessel_here","_law_told","_law_rows","_law_due","_law_many","_law_stuff","_law_found","_law_held","#_law_row"]) (i:=8) nd rfl rfl (by show CompS (defScope (top 53)) ["_law_script","_law_vessel_here","_law_told","_law_rows","_law_due","_law_many","_law_stuff","_law_found","_law_held","_law_row"] ["_law_script","_law_vessel_here","_law_told","_law_rows","_law_due","_law_many","_law_stuff","_law_found","_law_held","#_law_row"] _ _;walk_at "c") rfl (pi_list (pv 7)) (fun _ _ _ _ _=>(pe_callTy call_list_of rfl B.list bb_list (pa_cons (pv 0) pa_nil))))
 (pss_cons (ps_for hpo rfl (pi_list (pv 7)) (pg_name (i:=9) nd rfl (by walk_at "o"))
 (pss_one (ps_expr (pe_bm0 PySem.F.plainAttrs_list PySem.F.slot_list_clear PySem.F.type_list_clear mt_clear (pv 9)))))
 (pss_cons (ps_expr (pe_bm0 PySem.F.plainAttrs_list PySem.F.slot_list_clear PySem.F.type_list_clear mt_clear (pv 7)))
 (pss_one (ps_ret (pe_cmpR (op_eqD hu) (pe_callF c_lack_rows hr rfl (pa_cons (pv 1) pa_nil)) (pv 8) (nomark _))))))))))))))),(rd_law h)⟩
end
section
variable{P:Program}{w:World}{K:Fg}{mg:Str→Option Value}{base:Heap}
theorem ok_all {f:Addr} {fd:FuncData} (F:Fun K "law" "law" (top 53) f fd) (B:Blt mg) (F0:FunAt K mg "whole" (top 4) ["value"]) (F1:FunAt K mg "greatest_divisor" (top 5) ["one","two"]) (F2:FunAt K mg "first_place" (top 7) ["row"]) (F3:FunAt K mg "unit_row" (top 8) ["size","own"]) (F4:FunAt K mg "unit_rows" (top 9) ["size"]) (F5:FunAt K mg "common_divisor" (top 10) ["row"]) (F6:FunAt K mg "lowest" (top 11) ["row"]) (F7:FunAt K mg "cleared" (top 12) ["row","stairs"]) (F8:FunAt K mg "sifted" (top 13) ["rows"]) (F9:FunAt K mg "free_places" (top 14) ["rows"]) (F10:FunAt K mg "nought_makers" (top 15) ["rows"]) (F11:FunAt K mg "heaps_of" (top 17) ["turnings"]) (F12:FunAt K mg "heaps" (top 18) ["vessel"]) (F13:FunAt K mg "turning_at" (top 19) ["vessel","number"]) (F14:FunAt K mg "change" (top 20) ["vessel","number"]) (F15:FunAt K mg "changes" (top 21) ["vessel"]) (F16:FunAt K mg "free" (top 23) ["vessel"]) (F17:FunAt K mg "heap_numbers" (top 25) ["vessel"]) (F18:FunAt K mg "places_of" (top 26) ["things","thing"]) (F19:FunAt K mg "lots" (top 27) ["vessel"]) (F20:FunAt K mg "lack" (top 29) ["vessel"]) (F21:FunAt K mg "lot_marks" (top 30) ["number","told_lots"]) (F22:FunAt K mg "lack_rows" (top 31) ["vessel"]) (F23:FunAt K mg "_law_cell_at" (top 33) ["_law_script","_law_k"]) (F24:FunAt K mg "_law_mixed" (top 34) ["_law_cell","_law_place"]) (F25:FunAt K mg "_law_divisor" (top 35) ["_law_one","_law_two"]) (F26:FunAt K mg "_law_lowest" (top 36) ["_law_top","_law_bottom"]) (F27:FunAt K mg "_law_words" (top 37) ["_law_number","_law_many"]) (F28:FunAt K mg "_law_heap" (top 38) ["_law_cell","_law_k","_law_many","_law_top","_law_plain"]) (F29:FunAt K mg "_law_pool" (top 39) ["_law_script","_law_at","_law_many","_law_size_here","_law_top","_law_plain"]) (F30:FunAt K mg "_law_pairs" (top 40) ["_law_script","_law_at","_law_size_here","_law_kind","_law_plain"]) (F31:FunAt K mg "_law_pace" (top 41) ["_law_cell","_law_kind"]) (F32:FunAt K mg "_law_vessel" (top 42) ["_law_script","_law_at"]) (F33:FunAt K mg "_law_whole" (top 43) ["_law_found"]) (F34:FunAt K mg "_law_heaps" (top 44) ["_law_vessel_here"]) (F35:FunAt K mg "_law_ends" (top 45) ["_law_vessel_here"]) (F36:FunAt K mg "_law_changes" (top 46) ["_law_vessel_here"]) (F37:FunAt K mg "_law_reach" (top 47) ["_law_ends_here","_law_one"]) (F38:FunAt K mg "_law_size" (top 48) ["_law_rows"]) (F39:FunAt K mg "_law_good_row" (top 49) ["_law_row","_law_width"]) (F40:FunAt K mg "_law_nought" (top 50) ["_law_row","_law_other"]) (F41:FunAt K mg "_law_basis" (top 51) ["_law_found","_law_rows","_law_width"]) (F42:FunAt K mg "_law_lots" (top 52) ["_law_ends_here","_law_many"]):FnOk P w K mg base CX0 9 f fd ["_law_script"] (spLaw K):=by
 have c_whole:=ok_whole (P:=P) (w:=w) (base:=base) F0 B;have c_greatest_divisor:=ok_greatest_divisor (P:=P) (w:=w) (base:=base) F1 B;have c_first_place:=ok_first_place (P:=P) (w:=w) (base:=base) F2 B;have c_unit_row:=ok_unit_row (P:=P) (w:=w) (base:=base) F3 B;have c_heaps_of:=ok_heaps_of (P:=P) (w:=w) (base:=base) F11 B;have c_places_of:=ok_places_of (P:=P) (w:=w) (base:=base) F18 B;have c_lot_marks:=ok_lot_marks (P:=P) (w:=w) (base:=base) F21 B;have c_law_cell_at:=ok_law_cell_at (P:=P) (w:=w) (base:=base) F23 B;have c_law_mixed:=ok_law_mixed (P:=P) (w:=w) (base:=base) F24 B;have c_law_divisor:=ok_law_divisor (P:=P) (w:=w) (base:=base) F25 B;have c_law_words:=ok_law_words (P:=P) (w:=w) (base:=base) F27 B;have c_law_whole:=ok_law_whole (P:=P) (w:=w) (base:=base) F33 B;have c_law_heaps:=ok_law_heaps (P:=P) (w:=w) (base:=base) F34 B;have c_law_changes:=ok_law_changes (P:=P) (w:=w) (base:=base) F36 B;have c_law_reach:=ok_law_reach (P:=P) (w:=w) (base:=base) F37 B;have c_law_size:=ok_law_size (P:=P) (w:=w) (base:=base) F38 B;have c_law_nought:=ok_law_nought (P:=P) (w:=w) (base:=base) F40 B;have c_unit_rows:=ok_unit_rows (P:=P) (w:=w) (base:=base) F4 B (c_unit_row.mono (by decide:1≤1));have c_common_divisor:=ok_common_divisor (P:=P) (w:=w) (base:=base) F5 B (c_greatest_divisor.mono (by decide:1≤1));have c_heaps:=ok_heaps (P:=P) (w:=w) (base:=base) F12 B (c_heaps_of.mono (by decide:1≤1));have c_turning_at:=ok_turning_at (P:=P) (w:=w) (base:=base) F13 B (c_whole.mono (by decide:1≤1));have c_law_lowest:=ok_law_lowest (P:=P) (w:=w) (base:=base) F26 B (c_law_divisor.mono (by decide:1≤1));have c_law_heap:=ok_law_heap (P:=P) (w:=w) (base:=base) F28 B (c_law_mixed.mono (by decide:1≤1));have c_law_pairs:=ok_law_pairs (P:=P) (w:=w) (base:=base) F30 B (c_law_cell_at.mono (by decide:1≤1)) (c_law_mixed.mono (by decide:1≤1));have c_law_ends:=ok_law_ends (P:=P) (w:=w) (base:=base) F35 B (c_law_heaps.mono (by decide:1≤1));have c_law_good_row:=ok_law_good_row (P:=P) (w:=w) (base:=base) F39 B (c_law_divisor.mono (by decide:1≤1)) (c_law_whole.mono (by decide:1≤1));have c_law_lots:=ok_law_lots (P:=P) (w:=w) (base:=base) F42 B (c_law_reach.mono (by decide:1≤1));have c_lowest:=ok_lowest (P:=P) (w:=w) (base:=base) F6 B (c_first_place.mono (by decide:1≤2)) (c_common_divisor.mono (by decide:2≤2));have c_change:=ok_change (P:=P) (w:=w) (base:=base) F14 B (c_turning_at.mono (by decide:2≤2));have c_heap_numbers:=ok_heap_numbers (P:=P) (w:=w) (base:=base) F17 B (c_heaps.mono (by decide:2≤2));have c_law_pool:=ok_law_pool (P:=P) (w:=w) (base:=base) F29 B (c_law_heap.mono (by decide:2≤2)) (c_law_cell_at.mono (by decide:1≤2));have c_law_pace:=ok_law_pace (P:=P) (w:=w) (base:=base) F31 B (c_law_lowest.mono (by decide:2≤2));have c_law_basis:=ok_law_basis (P:=P) (w:=w) (base:=base) F41 B (c_law_size.mono (by decide:1≤2)) (c_law_good_row.mono (by decide:2≤2)) (c_law_nought.mono (by decide:1≤2));have c_cleared:=ok_cleared (P:=P) (w:=w) (base:=base) F7 B (c_first_place.mono (by decide:1≤3)) (c_lowest.mono (by decide:3≤3));have c_changes:=ok_changes (P:=P) (w:=w) (base:=base) F15 B (c_change.mono (by decide:3≤3));have c_lots:=ok_lots (P:=P) (w:=w) (base:=base) F19 B (c_heap_numbers.mono (by decide:3≤3)) (c_places_of.mono (by decide:1≤3)) (c_heaps.mono (by decide:2≤3));have c_law_vessel:=ok_law_vessel (P:=P) (w:=w) (base:=base) F32 B (c_law_mixed.mono (by decide:1≤3)) (c_law_pool.mono (by decide:3≤3)) (c_law_pairs.mono (by decide:2≤3)) (c_law_cell_at.mono (by decide:1≤3)) (c_law_words.mono (by decide:1≤3)) (c_law_pace.mono (by decide:3≤3));have c_sifted:=ok_sifted (P:=P) (w:=w) (base:=base) F8 B (c_unit_rows.mono (by decide:2≤4)) (c_cleared.mono (by decide:4≤4)) (c_first_place.mono (by decide:1≤4)) (c_lowest.mono (by decide:3≤4));have c_free_places:=ok_free_places (P:=P) (w:=w) (base:=base) F9 B (c_sifted.mono (by decide:5≤5));have c_nought_makers:=ok_nought_makers (P:=P) (w:=w) (base:=base) F10 B (c_sifted.mono (by decide:5≤5));have c_free:=ok_free (P:=P) (w:=w) (base:=base) F16 B (c_free_places.mono (by decide:6≤6)) (c_changes.mono (by decide:4≤6));have c_lack_rows:=ok_lack_rows (P:=P) (w:=w) (base:=base) F22 B (c_lots.mono (by decide:4≤6)) (c_nought_makers.mono (by decide:6≤6)) (c_lot_marks.mono (by decide:1≤6)) (c_heaps.mono (by decide:2≤6));have c_lack:=ok_lack (P:=P) (w:=w) (base:=base) F20 B (c_free.mono (by decide:7≤7)) (c_heaps.mono (by decide:2≤7)) (c_lots.mono (by decide:4≤7));exact ok_law (P:=P) (w:=w) (base:=base) F B (c_law_vessel.mono (by decide:4≤8)) (c_law_heaps.mono (by decide:1≤8)) (c_lack.mono (by decide:8≤8)) (c_lack_rows.mono (by decide:7≤8)) (c_law_size.mono (by decide:1≤8)) (c_law_lots.mono (by decide:2≤8)) (c_law_changes.mono (by decide:1≤8)) (c_law_whole.mono (by decide:1≤8)) (c_law_basis.mono (by decide:3≤8)) (c_law_ends.mono (by decide:2≤8))
end
theorem bd1{G:Value→Value→Value→Option Addr→Value→Value→FuncData}{ps:List Str}(e:ps.length=1)(h:∀(a b c:Value) (d:Option Addr) (x y u0:Value),bindArgs (G a b c d x y) ⟨[u0],[]⟩=pure (ps.zip [u0]))(a b c:Value)(d:Option Addr)(x y:Value)(us:List Value)(hl:us.length=ps.length):bindArgs (G a b c d x y) ⟨us,[]⟩=pure (ps.zip us):=by
 have e0:us.length=1:=hl.trans e;obtain ⟨u0,us,rfl⟩:=List.exists_cons_of_length_eq_add_one e0;cases List.eq_nil_of_length_eq_zero (Nat.succ.inj e0);exact h a b c d x y u0
theorem bd2{G:Value→Value→Value→Option Addr→Value→Value→FuncData}{ps:List Str}(e:ps.length=2)(h:∀(a b c:Value) (d:Option Addr) (x y u0 u1:Value),bindArgs (G a b c d x y) ⟨[u0,u1],[]⟩=pure (ps.zip [u0,u1]))(a b c:Value)(d:Option Addr)(x y:Value)(us:List Value)(hl:us.length=ps.length):bindArgs (G a b c d x y) ⟨us,[]⟩=pure (ps.zip us):=by
 have e0:us.length=2:=hl.trans e;obtain ⟨u0,us,rfl⟩:=List.exists_cons_of_length_eq_add_one e0;have e1:us.length=1:=Nat.succ.inj e0;obtain ⟨u1,us,rfl⟩:=List.exists_cons_of_length_eq_add_one e1;cases List.eq_nil_of_length_eq_zero (Nat.succ.inj e1);exact h a b c d x y u0 u1
theorem bd3{G:Value→Value→Value→Option Addr→Value→Value→FuncData}{ps:List Str}(e:ps.length=3)(h:∀(a b c:Value) (d:Option Addr) (x y u0 u1 u2:Value),bindArgs (G a b c d x y) ⟨[u0,u1,u2],[]⟩=pure (ps.zip [u0,u1,u2]))(a b c:Value)(d:Option Addr)(x y:Value)(us:List Value)(hl:us.length=ps.length):bindArgs (G a b c d x y) ⟨us,[]⟩=pure (ps.zip us):=by
 have e0:us.length=3:=hl.trans e;obtain ⟨u0,us,rfl⟩:=List.exists_cons_of_length_eq_add_one e0;have e1:us.length=2:=Nat.succ.inj e0;obtain ⟨u1,us,rfl⟩:=List.exists_cons_of_length_eq_add_one e1;have e2:us.length=1:=Nat.succ.inj e1;obtain ⟨u2,us,rfl⟩:=List.exists_cons_of_length_eq_add_one e2;cases List.eq_nil_of_length_eq_zero (Nat.succ.inj e2);exact h a b c d x y u0 u1 u2
theorem bd5{G:Value→Value→Value→Option Addr→Value→Value→FuncData}{ps:List Str}(e:ps.length=5)(h:∀(a b c:Value) (d:Option Addr) (x y u0 u1 u2 u3 u4:Value),bindArgs (G a b c d x y) ⟨[u0,u1,u2,u3,u4],[]⟩=pure (ps.zip [u0,u1,u2,u3,u4]))(a b c:Value)(d:Option Addr)(x y:Value)(us:List Value)(hl:us.length=ps.length):bindArgs (G a b c d x y) ⟨us,[]⟩=pure (ps.zip us):=by
 have e0:us.length=5:=hl.trans e;obtain ⟨u0,us,rfl⟩:=List.exists_cons_of_length_eq_add_one e0;have e1:us.length=4:=Nat.succ.inj e0;obtain ⟨u1,us,rfl⟩:=List.exists_cons_of_length_eq_add_one e1;have e2:us.length=3:=Nat.succ.inj e1;obtain ⟨u2,us,rfl⟩:=List.exists_cons_of_length_eq_add_one e2;have e3:us.length=2:=Nat.succ.inj e2;obtain ⟨u3,us,rfl⟩:=List.exists_cons_of_length_eq_add_one e3;have e4:us.length=1:=Nat.succ.inj e3;obtain ⟨u4,us,rfl⟩:=List.exists_cons_of_length_eq_add_one e4;cases List.eq_nil_of_length_eq_zero (Nat.succ.inj e4);exact h a b c d x y u0 u1 u2 u3 u4
theorem bd6{G:Value→Value→Value→Option Addr→Value→Value→FuncData}{ps:List Str}(e:ps.length=6)(h:∀(a b c:Value) (d:Option Addr) (x y u0 u1 u2 u3 u4 u5:Value),bindArgs (G a b c d x y) ⟨[u0,u1,u2,u3,u4,u5],[]⟩=pure (ps.zip [u0,u1,u2,u3,u4,u5]))(a b c:Value)(d:Option Addr)(x y:Value)(us:List Value)(hl:us.length=ps.length):bindArgs (G a b c d x y) ⟨us,[]⟩=pure (ps.zip us):=by
 have e0:us.length=6:=hl.trans e;obtain ⟨u0,us,rfl⟩:=List.exists_cons_of_length_eq_add_one e0;have e1:us.length=5:=Nat.succ.inj e0;obtain ⟨u1,us,rfl⟩:=List.exists_cons_of_length_eq_add_one e1;have e2:us.length=4:=Nat.succ.inj e1;obtain ⟨u2,us,rfl⟩:=List.exists_cons_of_length_eq_add_one e2;have e3:us.length=3:=Nat.succ.inj e2;obtain ⟨u3,us,rfl⟩:=List.exists_cons_of_length_eq_add_one e3;have e4:us.length=2:=Nat.succ.inj e3;obtain ⟨u4,us,rfl⟩:=List.exists_cons_of_length_eq_add_one e4;have e5:us.length=1:=Nat.succ.inj e4;obtain ⟨u5,us,rfl⟩:=List.exists_cons_of_length_eq_add_one e5;cases List.eq_nil_of_length_eq_zero (Nat.succ.inj e5);exact h a b c d x y u0 u1 u2 u3 u4 u5
theorem fin:PySem.Challenge.rw_vesselhall_k81_the_lack.Holds:=by
 refine K81H.headed ?_;intro w K h mg fa f0 f1 f2 f3 f4 f5 f6 f7 f8 f9 f10 f11 f12 f13 f14 f15 f16 f17 f18 f19 f20 f21 f22 f23 f24 f25 f26 f27 f28 f29 f30 f31 f32 f33 f34 f35 f36 f37 f38 f39 f40 f41 f42 f43 X G hfa od0 an0 od1 an1 od2 an2 od3 an3 od4 an4 od5 an5 od6 an6 od7 an7 od8 an8 od9 an9 od10 an10 od11 an11 od12 an12 od13 an13 od14 an14 od15 an15 od16 an16 od17 an17 od18 an18 od19 an19 od20 an20 od21 an21 od22 an22 od23 an23 od24 an24 od25 an25 od26 an26 od27 an27 od28 an28 od29 an29 od30 an30 od31 an31 od32 an32 od33 an33 od34 an34 od35 an35 od36 an36 od37 an37 od38 an38 od39 an39 od40 an40 od41 an41 od42 an42 od43 an43 sl0 sl1 sl2 sl3 sl4 sl5 sl6 sl7 sl8 sl9 sl10 sl11 sl12 sl13 sl14 sl15 sl16 sl17 sl18 sl19 sl20 sl21 sl22 sl23 sl24 sl25 sl26 sl27 sl28 sl29 sl30 sl31 sl32 sl33 sl34 sl35 sl36 sl37 sl38 sl39 sl40 sl41 sl42 sl43 oc0 kV0 dc0 pm0 cd0 ct0 oc1 kV1 dc1 pm1 cd1 ct1 oc2 kV2 dc2 pm2 cd2 ct2 oc3 kV3 dc3 pm3 cd3 ct3 oc4 kV4 dc4 pm4 cd4 ct4 oc5 kV5 dc5 pm5 cd5 ct5 oc6 kV6 dc6 pm6 cd6 ct6 oc7 kV7 dc7 pm7 cd7 ct7 oc8 kV8 dc8 pm8 cd8 ct8 oc9 kV9 dc9 pm9 cd9 ct9 oc10 kV10 dc10 pm10 cd10 ct10 oc11 kV11 dc11 pm11 cd11 ct11 oc12 kV12 dc12 pm12 cd12 ct12 oc13 kV13 dc13 pm13 cd13 ct13 oc14 kV14 dc14 pm14 cd14 ct14 oc15 kV15 dc15 pm15 cd15 ct15 oc16 kV16 dc16 pm16 cd16 ct16 oc17 kV17 dc17 pm17 cd17 ct17 oc18 kV18 dc18 pm18 cd18 ct18 oc19 kV19 dc19 pm19 cd19 ct19 oc20 kV20 dc20 pm20 cd20 ct20 oc21 kV21 dc21 pm21 cd21 ct21 oc22 kV22 dc22 pm22 cd22 ct22 oc23 kV23 dc23 pm23 cd23 ct23 oc24 kV24 dc24 pm24 cd24 ct24 oc25 kV25 dc25 pm25 cd25 ct25 oc26 kV26 dc26 pm26 cd26 ct26 oc27 kV27 dc27 pm27 cd27 ct27 oc28 kV28 dc28 pm28 cd28 ct28 oc29 kV29 dc29 pm29 cd29 ct29 oc30 kV30 dc30 pm30 cd30 ct30 oc31 kV31 dc31 pm31 cd31 ct31 oc32 kV32 dc32 pm32 cd32 ct32 oc33 kV33 dc33 pm33 cd33 ct33 oc34 kV34 dc34 pm34 cd34 ct34 oc35 kV35 dc35 pm35 cd35 ct35 oc36 kV36 dc36 pm36 cd36 ct36 oc37 kV37 dc37 pm37 cd37 ct37 oc38 kV38 dc38 pm38 cd38 ct38 oc39 kV39 dc39 pm39 cd39 ct39 oc40 kV40 dc40 pm40 cd40 ct40 oc41 kV41 dc41 pm41 cd41 ct41 oc42 kV42 dc42 pm42 cd42 ct42 oc43 kV43 dc43 pm43 cd43 ct43 a0 l0 c0 k0 a1 l1 c1 k1 a2 l2 c2 k2 a3 l3 c3 k3 a4 l4 c4 k4 a5 l5 c5 k5 a6 l6 c6 k6 a7 l7 c7 k7 a8 l8 c8 k8 a9 l9 c9 k9 a10 l10 c10 k10 a11 l11 c11 k11 a12 l12 c12 k12 a13 l13 c13 k13 a14 l14 c14 k14 a15 l15 c15 k15 a16 l16 c16 k16 a17 l17 c17 k17 a18 l18 c18 k18 a19 l19 c19 k19 a20 l20 c20 k20 a21 l21 c21 k21 a22 l22 c22 k22 a23 l23 c23 k23 a24 l24 c24 k24 a25 l25 c25 k25 a26 l26 c26 k26 a27 l27 c27 k27 a28 l28 c28 k28 a29 l29 c29 k29 a30 l30 c30 k30 a31 l31 c31 k31 a32 l32 c32 k32 a33 l33 c33 k33 a34 l34 c34 k34 a35 l35 c35 k35 a36 l36 c36 k36 a37 l37 c37 k37 a38 l38 c38 k38 a39 l39 c39 k39 a40 l40 c40 k40 a41 l41 c41 k41 a42 l42 c42 k42 a43 l43 c43 k43 z_len z_abs z_range z_isinstance z_int z_bool z_tuple z_list z_str z_zip z_set z_all z_any z_min z_max z_sum z_sorted z_enumerate z_reversed z_dict z_ord z_divmod;have e:=hfa.symm.trans (PySem.W.mg_of X G a43);cases e;have B:Blt mg:=⟨PySem.W.mg_none_of X G z_len,PySem.W.mg_none_of X G z_abs,PySem.W.mg_none_of X G z_range,PySem.W.mg_none_of X G z_isinstance,PySem.W.mg_none_of X G z_int,PySem.W.mg_none_of X G z_bool,PySem.W.mg_none_of X G z_tuple,PySem.W.mg_none_of X G z_list,PySem.W.mg_none_of X G z_str,PySem.W.mg_none_of X G z_zip,PySem.W.mg_none_of X G z_set,PySem.W.mg_none_of X G z_all,PySem.W.mg_none_of X G z_any,PySem.W.mg_none_of X G z_min,PySem.W.mg_none_of X G z_max,PySem.W.mg_none_of X G z_sum,PySem.W.mg_none_of X G z_sorted,PySem.W.mg_none_of X G z_enumerate,PySem.W.mg_none_of X G z_reversed,PySem.W.mg_none_of X G z_dict,PySem.W.mg_none_of X G z_ord,PySem.W.mg_none_of X G z_divmod⟩
 have F0:FunAt K mg "whole" (top 4) ["value"]:=funAt_mk X G a0 l0 c0 k0 (bd1 rfl fun _ _ _ _ _ _ _=>rfl);have F1:FunAt K mg "greatest_divisor" (top 5) ["one","two"]:=funAt_mk X G a1 l1 c1 k1 (bd2 rfl fun _ _ _ _ _ _ _ _=>rfl);have F2:FunAt K mg "first_place" (top 7) ["row"]:=funAt_mk X G a2 l2 c2 k2 (bd1 rfl fun _ _ _ _ _ _ _=>rfl);have F3:FunAt K mg "unit_row" (top 8) ["size","own"]:=funAt_mk X G a3 l3 c3 k3 (bd2 rfl fun _ _ _ _ _ _ _ _=>rfl);have F4:FunAt K mg "unit_rows" (top 9) ["size"]:=funAt_mk X G a4 l4 c4 k4 (bd1 rfl fun _ _ _ _ _ _ _=>rfl);have F5:FunAt K mg "common_divisor" (top 10) ["row"]:=funAt_mk X G a5 l5 c5 k5 (bd1 rfl fun _ _ _ _ _ _ _=>rfl);have F6:FunAt K mg "lowest" (top 11) ["row"]:=funAt_mk X G a6 l6 c6 k6 (bd1 rfl fun _ _ _ _ _ _ _=>rfl);have F7:FunAt K mg "cleared" (top 12) ["row","stairs"]:=funAt_mk X G a7 l7 c7 k7 (bd2 rfl fun _ _ _ _ _ _ _ _=>rfl);have F8:FunAt K mg "sifted" (top 13) ["rows"]:=funAt_mk X G a8 l8 c8 k8 (bd1 rfl fun _ _ _ _ _ _ _=>rfl);have F9:FunAt K mg "free_places" (top 14) ["rows"]:=funAt_mk X G a9 l9 c9 k9 (bd1 rfl fun _ _ _ _ _ _ _=>rfl);have F10:FunAt K mg "nought_makers" (top 15) ["rows"]:=funAt_mk X G a10 l10 c10 k10 (bd1 rfl fun _ _ _ _ _ _ _=>rfl);have F11:FunAt K mg "heaps_of" (top 17) ["turnings"]:=funAt_mk X G a11 l11 c11 k11 (bd1 rfl fun _ _ _ _ _ _ _=>rfl);have F12:FunAt K mg "heaps" (top 18) ["vessel"]:=funAt_mk X G a12 l12 c12 k12 (bd1 rfl fun _ _ _ _ _ _ _=>rfl);have F13:FunAt K mg "turning_at" (top 19) ["vessel","number"]:=funAt_mk X G a13 l13 c13 k13 (bd2 rfl fun _ _ _ _ _ _ _ _=>rfl);have F14:FunAt K mg "change" (top 20) ["vessel","number"]:=funAt_mk X G a14 l14 c14 k14 (bd2 rfl fun _ _ _ _ _ _ _ _=>rfl);have F15:FunAt K mg "changes" (top 21) ["vessel"]:=funAt_mk X G a15 l15 c15 k15 (bd1 rfl fun _ _ _ _ _ _ _=>rfl);have F16:FunAt K mg "free" (top 23) ["vessel"]:=funAt_mk X G a16 l16 c16 k16 (bd1 rfl fun _ _ _ _ _ _ _=>rfl);have F17:FunAt K mg "heap_numbers" (top 25) ["vessel"]:=funAt_mk X G a17 l17 c17 k17 (bd1 rfl fun _ _ _ _ _ _ _=>rfl);have F18:FunAt K mg "places_of" (top 26) ["things","thing"]:=funAt_mk X G a18 l18 c18 k18 (bd2 rfl fun _ _ _ _ _ _ _ _=>rfl);have F19:FunAt K mg "lots" (top 27) ["vessel"]:=funAt_mk X G a19 l19 c19 k19 (bd1 rfl fun _ _ _ _ _ _ _=>rfl);have F20:FunAt K mg "lack" (top 29) ["vessel"]:=funAt_mk X G a20 l20 c20 k20 (bd1 rfl fun _ _ _ _ _ _ _=>rfl);have F21:FunAt K mg "lot_marks" (top 30) ["number","told_lots"]:=funAt_mk X G a21 l21 c21 k21 (bd2 rfl fun _ _ _ _ _ _ _ _=>rfl);have F22:FunAt K mg "lack_rows" (top 31) ["vessel"]:=funAt_mk X G a22 l22 c22 k22 (bd1 rfl fun _ _ _ _ _ _ _=>rfl);have F23:FunAt K mg "_law_cell_at" (top 33) ["_law_script","_law_k"]:=funAt_mk X G a23 l23 c23 k23 (bd2 rfl fun _ _ _ _ _ _ _ _=>rfl);have F24:FunAt K mg "_law_mixed" (top 34) ["_law_cell","_law_place"]:=funAt_mk X G a24 l24 c24 k24 (bd2 rfl fun _ _ _ _ _ _ _ _=>rfl);have F25:FunAt K mg "_law_divisor" (top 35) ["_law_one","_law_two"]:=funAt_mk X G a25 l25 c25 k25 (bd2 rfl fun _ _ _ _ _ _ _ _=>rfl);have F26:FunAt K mg "_law_lowest" (top 36) ["_law_top","_law_bottom"]:=funAt_mk X G a26 l26 c26 k26 (bd2 rfl fun _ _ _ _ _ _ _ _=>rfl);have F27:FunAt K mg "_law_words" (top 37) ["_law_number","_law_many"]:=funAt_mk X G a27 l27 c27 k27 (bd2 rfl fun _ _ _ _ _ _ _ _=>rfl);have F28:FunAt K mg "_law_heap" (top 38) ["_law_cell","_law_k","_law_many","_law_top","_law_plain"]:=funAt_mk X G a28 l28 c28 k28 (bd5 rfl fun _ _ _ _ _ _ _ _ _ _ _=>rfl);have F29:FunAt K mg "_law_pool" (top 39) ["_law_script","_law_at","_law_many","_law_size_here","_law_top","_law_plain"]:=funAt_mk X G a29 l29 c29 k29 (bd6 rfl fun _ _ _ _ _ _ _ _ _ _ _ _=>rfl);have F30:FunAt K mg "_law_pairs" (top 40) ["_law_script","_law_at","_law_size_here","_law_kind","_law_plain"]:=funAt_mk X G a30 l30 c30 k30 (bd5 rfl fun _ _ _ _ _ _ _ _ _ _ _=>rfl);have F31:FunAt K mg "_law_pace" (top 41) ["_law_cell","_law_kind"]:=funAt_mk X G a31 l31 c31 k31 (bd2 rfl fun _ _ _ _ _ _ _ _=>rfl);have F32:FunAt K mg "_law_vessel" (top 42) ["_law_script","_law_at"]:=funAt_mk X G a32 l32 c32 k32 (bd2 rfl fun _ _ _ _ _ _ _ _=>rfl);have F33:FunAt K mg "_law_whole" (top 43) ["_law_found"]:=funAt_mk X G a33 l33 c33 k33 (bd1 rfl fun _ _ _ _ _ _ _=>rfl);have F34:FunAt K mg "_law_heaps" (top 44) ["_law_vessel_here"]:=funAt_mk X G a34 l34 c34 k34 (bd1 rfl fun _ _ _ _ _ _ _=>rfl);have F35:FunAt K mg "_law_ends" (top 45) ["_law_vessel_here"]:=funAt_mk X G a35 l35 c35 k35 (bd1 rfl fun _ _ _ _ _ _ _=>rfl);have F36:FunAt K mg "_law_changes" (top 46) ["_law_vessel_here"]:=funAt_mk X G a36 l36 c36 k36 (bd1 rfl fun _ _ _ _ _ _ _=>rfl);have F37:FunAt K mg "_law_reach" (top 47) ["_law_ends_here","_law_one"]:=funAt_mk X G a37 l37 c37 k37 (bd2 rfl fun _ _ _ _ _ _ _ _=>rfl);have F38:FunAt K mg "_law_size" (top 48) ["_law_rows"]:=funAt_mk X G a38 l38 c38 k38 (bd1 rfl fun _ _ _ _ _ _ _=>rfl);have F39:FunAt K mg "_law_good_row" (top 49) ["_law_row","_law_width"]:=funAt_mk X G a39 l39 c39 k39 (bd2 rfl fun _ _ _ _ _ _ _ _=>rfl);have F40:FunAt K mg "_law_nought" (top 50) ["_law_row","_law_other"]:=funAt_mk X G a40 l40 c40 k40 (bd2 rfl fun _ _ _ _ _ _ _ _=>rfl);have F41:FunAt K mg "_law_basis" (top 51) ["_law_found","_law_rows","_law_width"]:=funAt_mk X G a41 l41 c41 k41 (bd3 rfl fun _ _ _ _ _ _ _ _ _=>rfl);have F42:FunAt K mg "_law_lots" (top 52) ["_law_ends_here","_law_many"]:=funAt_mk X G a42 l42 c42 k42 (bd2 rfl fun _ _ _ _ _ _ _ _=>rfl);refine ⟨PySem.W.fnOf "law" "law" (defArgs (top 53)) (defBody (top 53)) (defScope (top 53)) .none kV43 dc43 pm43 an43 cd43 ct43,fun s v=>.of_eq rfl,fun base _ _=>?_⟩;exact ok_all  (fun_mk (st:=top 53) l43 c43 k43) B F0 F1 F2 F3 F4 F5 F6 F7 F8 F9 F10 F11 F12 F13 F14 F15 F16 F17 F18 F19 F20 F21 F22 F23 F24 F25 F26 F27 F28 F29 F30 F31 F32 F33 F34 F35 F36 F37 F38 F39 F40 F41 F42
end K81
theorem PySem.Challenge.cw_vesselhall_k81_the_lack_holds : PySem.Challenge.rw_vesselhall_k81_the_lack.Holds := by
 exact K81.fin
#print axioms PySem.Challenge.cw_vesselhall_k81_the_lack_holds

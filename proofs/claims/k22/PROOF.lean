import PyProof.Rows.All
import Wide.All
import OpenK.AllK
import Wide.FinOn
import PyProof.EqAt
import PyProof.EqKinds
import PyProof.TupleCall
import PySem.SetTable
import Wide.Seal
import Lean
import PySem.Challenge.RW_vesselhall_k22_texts_read
set_option Elab.async false
set_option linter.all false
set_option maxRecDepth 100000
set_option maxHeartbeats 4000000
namespace HdT
open PySem PySem.W
def grow : BT → Nat → List Obj → BT
  | T, _, [] => T
  | T, n, o :: os => grow (T.ins n o) (n + 1) os
def growOk : BT → Nat → List Obj → Bool
  | _, _, [] => true
  | T, n, o :: os => match ((T.ins n o).get n).isSome with
    | true => growOk (T.ins n o) (n + 1) os
    | false => false
theorem grow_abs : ∀ (os : List Obj) (T : BT) (n : Nat) (life : Life), growOk T n os = true → absHeap (grow T n os) (n + os.length) life = ⟨(absHeap T n life).objs ++ os.toArray, life⟩
  | [], T, n, life, _ => by
    show absHeap T n life = _
    rw [show ([] : List Obj).toArray = #[] from rfl, Array.append_empty]
    rfl
  | o :: os, T, n, life, h => by
    unfold growOk at h
    split at h
    · rename_i e
      have ih := grow_abs os (T.ins n o) (n + 1) life h
      rw [absHeap_ins e] at ih
      show absHeap (grow (T.ins n o) (n + 1) os) (n + (os.length + 1)) life = _
      rw [show n + (os.length + 1) = n + 1 + os.length by omega, ih]
      show Heap.mk ((absHeap T n life).objs.push o ++ os.toArray) life = Heap.mk ((absHeap T n life).objs ++ (o :: os).toArray) life
      congr 1
      simp
    · cases h
def runT (tb : String → Option Builtin) (p : Program) (w : World) (n₀ : Nat) (ann : Option Value) : Nat → SharedT → Thread → Option SharedT
  | 0, _, _ => none
  | n + 1, s, t => match through t with
    | true => some s
    | false => match stepOk n₀ ann t with
      | false => none
      | true => match stepT (denote tb) p w s t with
        | some (s', t') => runT tb p w n₀ ann n s' t'
        | none => none
theorem runT_of {tb : String → Option Builtin} {p : Program} {w : World} {n₀ : Nat} {ann : Option Value} : ∀ {n : Nat} {s r : SharedT} {t : Thread}, runT tb p w n₀ ann n s t = some r → topRun tb p w n₀ ann n s.abs t = some r.abs
  | 0, _, _, _, h => by cases h
  | n + 1, s, r, t, h => by
    unfold runT at h
    unfold topRun
    cases he : through t with
    | true => rw [he] at h; cases h; rfl
    | false =>
      rw [he] at h
      cases hk : stepOk n₀ ann t with
      | false => rw [hk] at h; cases h
      | true =>
        rw [hk] at h
        cases hs : stepT (denote tb) p w s t with
        | none => rw [hs] at h; cases h
        | some x => obtain ⟨s₂, t₂⟩ := x; rw [hs] at h; rw [stepT_spec hs]; exact runT_of h
noncomputable def start0 (P : Params) (os : OsState) : SharedT := ⟨grow .nil 0 (boot_heap P).objs.toList, (boot_heap P).objs.toList.length, (boot_heap P).life, Array.mk [], boot_drawn, boot_toks, os⟩
theorem start0_abs {P : Params} {os : OsState} (h : growOk .nil 0 (boot_heap P).objs.toList = true) : (start0 P os).abs = ⟨boot_heap P, Array.mk [], boot_drawn, boot_toks, os⟩ := by
  have e := grow_abs (boot_heap P).objs.toList .nil 0 (boot_heap P).life h
  rw [Nat.zero_add] at e
  unfold SharedT.abs start0
  simp only
  rw [e]
  congr 1
noncomputable def ends (tb : String → Option Builtin) (mods : List Str) (p : Program) (w : World) (N : Nat) (os : OsState) : Option Shared :=
  match (boot_heap w.params).isNs mainGlobals with
  | true => (runT tb p w (boot_heap w.params).objs.size ((boot_heap w.params).nsMap mainGlobals "__annotations__") N (start0 w.params os) (topStub p)).bind fun r =>
      match staticsOk mods (boot_heap w.params) r.abs.heap && namesBound p r.abs.heap && gensDone r.abs && laidKept (boot_heap w.params) r.abs.heap with
      | true => some r.abs
      | false => none
  | false => none
theorem ends_of {p : Program} {w : World} {N : Nat} {os : OsState} {r : Shared} (g : growOk .nil 0 (boot_heap w.params).objs.toList = true) (h : ends treeTable (importedModules p.main.body) p w N os = some r) : topFrom treeTable p w N ⟨boot_heap w.params, Array.mk [], boot_drawn, boot_toks, os⟩ = some r := by
  unfold ends at h
  unfold topFrom
  cases hi : (boot_heap w.params).isNs mainGlobals with
  | false => rw [hi] at h; cases h
  | true =>
    rw [hi] at h
    simp only at h ⊢
    obtain ⟨x, hx, hr⟩ := Option.bind_eq_some_iff.mp h
    have := runT_of hx
    rw [start0_abs g] at this
    show (topRun treeTable p w (boot_heap w.params).objs.size ((boot_heap w.params).nsMap mainGlobals "__annotations__") N ⟨boot_heap w.params, Array.mk [], boot_drawn, boot_toks, os⟩ (topStub p)).bind _ = _
    rw [this]
    exact hr
theorem left {p q : Program} {loose : List Str} {Xt : Shared → Bool} {α : Type} {Yf : Shared → α} {Ya : World → α} {N : Nat}
    (e : opening p = plainProg p.main.scope.names) (hN : Nat.ble 600 N = true) (f : ∀ s, fenceModules? p s = some s) (g : ∀ w : World, growOk .nil 0 (boot_heap w.params).objs.toList = true)
    (h : ∀ w os, (ends treeTable (importedModules p.main.body) p w N os).map (fun s => (openSeen q loose (importedModules p.main.body) Xt true s, Yf s)) = some (openGood q loose, Ya w)) : LeftO p q loose Xt Yf Ya N := fun w => by
  obtain ⟨s, hs, hv⟩ := Option.map_eq_some_iff.mp (boot_open e hN f w)
  unfold openEnds
  rw [hs]
  obtain ⟨heap, gens, drawn, toks, os⟩ := s
  obtain ⟨h1, h2⟩ := Prod.mk.inj hv
  obtain ⟨h2, h3⟩ := Prod.mk.inj h2
  obtain ⟨h3, h4⟩ := Prod.mk.inj h3
  subst h1 h2 h3 h4
  obtain ⟨r, hr, hv⟩ := Option.map_eq_some_iff.mp (h w os)
  show (topFrom treeTable p w N _).map _ = _
  rw [ends_of (g w) hr]
  exact congrArg some hv
end HdT
namespace K22H
open PySem
def qv : PySem.Program := PySem.W.view PySem.Challenge.pw_vesselhall_k22_texts_read [1, 2, 3, 4, 5, 6, 7, 9, 10, 11, 12, 14, 15, 16, 17, 18, 19, 20, 21, 22, 23, 24, 25, 26, 28, 29, 30, 31, 32, 33, 34, 35, 36, 37, 39, 40, 41, 42, 43, 44, 45, 46, 47, 48, 49, 50, 51, 52, 53, 54]
theorem said (h : PySem.Challenge.rw_vesselhall_k22_texts_read.row.Holds) : PySem.Challenge.rw_vesselhall_k22_texts_read.Holds := by
  w_on; o_law; exact h
theorem booted {q : PySem.Program} {loose : List PySem.Str} {Xt : PySem.Shared → Bool} {α : Type} {Yf : PySem.Shared → α} {Ya : PySem.World → α} (h : ∀ w os, (HdT.ends PySem.treeTable (PySem.importedModules PySem.Challenge.pw_vesselhall_k22_texts_read.main.body) PySem.Challenge.pw_vesselhall_k22_texts_read w 5628 os).map (fun s => (PySem.W.openSeen q loose (PySem.importedModules PySem.Challenge.pw_vesselhall_k22_texts_read.main.body) Xt true s, Yf s)) = some (PySem.W.openGood q loose, Ya w)) : PySem.W.LeftO PySem.Challenge.pw_vesselhall_k22_texts_read q loose Xt Yf Ya 5628 :=
  HdT.left (by kernel_rfl) (by decide) (fun s => by kernel_rfl) (fun w => by kernel_rfl) h
local macro_rules | `(tactic| o_head $H) => `(tactic| refine PySem.W.holds_open (q := K22H.qv) (loose := ["PIECES_WRITTEN"]) (Xt := fun s => PySem.W.xlAt K22H.qv [] s && PySem.W.recOk [] s) (XP := PySem.W.XL K22H.qv []) (Yf := PySem.W.Hook.obs $H) (Ya := PySem.W.Hook.val $H) (YP := PySem.W.Hook.says $H) (N := 5628) ?_ (PySem.W.Hook.of $H) (PySem.W.Hook.keeps $H) (fun s e => PySem.W.xl_of s (Bool.and_eq_true_iff.mp e).1) PySem.W.XL.keeps (by rfl) (by rfl) (by rfl) (fun s e => PySem.W.recFacts_of (Bool.and_eq_true_iff.mp e).2) (by rfl) (by first | assumption | decide +kernel) (by decide +kernel) ⟨rfl, rfl, rfl, rfl, rfl, by decide +kernel⟩ ?_ ?_)
set_option maxRecDepth 100000 in
set_option maxHeartbeats 0 in
open PySem.W PyProof.Rows in
theorem pre (hL : ∀ (α : Type) (Yf : PySem.Shared → α) (Ya : PySem.World → α), PySem.W.LeftO PySem.Challenge.pw_vesselhall_k22_texts_read qv ["PIECES_WRITTEN"] (fun s => PySem.W.xlAt qv [] s && PySem.W.recOk [] s) Yf Ya 5628) (hP : PySem.Challenge.rw_vesselhall_k22_texts_read.row.toRowW.promised) (hC : ∀ (YP : PySem.World → PySem.Heap → Prop) (d : DefRec), PySem.W.WalkO qv ["PIECES_WRITTEN"] (PySem.W.XL qv []) YP PySem.Challenge.rw_vesselhall_k22_texts_read.row.toRowW d [] (fun f vs => PySem.call f vs)) : PySem.Challenge.rw_vesselhall_k22_texts_read.row.Holds := by
  w_on; k_head
  · exact hL _ _ _
  · exact hP
  · exact hC _ _
def asl : List Nat := [2, 3, 15, 22, 23, 24, 25, 28, 35, 36, 37, 40, 47, 48, 49, 52, 59, 60, 61, 64, 71, 72, 73, 76, 83, 84, 85, 88, 95, 97, 98, 100, 101, 102, 103, 104, 107, 109, 110, 112, 113, 114, 116, 117, 119, 120, 121, 123, 124, 126, 127, 128, 130, 131, 133, 134, 135, 136, 139, 140, 141, 144, 145, 146, 149, 150, 151, 154, 155, 156, 159, 160, 161, 163, 164, 166, 167, 168, 170, 171, 173, 174, 175, 176, 178, 179, 181, 182, 183, 186, 187, 188, 190, 191, 193, 194, 195, 197, 198, 200, 201, 202, 205, 206, 207, 210, 211, 212, 214, 215, 217, 218, 219, 221, 222, 224, 225, 226, 228, 229, 231, 232, 233, 235, 236, 238, 239, 240, 242, 243, 245, 246, 247, 249, 250, 252, 253, 254, 256, 257, 259, 260, 261, 263, 264, 266, 267, 268, 270, 271, 273, 274, 275, 277, 278, 280, 281, 282, 284, 285, 287, 288, 289, 292, 293, 294, 296, 297, 299, 300, 301, 303, 304, 306, 307, 308, 310, 311, 313, 314, 315, 317, 318, 320, 321, 322, 324, 325, 327, 328, 329, 331, 332, 334, 335, 336, 339, 340]
theorem asl_ok (P : PySem.Params) : asl = (pre.heap_1 P).map (·.1) := by kernel_rfl
set_option maxRecDepth 100000 in
set_option maxHeartbeats 0 in
theorem seenfalse (w : PySem.World) (os : PySem.OsState) : (HdT.ends PySem.treeTable (PySem.importedModules PySem.Challenge.pw_vesselhall_k22_texts_read.main.body) PySem.Challenge.pw_vesselhall_k22_texts_read (w.withFollow "special-get-raises" false) 5628 os).map (fun s => PySem.W.openSeen (PySem.W.view PySem.Challenge.pw_vesselhall_k22_texts_read [1, 2, 3, 4, 5, 6, 7, 9, 10, 11, 12, 14, 15, 16, 17, 18, 19, 20, 21, 22, 23, 24, 25, 26, 28, 29, 30, 31, 32, 33, 34, 35, 36, 37, 39, 40, 41, 42, 43, 44, 45, 46, 47, 48, 49, 50, 51, 52, 53, 54]) ["PIECES_WRITTEN"] (PySem.importedModules PySem.Challenge.pw_vesselhall_k22_texts_read.main.body) (fun s => PySem.W.xlAt (PySem.W.view PySem.Challenge.pw_vesselhall_k22_texts_read [1, 2, 3, 4, 5, 6, 7, 9, 10, 11, 12, 14, 15, 16, 17, 18, 19, 20, 21, 22, 23, 24, 25, 26, 28, 29, 30, 31, 32, 33, 34, 35, 36, 37, 39, 40, 41, 42, 43, 44, 45, 46, 47, 48, 49, 50, 51, 52, 53, 54]) [] s && PySem.W.recOk [] s) true s) = some (PySem.W.openGood (PySem.W.view PySem.Challenge.pw_vesselhall_k22_texts_read [1, 2, 3, 4, 5, 6, 7, 9, 10, 11, 12, 14, 15, 16, 17, 18, 19, 20, 21, 22, 23, 24, 25, 26, 28, 29, 30, 31, 32, 33, 34, 35, 36, 37, 39, 40, 41, 42, 43, 44, 45, 46, 47, 48, 49, 50, 51, 52, 53, 54]) ["PIECES_WRITTEN"]) := by
  rw [PySem.W.Fast.te4187177175401517315, PySem.W.Fast.te5923862056798008813, PySem.W.Fast.te14364793385576792824, PySem.W.Fast.te17237646302684157766]; kernel_rfl
set_option maxRecDepth 100000 in
set_option maxHeartbeats 0 in
theorem hookfalse (w : PySem.World) (os : PySem.OsState) : (HdT.ends PySem.treeTable (PySem.importedModules PySem.Challenge.pw_vesselhall_k22_texts_read.main.body) PySem.Challenge.pw_vesselhall_k22_texts_read (w.withFollow "special-get-raises" false) 5628 os).map (fun s => asl.map s.heap.get?) = some ((pre.heap_1 (w.withFollow "special-get-raises" false).params).map fun p => some p.2) := by
  unfold asl; rw [PySem.W.Fast.te5923862056798008813, PySem.W.Fast.te14364793385576792824, PySem.W.Fast.te17237646302684157766]; kernel_rfl
set_option maxRecDepth 100000 in
set_option maxHeartbeats 0 in
theorem seentrue (w : PySem.World) (os : PySem.OsState) : (HdT.ends PySem.treeTable (PySem.importedModules PySem.Challenge.pw_vesselhall_k22_texts_read.main.body) PySem.Challenge.pw_vesselhall_k22_texts_read (w.withFollow "special-get-raises" true) 5628 os).map (fun s => PySem.W.openSeen (PySem.W.view PySem.Challenge.pw_vesselhall_k22_texts_read [1, 2, 3, 4, 5, 6, 7, 9, 10, 11, 12, 14, 15, 16, 17, 18, 19, 20, 21, 22, 23, 24, 25, 26, 28, 29, 30, 31, 32, 33, 34, 35, 36, 37, 39, 40, 41, 42, 43, 44, 45, 46, 47, 48, 49, 50, 51, 52, 53, 54]) ["PIECES_WRITTEN"] (PySem.importedModules PySem.Challenge.pw_vesselhall_k22_texts_read.main.body) (fun s => PySem.W.xlAt (PySem.W.view PySem.Challenge.pw_vesselhall_k22_texts_read [1, 2, 3, 4, 5, 6, 7, 9, 10, 11, 12, 14, 15, 16, 17, 18, 19, 20, 21, 22, 23, 24, 25, 26, 28, 29, 30, 31, 32, 33, 34, 35, 36, 37, 39, 40, 41, 42, 43, 44, 45, 46, 47, 48, 49, 50, 51, 52, 53, 54]) [] s && PySem.W.recOk [] s) true s) = some (PySem.W.openGood (PySem.W.view PySem.Challenge.pw_vesselhall_k22_texts_read [1, 2, 3, 4, 5, 6, 7, 9, 10, 11, 12, 14, 15, 16, 17, 18, 19, 20, 21, 22, 23, 24, 25, 26, 28, 29, 30, 31, 32, 33, 34, 35, 36, 37, 39, 40, 41, 42, 43, 44, 45, 46, 47, 48, 49, 50, 51, 52, 53, 54]) ["PIECES_WRITTEN"]) := by
  rw [PySem.W.Fast.te4187177175401517315, PySem.W.Fast.te5923862056798008813, PySem.W.Fast.te14364793385576792824, PySem.W.Fast.te17237646302684157766]; kernel_rfl
set_option maxRecDepth 100000 in
set_option maxHeartbeats 0 in
theorem hooktrue (w : PySem.World) (os : PySem.OsState) : (HdT.ends PySem.treeTable (PySem.importedModules PySem.Challenge.pw_vesselhall_k22_texts_read.main.body) PySem.Challenge.pw_vesselhall_k22_texts_read (w.withFollow "special-get-raises" true) 5628 os).map (fun s => asl.map s.heap.get?) = some ((pre.heap_1 (w.withFollow "special-get-raises" true).params).map fun p => some p.2) := by
  unfold asl; rw [PySem.W.Fast.te5923862056798008813, PySem.W.Fast.te14364793385576792824, PySem.W.Fast.te17237646302684157766]; kernel_rfl
theorem hooks : PySem.W.LeftO PySem.Challenge.pw_vesselhall_k22_texts_read qv ["PIECES_WRITTEN"] (fun s => PySem.W.xlAt qv [] s && PySem.W.recOk [] s) (fun s => asl.map s.heap.get?) (fun w => (pre.heap_1 w.params).map fun p => some p.2) 5628 :=
  booted (PySem.W.byRow2 "special-get-raises" (fun w => fun os => by
    obtain ⟨s, e, a⟩ := Option.map_eq_some_iff.mp (seenfalse w os)
    have b := hookfalse w os
    rw [e] at b ⊢
    exact congrArg some (Prod.ext a (Option.some.inj b))) (fun w => fun os => by
    obtain ⟨s, e, a⟩ := Option.map_eq_some_iff.mp (seentrue w os)
    have b := hooktrue w os
    rw [e] at b ⊢
    exact congrArg some (Prod.ext a (Option.some.inj b))))
end K22H
set_option Elab.async false
set_option linter.all false
set_option maxRecDepth 100000
set_option maxHeartbeats 4000000
set_option Elab.async false
set_option linter.all false
set_option maxRecDepth 100000
namespace L2
open PySem PySem.Spec PyProof.Rows
abbrev Key := Sum Int Str
def keyIs : Key → Value → Bool
  | .inl k, v => Value.isInt k v
  | .inr x, v => Value.isStrOf x v
def keyH (w : World) : Key → Int
  | .inl k => hashInt k
  | .inr x => hashStr w x
theorem keyIs_shape : ∀ {k : Key} {v : Value}, keyIs k v = true → (∃ i t, k = Sum.inl i ∧ v = Value.int i t) ∨ (∃ x t, k = Sum.inr x ∧ v = Value.str x t)
  | .inl i, v, h => by
    obtain ⟨t, e⟩ := Value.isInt_shape (k := i) (v := v) h
    exact .inl ⟨i, t, rfl, e⟩
  | .inr x, v, h => by
    obtain ⟨t, e⟩ := Value.isStrOf_shape (x := x) (v := v) h
    exact .inr ⟨x, t, rfl, e⟩
theorem keyIs_int (i : Int) (t : Tok) : keyIs (.inl i) (.int i t) = true := by simp [keyIs, Value.isInt]
theorem keyIs_str (x : Str) (t : Tok) : keyIs (.inr x) (.str x t) = true := by simp [keyIs, Value.isStrOf]
theorem key_ll (a b : Int) : decide ((Sum.inl a : Key) = Sum.inl b) = (a == b) := by
  by_cases e : a = b
  · subst e; simp
  · have h : ¬ (Sum.inl a : Key) = Sum.inl b := fun q => e (Sum.inl.inj q)
    rw [decide_eq_false h]
    exact (beq_eq_false_iff_ne.mpr e).symm
theorem key_rr (a b : Str) : decide ((Sum.inr a : Key) = Sum.inr b) = decide (a = b) := by
  by_cases e : a = b
  · subst e; simp
  · have h : ¬ (Sum.inr a : Key) = Sum.inr b := fun q => e (Sum.inr.inj q)
    rw [decide_eq_false h, decide_eq_false e]
theorem key_lr (a : Int) (b : Str) : decide ((Sum.inl a : Key) = Sum.inr b) = false := decide_eq_false (fun q => nomatch q)
theorem key_rl (a : Str) (b : Int) : decide ((Sum.inr a : Key) = Sum.inl b) = false := decide_eq_false (fun q => nomatch q)
def mixKind (prog : Program) (w : World) : PySem.KeyKind prog w Key where
  is := keyIs
  hash := keyH w
  inj := fun v a b ha hb => by
    rcases keyIs_shape ha with ⟨i, t, rfl, rfl⟩ | ⟨x, t, rfl, rfl⟩
    · rcases keyIs_shape hb with ⟨j, u, rfl, e⟩ | ⟨y, u, rfl, e⟩
      · injection e with e1 _; rw [e1]
      · exact nomatch e
    · rcases keyIs_shape hb with ⟨j, u, rfl, e⟩ | ⟨y, u, rfl, e⟩
      · exact nomatch e
      · injection e with e1 _; rw [e1]
  byValue := fun k v h => by
    rcases keyIs_shape h with ⟨i, t, rfl, rfl⟩ | ⟨x, t, rfl, rfl⟩ <;> rfl
  pyHash := fun hv h => by
    rcases keyIs_shape hv with ⟨i, t, rfl, rfl⟩ | ⟨x, t, rfl, rfl⟩
    · exact wpAny_pyHash_int h
    · exact wpAny_pyHash_str h
  eqBool := fun hu hv h => by
    rcases keyIs_shape hu with ⟨i, t, rfl, rfl⟩ | ⟨x, t, rfl, rfl⟩
    · rcases keyIs_shape hv with ⟨j, u, rfl, rfl⟩ | ⟨y, u, rfl, rfl⟩
      · rw [key_ll] at h; exact wpAny_eqBool_int h
      · rw [key_lr] at h; exact SeqAt.EqAt.int_str i t y u _ _ _ _ h
    · rcases keyIs_shape hv with ⟨j, u, rfl, rfl⟩ | ⟨y, u, rfl, rfl⟩
      · rw [key_rl] at h; exact SeqAt.EqAt.str_int x t j u _ _ _ _ h
      · rw [key_rr] at h; exact wpAny_eqBool_str h
  «strs» := fun k x t v h => by
    rcases keyIs_shape h with ⟨i, u, rfl, e⟩ | ⟨y, u, rfl, e⟩
    · exact nomatch e
    · injection e with e1 _
      subst e1
      cases v <;> rfl
theorem mixKind_int (prog : Program) (w : World) (i : Int) (t : Tok) : (mixKind prog w).is (.inl i) (.int i t) = true := keyIs_int i t
theorem mixKind_str (prog : Program) (w : World) (x : Str) (t : Tok) : (mixKind prog w).is (.inr x) (.str x t) = true := keyIs_str x t
end L2
namespace L2
open PySem PySem.Spec PyProof.Rows
inductive V where
  | non | bl (b : Bool) | int (i : Int) | str (x : Str) | byt (b : Array UInt8) | flt (b : UInt64) | ref (a : Addr) | ty (n : String)
  deriving DecidableEq
def RelV : V → Value → Prop
  | .non, u => u = Value.none
  | .bl b, u => u = Value.bool b
  | .int i, u => ∃ t, u = Value.int i t
  | .str x, u => ∃ t, u = Value.str x t
  | .byt b, u => ∃ t, u = Value.bytes b t
  | .flt b, u => ∃ t, u = Value.float b t
  | .ref a, u => u = Value.ref a
  | .ty n, u => u = Value.type n
abbrev Vals : List V → List Value → Prop := Paired RelV
theorem Vals.length {xs : List V} {us : List Value} (r : Vals xs us) : xs.length = us.length := Paired.length r
theorem Vals.get : ∀ {xs : List V} {us : List Value} {i : Nat} {x : V}, Vals xs us → xs[i]? = some x → ∃ u, us[i]? = some u ∧ RelV x u
  | _, _, _, _, .nil, e => by simp at e
  | _, _, 0, _, .cons r _, e => by simp at e; subst e; exact ⟨_, rfl, r⟩
  | _, _, i + 1, x, .cons _ t, e => by
    obtain ⟨u, h1, h2⟩ := Vals.get (i := i) (x := x) t (by simpa using e)
    exact ⟨u, by simpa using h1, h2⟩
theorem Vals.append : ∀ {xs ys : List V} {us ws : List Value}, Vals xs us → Vals ys ws → Vals (xs ++ ys) (us ++ ws)
  | _, _, _, _, .nil, s => s
  | _, _, _, _, .cons r t, s => .cons r (Vals.append t s)
theorem Vals.take : ∀ {xs : List V} {us : List Value} (n : Nat), Vals xs us → Vals (xs.take n) (us.take n)
  | _, _, 0, _ => .nil
  | _, _, _ + 1, .nil => .nil
  | _, _, n + 1, .cons r t => .cons r (Vals.take n t)
theorem Vals.drop : ∀ {xs : List V} {us : List Value} (n : Nat), Vals xs us → Vals (xs.drop n) (us.drop n)
  | _, _, 0, r => r
  | _, _, _ + 1, .nil => .nil
  | _, _, n + 1, .cons _ t => Vals.drop n t
def RelO : Option V → Option Value → Prop
  | some v, some u => RelV v u
  | none, none => True
  | _, _ => False
def KV {κ : Type} : List (κ × V) → List (κ × Value) → Prop := Paired fun (p : κ × V) (q : κ × Value) => p.1 = q.1 ∧ RelV p.2 q.2
def kV : Key → V
  | .inl i => .int i
  | .inr x => .str x
inductive HO where
  | lst (xs : List V)
  | tup (xs : List V)
  | dK (kvs : List (Key × V)) | dT (kvs : List (List Key × V))
  | set (S : Int → Bool) (n : Nat)
  | ins (C dx : Addr) (fs : List (Str × V))
  | own (x : Addr)
  | xd (fs : List (Str × V))
  | met (f x : Addr)
  | rng (lo hi : Int)
  | frz (o : Obj) (u : HO)
  | tbl (ps : Array Value)
  | ext (φ : Heap → Prop)
abbrev Hp := Addr → Option HO
def upd (H : Hp) (a : Addr) (o : HO) : Hp := fun b => if b = a then some o else H b
theorem upd_same {H : Hp} {a : Addr} {o : HO} : upd H a o a = some o := by unfold upd; rw [if_pos rfl]
theorem upd_ne {H : Hp} {a b : Addr} {o : HO} (h : b ≠ a) : upd H a o b = H b := by unfold upd; rw [if_neg h]
theorem upd_upd {H : Hp} {a : Addr} {o u : HO} : upd (upd H a o) a u = upd H a u := by
  funext b; unfold upd; split <;> rfl
theorem ne_of {H : Hp} {a b : Addr} {o u : HO} (h : H a = some o) (h' : H b = some u) (d : o ≠ u) : a ≠ b := by
  intro e; subst e; rw [h] at h'; exact d (Option.some.inj h')
theorem ne_of_none {H : Hp} {a b : Addr} {o : HO} (h : H a = some o) (h' : H b = none) : a ≠ b := by
  intro e; subst e; rw [h] at h'; cases h'
section
variable (P : Program) (w : World)
def ObjOk (H : Hp) (h : Heap) (a : Addr) : HO → Prop
  | .lst xs => xs.length ≤ sizeLine ∧ ∃ (its : List Value) (n : Nat), Vals xs its ∧ h.get? a = some { cls := .type "list", data := .seq its.toArray n }
  | .tup xs => xs.length ≤ sizeLine ∧ ∃ its : List Value, Vals xs its ∧ IsTup h a its.toArray
  | .dK kvs => kvs.length ≤ sizeLine ∧ (a == sysModules) = false ∧ ∃ vs, KV kvs vs ∧ h.DictOf (mixKind P w) a vs
  | .dT kvs => kvs.length ≤ sizeLine ∧ (a == sysModules) = false ∧ ∃ xs : List (List Key × Addr × Value),
      Paired (fun (p : List Key × V) (q : List Key × Addr × Value) => p.1 = q.1 ∧ H q.2.1 = some (.tup (p.1.map kV)) ∧ RelV p.2 q.2.2) kvs xs ∧
      ∃ o es ep, h.get? a = some o ∧ o.ExactDict ∧ o.data = .dict es ep ∧ es.toList = xs.map (entryOfKey (tupleKind (mixKind P w))) ∧ (xs.map (·.1)).Nodup
  | .set S n => h.SetOf (intKind P w) a S n
  | .ins C dx fs => H dx = some (.own a) ∧ fs.length ≤ 1000 ∧ dx ≠ a ∧ h.get? a = some (PySem.W.instObj C dx) ∧
      ∃ mA, h.Ns1 dx mA ∧ (∀ f, RelO (fs.lookup f) (mA f)) ∧ PySem.Within mA (fs.map (·.1))
  | .own _ => ∃ o, h.get? a = some o
  | .xd fs => ∃ mA, h.Ns1 a mA ∧ ∀ f, RelO (fs.lookup f) (mA f)
  | .rng lo hi => ∃ t u v, h.get? a = some { cls := .type "range", data := .fields #[.int lo t, .int hi u, .int 1 v] }
  | .frz o u => h.get? a = some o ∧ ObjOk H h a u
  | .tbl ps => h.get? a = some { cls := .none, data := .fields ps }
  | .met f x => h.get? a = some (PySem.W.methodObj (.ref f) (.ref x))
  | .ext φ => φ h ∧ (∃ o, h.get? a = some o) ∧ ∀ h1 h2 : Heap, φ h1 → (∀ o, h1.get? a = some o → h2.get? a = some o) → φ h2
def HOk (H : Hp) (h : Heap) : Prop := ∀ a o, H a = some o → ObjOk P w H h a o
end
section
variable {P : Program} {w : World} {H H' : Hp} {h h' : Heap} {a : Addr} {o : HO}
theorem ObjOk.lt (x : ObjOk P w H h a o) : a < h.objs.size := by
  cases o with
  | lst xs => obtain ⟨_, _, _, _, e⟩ := x; exact Heap.lt_size e
  | tup xs => obtain ⟨_, _, _, p⟩ := x; exact p.lt
  | dK kvs => obtain ⟨_, _, _, _, o, _, _, e, _⟩ := x; exact Heap.lt_size e
  | dT kvs => obtain ⟨_, _, _, _, o, _, _, e, _⟩ := x; exact Heap.lt_size e
  | set S n => obtain ⟨o, _, _, _, e, _⟩ := x; exact Heap.lt_size e
  | ins C dx fs => obtain ⟨_, _, _, e, _⟩ := x; exact Heap.lt_size e
  | own y => obtain ⟨_, e⟩ := x; exact Heap.lt_size e
  | xd fs => obtain ⟨_, ⟨_, _, _, e, _⟩, _⟩ := x; exact Heap.lt_size e
  | rng lo hi => obtain ⟨_, _, _, e⟩ := x; exact Heap.lt_size e
  | frz ob u => obtain ⟨e, _⟩ := x; exact Heap.lt_size e
  | tbl ps => exact Heap.lt_size (show h.get? a = some _ from x)
  | met f y => exact Heap.lt_size (show h.get? a = some _ from x)
  | ext φ => obtain ⟨_, ⟨_, e⟩, _⟩ := x; exact Heap.lt_size e
theorem Paired.mapP {α β : Type} {F G : α → β → Prop} : ∀ {l₁ : List α} {l₂ : List β}, Paired F l₁ l₂ → (∀ a b, F a b → G a b) → Paired G l₁ l₂
  | _, _, .nil, _ => .nil
  | _, _, .cons r t, f => .cons (f _ _ r) (Paired.mapP t f)
theorem ObjOk.stay (x : ObjOk P w H h a o) (k : ∀ b u, (b = a ∨ H b = some (.own a)) → h.get? b = some u → h'.get? b = some u)
    (ho : ∀ b, H b = some (.own a) → H' b = some (.own a)) (ht : ∀ b xs, H b = some (.tup xs) → H' b = some (.tup xs)) : ObjOk P w H' h' a o := by
  induction o with
  | lst xs => obtain ⟨z, its, n, r, e⟩ := x; exact ⟨z, its, n, r, k _ _ (.inl rfl) e⟩
  | tup xs => obtain ⟨z, its, r, ob, e, c⟩ := x; exact ⟨z, its, r, ob, k _ _ (.inl rfl) e, c⟩
  | dK kvs => obtain ⟨z, y, vs, r, ob, es, ep, e, c⟩ := x; exact ⟨z, y, vs, r, ob, es, ep, k _ _ (.inl rfl) e, c⟩
  | dT kvs =>
    obtain ⟨z, y, xs, r, ob, es, ep, e, c⟩ := x
    exact ⟨z, y, xs, Paired.mapP r fun p q z => ⟨z.1, ht _ _ z.2.1, z.2.2⟩, ob, es, ep, k _ _ (.inl rfl) e, c⟩
  | set S n => obtain ⟨ob, es, ep, t, e, c⟩ := x; exact ⟨ob, es, ep, t, k _ _ (.inl rfl) e, c⟩
  | ins C dx fs =>
    obtain ⟨d, z, ne, e, mA, ⟨od, es, ep, e2, c⟩, r⟩ := x
    exact ⟨ho _ d, z, ne, k _ _ (.inl rfl) e, mA, ⟨od, es, ep, k _ _ (.inr d) e2, c⟩, r⟩
  | own y => obtain ⟨ob, e⟩ := x; exact ⟨ob, k _ _ (.inl rfl) e⟩
  | xd fs => obtain ⟨mA, ⟨od, es, ep, e, c⟩, r⟩ := x; exact ⟨mA, ⟨od, es, ep, k _ _ (.inl rfl) e, c⟩, r⟩
  | rng lo hi => obtain ⟨t, u, v, e⟩ := x; exact ⟨t, u, v, k _ _ (.inl rfl) e⟩
  | frz ob u ih => obtain ⟨e, q⟩ := x; exact ⟨k _ _ (.inl rfl) e, ih q⟩
  | tbl ps =>
    have e : h.get? a = some { cls := .none, data := .fields ps } := x
    show h'.get? a = some { cls := .none, data := .fields ps }
    exact k a _ (.inl rfl) e
  | met f y =>
    have e : h.get? a = some (PySem.W.methodObj (.ref f) (.ref y)) := x
    show h'.get? a = some (PySem.W.methodObj (.ref f) (.ref y))
    exact k a _ (.inl rfl) e
  | ext φ => obtain ⟨p, ⟨o, e⟩, st⟩ := x; exact ⟨st _ _ p fun o q => k _ _ (.inl rfl) q, ⟨o, k _ _ (.inl rfl) e⟩, st⟩
theorem HOk.lt (x : HOk P w H h) (e : H a = some o) : a < h.objs.size := (x a o e).lt
theorem HOk.fresh (x : HOk P w H h) (e : h.objs.size ≤ a) : H a = none := by
  cases q : H a with
  | none => rfl
  | some u => exact absurd (Nat.lt_of_lt_of_le (x.lt q) e) (Nat.lt_irrefl _)
theorem HOk.kept (x : HOk P w H h) (k : ∀ b u, h.get? b = some u → h'.get? b = some u) : HOk P w H h' := fun a o e =>
  (x a o e).stay (fun b u _ q => k b u q) (fun _ q => q) fun _ _ q => q
theorem HOk.laid (x : HOk P w H h) (k : ∀ b u, h.get? b = some u → h'.get? b = some u) (hp : h.objs.size ≤ a) (new : ObjOk P w (upd H a o) h' a o) : HOk P w (upd H a o) h' := fun b u e => by
  have hn := x.fresh hp
  by_cases hb : b = a
  · subst hb; rw [upd_same] at e; cases e; exact new
  · rw [upd_ne hb] at e
    exact (x b u e).stay (fun c v _ q => k c v q) (fun c q => by rw [upd_ne (ne_of_none q hn)]; exact q) fun c xs q => by rw [upd_ne (ne_of_none q hn)]; exact q
end
def Rd (H : Hp) (a : Addr) (u : HO) : Prop := H a = some u ∨ ∃ o, H a = some (.frz o u)
theorem Rd.ok {P : Program} {w : World} {H : Hp} {h : Heap} {a : Addr} {u : HO} (r : Rd H a u) (x : HOk P w H h) : ObjOk P w H h a u := by
  rcases r with r | ⟨o, r⟩
  · exact x a u r
  · obtain ⟨_, q⟩ := x a _ r
    exact q
def Mut : Option HO → Prop
  | some (.lst _) => True
  | some (.dK _) => True
  | some (.dT _) => True
  | some (.set _ _) => True
  | some (.ins _ _ _) => True
  | some (.ext _) => True
  | _ => False
section
variable {P : Program} {w : World} {H : Hp} {h h' : Heap} {x e : Addr} {o' : HO}
theorem HOk.write (ok : HOk P w H h) (mu : Mut (H x)) (he : e = x ∨ H e = some (.own x)) (k : ∀ b u, b ≠ e → h.get? b = some u → h'.get? b = some u) (heo : ∃ u, h'.get? e = some u)
    (new : ObjOk P w (upd H x o') h' x o') : HOk P w (upd H x o') h' := fun b u q => by
  have nown : ∀ c y, H c = some (.own y) → c ≠ x := fun c y r z => by subst z; rw [r] at mu; exact mu
  have ntup : ∀ c xs, H c = some (.tup xs) → c ≠ x := fun c xs r z => by subst z; rw [r] at mu; exact mu
  by_cases hb : b = x
  · subst hb; rw [upd_same] at q; cases q; exact new
  · rw [upd_ne hb] at q
    by_cases hbe : b = e
    · have q' : H b = some (.own x) := by
        rcases he with z | z
        · exact absurd (hbe.trans z) hb
        · rw [hbe]; exact z
      rw [q] at q'; cases q'
      obtain ⟨v, hv⟩ := heo
      exact ⟨v, by rw [hbe]; exact hv⟩
    · refine (ok b u q).stay (fun c v hc r => k c v ?_ r) (fun c r => by rw [upd_ne (nown c b r)]; exact r) fun c xs r => by rw [upd_ne (ntup c xs r)]; exact r
      rcases hc with rfl | hc
      · exact hbe
      · rintro rfl
        rcases he with z | z
        · exact nown c b hc z
        · rw [hc] at z; cases z; exact hb rfl
end
structure Un (fs ex : List Addr) (H H' : Hp) (h h' : Heap) : Prop where
  keep : ∀ b o, h.get? b = some o → H b = none → b ∉ fs → b ∉ ex → h'.get? b = some o
  slot : ∀ b o, h.get? b = some o → H b = none → b ∈ fs → b ∉ ex → ∃ sl, h'.get? b = some { o with slots := sl }
  free : ∀ b o, h.get? b = some o → H b = none → b ∉ ex → H' b = none
  there : ∀ b o, h.get? b = some o → b ∉ ex → ∃ o', h'.get? b = some o'
  tups : ∀ b xs, H b = some (.tup xs) → H' b = some (.tup xs)
  frzs : ∀ b o u, H b = some (.frz o u) → H' b = some (.frz o u)
  tbls : ∀ b ps, H b = some (.tbl ps) → ∃ more, H' b = some (.tbl (ps ++ more))
section
variable {fs fs' ex ex' : List Addr} {H H1 H2 : Hp} {h h1 h2 h' : Heap} {a x e : Addr} {o : HO}
theorem Un.any (u : Un fs ex H H1 h h1) {b : Addr} {ob : Obj} (q : h.get? b = some ob) (n : H b = none) (hx : b ∉ ex) : ∃ sl, h1.get? b = some { ob with slots := sl } := by
  by_cases hb : b ∈ fs
  · exact u.slot b ob q n hb hx
  · exact ⟨ob.slots, u.keep b ob q n hb hx⟩
theorem Un.kept (k : ∀ b u, h.get? b = some u → h'.get? b = some u) : Un fs ex H H h h' :=
  ⟨fun b ob q _ _ _ => k b ob q, fun b ob q _ _ _ => ⟨ob.slots, k b ob q⟩, fun _ _ _ n _ => n, fun b ob q _ => ⟨ob, k b ob q⟩, fun _ _ q => q, fun _ _ _ q => q, fun _ ps q => ⟨#[], by rw [q]; simp⟩⟩
theorem Un.refl : Un fs ex H H h h := Un.kept fun _ _ q => q
theorem Un.laid (k : ∀ b u, h.get? b = some u → h'.get? b = some u) (hp : h.objs.size ≤ a) (hn : H a = none) : Un fs ex H (upd H a o) h h' where
  keep := fun b u q _ _ _ => k b u q
  slot := fun b u q _ _ _ => ⟨u.slots, k b u q⟩
  free := fun b u q n _ => by rw [upd_ne (Nat.ne_of_lt (Nat.lt_of_lt_of_le (Heap.lt_size q) hp))]; exact n
  there := fun b u q _ => ⟨u, k b u q⟩
  tups := fun b xs q => by rw [upd_ne (ne_of_none q hn)]; exact q
  frzs := fun b u xs q => by rw [upd_ne (ne_of_none q hn)]; exact q
  tbls := fun b ps q => ⟨#[], by rw [upd_ne (ne_of_none q hn), q]; simp⟩
theorem Un.write (mu : Mut (H x)) (he : e = x ∨ H e = some (.own x)) (k : ∀ b u, b ≠ e → h.get? b = some u → h'.get? b = some u) (heo : ∃ u, h'.get? e = some u) : Un fs ex H (upd H x o) h h' := by
  have hx : ∀ b, H b = none → b ≠ x := fun b n z => by subst z; rw [n] at mu; exact mu
  have hb : ∀ b, H b = none → b ≠ e := fun b n z => by
    subst z
    rcases he with r | r
    · exact hx b n r
    · rw [n] at r; cases r
  have hm : ∀ b u, H b = some u → ¬ Mut (some u) → b ≠ x := fun b u q nm z => by subst z; rw [q] at mu; exact nm mu
  refine ⟨fun b u q n _ _ => k b u (hb b n) q, fun b u q n _ _ => ⟨u.slots, k b u (hb b n) q⟩, fun b u q n _ => by rw [upd_ne (hx b n)]; exact n, fun b u q _ => ?_,
    fun b xs q => by rw [upd_ne (hm b _ q fun z => z)]; exact q, fun b u xs q => by rw [upd_ne (hm b _ q fun z => z)]; exact q, fun b ps q => ⟨#[], by rw [upd_ne (hm b _ q fun z => z), q]; simp⟩⟩
  by_cases hbe : b = e
  · subst hbe; exact heo
  · exact ⟨u, k b u hbe q⟩
end
def trk (h : Heap) (H : Hp) : List Addr := (List.range h.objs.size).filter fun a => (H a).isSome
def hidT (h : Heap) (H : Hp) : Heap := PySem.W.hideAll h (trk h H)
theorem hidT_size (h : Heap) (H : Hp) : (hidT h H).objs.size = h.objs.size := PySem.W.hideAll_size _ _
theorem hidT_get {h : Heap} {H : Hp} {b : Addr} {o : Obj} (e : h.get? b = some o) (n : H b = none) : (hidT h H).get? b = some o :=
  PySem.W.hideAll_get _ e fun hm => by
    have q : (H b).isSome = true := (List.mem_filter.mp hm).2
    rw [n] at q; simp at q
theorem of_hidT {h : Heap} {H : Hp} {b : Addr} {o : Obj} (e : (hidT h H).get? b = some o) : h.get? b = some o ∧ H b = none := by
  have e' : h.get? b = some o := PySem.W.of_hideAll (trk h H) e
  refine ⟨e', ?_⟩
  cases q : H b with
  | none => rfl
  | some x =>
    have hm : b ∈ trk h H := List.mem_filter.mpr ⟨List.mem_range.mpr (Heap.lt_size e'), by simp [q]⟩
    have z : (hidT h H).get? b = none := PySem.W.hideAll_none (trk h H) hm
    rw [z] at e; cases e
end L2
namespace L2
open PySem PySem.Spec PyProof.Rows
structure Mod (K : PySem.W.Frag) (mg : Str → Option Value) (base : Heap) : Prop where
  kin : K.In base
  glob : base.Ns mainGlobals mg
  blt : ∃ mb, base.Ns builtinsNs mb ∧ ∀ x : Str, x ≠ "__name__" → mb x = bootBuiltins x
  nolimit : base.NoLimit
structure Cx where
  prog : Program
  w : World
  K : PySem.W.Frag
  mg : Str → Option Value
  base : Heap
  A : Around
  N : List Str
  s₀ : Shared
  H₀ : Hp
  env : Env
  outer : List Env
  stack : List Env
  ex : List Addr
  fn : Str → Bool
  calm : Bool
  pn : List (Addr × Obj)
  xe : Value → Shared → Prop
def frs (l : List Env) : List Addr := l.filterMap (·.frame)
abbrev Cx.fs (X : Cx) : List Addr := frs X.outer
def Vis (sc : Scope) (x : Str) : Prop := sc.names.lookup x = some .local ∨ sc.names.lookup x = some .cell ∨ sc.names.lookup x = some .free
def Loc (sc : Scope) (x : Str) : Prop := sc.names.lookup x = some .local ∨ sc.names.lookup x = some .cell
def Look (env : Env) (h : Heap) (m : Str → Option Value) (x : Str) (u : Value) : Prop :=
  (env.kindOf x = some .local ∧ m x = some u) ∨ ((env.kindOf x = some .cell ∨ env.kindOf x = some .free) ∧ ∃ c, env.cells.lookup x = some c ∧ h.IsCell c (some u))
structure Cx.Ok (X : Cx) : Prop where
  mod : Mod X.K X.mg X.base
  kind : X.env.scope.kind = .function
  glob : X.env.globals = mainGlobals
  blt : X.env.builtins = builtinsNs
  above : X.s₀.heap.objs.size ≤ X.env.locals
  inj : ∀ x y c, X.env.cells.lookup x = some c → X.env.cells.lookup y = some c → x = y
  has : ∀ x, (X.env.kindOf x = some .cell ∨ X.env.kindOf x = some .free) → ∃ c, X.env.cells.lookup x = some c
  cab : ∀ x c, X.fn x = true → X.env.cells.lookup x = some c → X.s₀.heap.objs.size ≤ c
  hd : X.calm = true → X.A.handled = none
  frames : X.A.frames = some X.stack
  stk : X.stack = X.outer ∨ (X.stack = X.env :: X.outer ∧ X.env.frame = some X.env.locals)
  exf : ∀ b ∈ X.ex, b ≠ X.env.locals ∧ ∀ x c, X.env.cells.lookup x = some c → c ≠ b
  bs : ∀ b o, X.base.get? b = some o → X.s₀.heap.get? b = some o ∧ X.H₀ b = none
  bsz : X.base.objs.size ≤ X.s₀.heap.objs.size
  noex : ∀ b o, X.base.get? b = some o → b ∉ X.ex
  exfs : ∀ b ∈ X.ex, b ∉ X.fs
  funs : X.s₀.heap.FunFrames X.base X.outer
  frf : ∀ b ∈ X.fs, X.H₀ b = none
structure Inv (X : Cx) (pins : List (Addr × Obj)) (σ : List (Option V)) (H : Hp) (s : Shared) : Prop where
  ok : X.Ok
  os : s.os = X.s₀.os
  bare : AllBare s.gens
  base : Un X.fs X.ex X.H₀ H X.s₀.heap s.heap
  loc : ∃ m, s.heap.Ns X.env.locals m ∧ ∀ (i : Nat) (x : Str) (v : V), X.N[i]? = some x → σ[i]? = some (some v) → Vis X.env.scope x → ∃ u, RelV v u ∧ Look X.env s.heap m x u
  cell : ∀ x c, X.env.cells.lookup x = some c → ∃ v, s.heap.IsCell c v
  free : H X.env.locals = none
  freeC : ∀ x c, X.env.cells.lookup x = some c → H c = none
  pin : ∀ p ∈ X.pn ++ pins, s.heap.get? p.1 = some p.2 ∧ H p.1 = none ∧ p.1 ≠ X.env.locals ∧ p.1 ∉ X.fs ∧ ∀ v, p.2.data ≠ .cell v
  hok : HOk X.prog X.w H s.heap
  len : σ.length = X.N.length
section
variable {X : Cx} {pins : List (Addr × Obj)} {σ : List (Option V)} {H H' : Hp} {s : Shared} {h' : Heap}
theorem Cx.Ok.nofr (ok : X.Ok) {b : Addr} {o : Obj} (e : X.base.get? b = some o) : b ∉ X.fs := fun hb => by
  have := (ok.funs.mem hb).1
  rw [e] at this; cases this
theorem Inv.bs (I : Inv X pins σ H s) : ∀ b o, X.base.get? b = some o → s.heap.get? b = some o ∧ H b = none := fun b o e =>
  ⟨I.base.keep b o (I.ok.bs b o e).1 (I.ok.bs b o e).2 (I.ok.nofr e) (I.ok.noex b o e), I.base.free b o (I.ok.bs b o e).1 (I.ok.bs b o e).2 (I.ok.noex b o e)⟩
theorem Inv.bk (I : Inv X pins σ H s) : ∀ b o, X.base.get? b = some o → s.heap.get? b = some o := fun b o e => (I.bs b o e).1
theorem Inv.mod (I : Inv X pins σ H s) : Mod X.K X.mg X.base := I.ok.mod
theorem Inv.kIn (I : Inv X pins σ H s) : X.K.In s.heap := I.ok.mod.kin.keeps I.bk
theorem Inv.lt (I : Inv X pins σ H s) : X.env.locals < s.heap.objs.size := let ⟨_, hn, _⟩ := I.loc; hn.lt
theorem Inv.sz (I : Inv X pins σ H s) : X.s₀.heap.objs.size ≤ s.heap.objs.size := Nat.le_trans I.ok.above (Nat.le_of_lt I.lt)
theorem Inv.nofs (I : Inv X pins σ H s) {a : Addr} (h : s.heap.objs.size ≤ a) : a ∉ X.fs := fun hb => by
  obtain ⟨_, o, ho, _⟩ := I.ok.funs.mem hb
  exact absurd (Nat.lt_of_lt_of_le (Heap.lt_size ho) (Nat.le_trans I.sz h)) (Nat.lt_irrefl _)
theorem Inv.cne (I : Inv X pins σ H s) : ∀ x c, X.env.cells.lookup x = some c → c ≠ X.env.locals := fun x c e z => by
  obtain ⟨v, o, ho, hd⟩ := I.cell x c e
  obtain ⟨m, ⟨o', es, ep, ho', hd', _⟩, _⟩ := I.loc
  rw [z, ho'] at ho; cases ho; rw [hd'] at hd; cases hd
theorem Inv.funs (I : Inv X pins σ H s) : s.heap.FunFrames X.base X.outer := by
  have all : ∀ (l : List Env), (∀ b ∈ frs l, b ∈ X.fs) → X.s₀.heap.FunFrames X.base l → s.heap.FunFrames X.base l := by
    intro l
    induction l with
    | nil => intro _ _; trivial
    | cons env r ih =>
      intro hs hl
      obtain ⟨hk, ⟨L, o, hf, hn, ho, hd⟩, hr⟩ := hl
      have hL : L ∈ X.fs := hs L (by unfold frs; rw [List.filterMap_cons, hf]; exact List.mem_cons_self)
      obtain ⟨sl, e⟩ := I.base.slot L o ho (I.ok.frf L hL) hL fun z => I.ok.exfs L z hL
      exact ⟨hk, ⟨L, _, hf, hn, e, hd⟩, ih (fun b hb => hs b (by unfold frs; rw [List.filterMap_cons, hf]; exact List.mem_cons_of_mem _ hb)) hr⟩
  exact all X.outer (fun _ hb => hb) I.ok.funs
theorem Inv.stack (I : Inv X pins σ H s) : s.heap.FunFrames X.base X.stack := by
  rcases I.ok.stk with e | ⟨e, hf⟩
  · rw [e]; exact I.funs
  · rw [e]
    obtain ⟨m, hn, _⟩ := I.loc
    refine .cons (by rw [I.ok.kind]; decide) hf hn ?_ I.funs
    exact Heap.get?_none_of_le (Nat.le_trans I.ok.bsz I.ok.above)
theorem Inv.stkSub (I : Inv X pins σ H s) : ∀ b ∈ frs X.stack, b ∈ X.env.locals :: X.fs := fun b hb => by
  rcases I.ok.stk with e | ⟨e, hf⟩
  · rw [e] at hb; exact List.mem_cons_of_mem _ hb
  · rw [e] at hb
    unfold frs at hb
    rw [List.filterMap_cons, hf] at hb
    exact hb
theorem Inv.stkFree (I : Inv X pins σ H s) : ∀ b ∈ frs X.stack, H b = none := fun b hb => by
  rcases List.mem_cons.mp (I.stkSub b hb) with e | hb
  · rw [e]; exact I.free
  · obtain ⟨_, o, ho, _⟩ := I.ok.funs.mem hb
    exact I.base.free b o ho (I.ok.frf b hb) fun z => I.ok.exfs b z hb
theorem Inv.step {g' : Array GenState} {t' : Nat} {d' : Drawn} {ch : List Addr} (I : Inv X pins σ H s)
    (hch : ∀ b ∈ ch, (b ∈ X.ex ∨ X.s₀.heap.objs.size ≤ b) ∧ b ≠ X.env.locals ∧ (∀ x c, X.env.cells.lookup x = some c → c ≠ b) ∧ ∀ p ∈ X.pn ++ pins, p.1 ≠ b)
    (keep : ∀ b o, b ≠ X.env.locals → b ∉ X.fs → b ∉ ch → s.heap.get? b = some o → H b = none → h'.get? b = some o)
    (slot : ∀ b o, b ≠ X.env.locals → b ∈ X.fs → b ∉ ch → s.heap.get? b = some o → H b = none → ∃ sl, h'.get? b = some { o with slots := sl }) (free : ∀ b o, b ∉ ch → s.heap.get? b = some o → H b = none → H' b = none)
    (there : ∀ b o, b ∉ ch → s.heap.get? b = some o → ∃ o', h'.get? b = some o')
    (tups : ∀ b xs, H b = some (.tup xs) → H' b = some (.tup xs)) (frzs : ∀ b o u, H b = some (.frz o u) → H' b = some (.frz o u)) (tbls : ∀ b ps, H b = some (.tbl ps) → ∃ more, H' b = some (.tbl (ps ++ more)))
    (ns : ∀ m, s.heap.Ns X.env.locals m → h'.Ns X.env.locals m) (hok : HOk X.prog X.w H' h') (hg : AllBare g') :
    Inv X pins σ H' { s with heap := h', gens := g', drawn := d', toks := t' } := by
  have neL : ∀ b o, X.s₀.heap.get? b = some o → b ≠ X.env.locals := fun b o e => Nat.ne_of_lt (Nat.lt_of_lt_of_le (Heap.lt_size e) I.ok.above)
  have neC : ∀ b o, X.s₀.heap.get? b = some o → b ∉ X.ex → b ∉ ch := fun b o e hx hb => by
    rcases (hch b hb).1 with z | z
    · exact hx z
    · exact absurd (Nat.lt_of_lt_of_le (Heap.lt_size e) z) (Nat.lt_irrefl _)
  have cellK : ∀ x c, X.env.cells.lookup x = some c → ∀ v, s.heap.IsCell c v → h'.IsCell c v := fun x c e v ⟨o, ho, hd⟩ => by
    have nch : c ∉ ch := fun z => (hch c z).2.2.1 x c e rfl
    by_cases hc : c ∈ X.fs
    · obtain ⟨sl, q⟩ := slot c o (I.cne x c e) hc nch ho (I.freeC x c e)
      exact ⟨_, q, hd⟩
    · exact ⟨o, keep c o (I.cne x c e) hc nch ho (I.freeC x c e), hd⟩
  refine ⟨I.ok, I.os, hg, ⟨fun b o e n hb hx => ?_, fun b o e n hb hx => ?_, fun b o e n hx => ?_, fun b o e hx => ?_, fun b xs e => tups b xs (I.base.tups b xs e), fun b o xs e => frzs b o xs (I.base.frzs b o xs e), fun b ps e => ?_⟩, ?_, fun x c e => ?_, ?_, fun x c e => ?_, fun p hp => ?_, hok, I.len⟩
  · exact keep b o (neL b o e) hb (neC b o e hx) (I.base.keep b o e n hb hx) (I.base.free b o e n hx)
  · obtain ⟨sl, e1⟩ := I.base.slot b o e n hb hx
    obtain ⟨sl', e2⟩ := slot b _ (neL b o e) hb (neC b o e hx) e1 (I.base.free b o e n hx)
    exact ⟨sl', e2⟩
  · obtain ⟨o', e1⟩ := I.base.there b o e hx
    exact free b o' (neC b o e hx) e1 (I.base.free b o e n hx)
  · obtain ⟨o', e1⟩ := I.base.there b o e hx
    exact there b o' (neC b o e hx) e1
  · obtain ⟨m1, e1⟩ := I.base.tbls b ps e
    obtain ⟨m2, e2⟩ := tbls b _ e1
    exact ⟨m1 ++ m2, by rw [e2, Array.append_assoc]⟩
  · obtain ⟨m, hn, hl⟩ := I.loc
    refine ⟨m, ns m hn, fun i x v e1 e2 e3 => ?_⟩
    obtain ⟨u, r, l⟩ := hl i x v e1 e2 e3
    refine ⟨u, r, ?_⟩
    rcases l with l | ⟨k, c, e, z⟩
    · exact .inl l
    · exact .inr ⟨k, c, e, cellK x c e _ z⟩
  · obtain ⟨v, z⟩ := I.cell x c e
    exact ⟨v, cellK x c e v z⟩
  · obtain ⟨m, ⟨o, _, _, ho, _⟩, _⟩ := I.loc
    exact free _ o (fun z => (hch _ z).2.1 rfl) ho I.free
  · obtain ⟨v, o, ho, hd⟩ := I.cell x c e
    exact free c o (fun z => (hch c z).2.2.1 x c e rfl) ho (I.freeC x c e)
  · obtain ⟨e, n, ne, nf, d⟩ := I.pin p hp
    have nch : p.1 ∉ ch := fun z => (hch p.1 z).2.2.2 p hp rfl
    exact ⟨keep p.1 p.2 ne nf nch e n, free p.1 p.2 nch e n, ne, nf, d⟩
theorem Inv.un {t' : Nat} (I : Inv X pins σ H s) (u : Un X.fs [] H H' s.heap h') (hok : HOk X.prog X.w H' h') : Inv X pins σ H' { s with heap := h', toks := t' } := by
  obtain ⟨m, ⟨o, es, ep, ho, r⟩, _⟩ := id I.loc
  obtain ⟨sl, hL⟩ := u.any ho I.free (by simp)
  exact I.step (g' := s.gens) (d' := s.drawn) (ch := []) (fun _ z => nomatch z) (fun b o _ hb _ e n => u.keep b o e n hb (by simp)) (fun b o _ hb _ e n => u.slot b o e n hb (by simp)) (fun b o _ e n => u.free b o e n (by simp)) (fun b o _ e => u.there b o e (by simp)) u.tups u.frzs u.tbls (fun m' hm => by
    obtain ⟨o', es', ep', ho', r'⟩ := hm
    rw [ho] at ho'; cases ho'
    exact ⟨_, es', ep', hL, r'⟩) hok I.bare
theorem Inv.call {g' : Array GenState} {t' : Nat} {d' : Drawn} {ch : List Addr} (I : Inv X pins σ H s) (u : Un (frs X.stack) ch H H' s.heap h') (hok : HOk X.prog X.w H' h') (hg : AllBare g')
    (hch : ∀ b ∈ ch, (b ∈ X.ex ∨ X.s₀.heap.objs.size ≤ b) ∧ b ≠ X.env.locals ∧ (∀ x c, X.env.cells.lookup x = some c → c ≠ b) ∧ ∀ p ∈ X.pn ++ pins, p.1 ≠ b) :
    Inv X pins σ H' { s with heap := h', gens := g', drawn := d', toks := t' } := by
  obtain ⟨m, ⟨o, es, ep, ho, r⟩, _⟩ := id I.loc
  obtain ⟨sl, hL⟩ := u.any ho I.free fun z => (hch _ z).2.1 rfl
  exact I.step (ch := ch) hch (fun b o hL hb hc e n => u.keep b o e n (fun z => (List.mem_cons.mp (I.stkSub b z)).elim hL hb) hc) (fun b o _ _ hc e n => u.any e n hc) (fun b o hc e n => u.free b o e n hc) (fun b o hc e => u.there b o e hc) u.tups u.frzs u.tbls (fun m' hm => by
    obtain ⟨o', es', ep', ho', r'⟩ := hm
    rw [ho] at ho'; cases ho'
    exact ⟨_, es', ep', hL, r'⟩) hok hg
theorem Inv.turned {t' : Nat} {it : Addr} (I : Inv X pins σ H s) (k : ∀ b o, b ≠ it → s.heap.get? b = some o → h'.get? b = some o) (hn : H it = none) (hL : it ≠ X.env.locals)
    (h1 : it ∈ X.ex ∨ X.s₀.heap.objs.size ≤ it) (h2 : ∀ x c, X.env.cells.lookup x = some c → c ≠ it) (h3 : ∀ p ∈ X.pn ++ pins, p.1 ≠ it) : Inv X pins σ H { s with heap := h', toks := t' } := by
  have nit : ∀ b u, H b = some u → b ≠ it := fun b u e z => by rw [z, hn] at e; cases e
  refine I.step (g' := s.gens) (d' := s.drawn) (ch := [it]) (fun b hb => ?_) (fun b o _ _ hc e _ => k b o (fun z => hc (by simp [z])) e) (fun b o _ _ hc e _ => ⟨o.slots, k b o (fun z => hc (by simp [z])) e⟩) (fun _ _ _ _ n => n)
    (fun b o hc e => ⟨o, k b o (fun z => hc (by simp [z])) e⟩) (fun _ _ e => e) (fun _ _ _ e => e) (fun b ps e => ⟨#[], by rw [e]; simp⟩) (fun m hm => ?_) (fun b u e => ?_) I.bare
  · have e : b = it := by simpa using hb
    subst e
    exact ⟨h1, hL, h2, h3⟩
  · obtain ⟨o, es, ep, ho, r⟩ := hm
    exact ⟨o, es, ep, k _ o (Ne.symm hL) ho, r⟩
  · refine (I.hok b u e).stay (fun c v hc q => k c v ?_ q) (fun _ q => q) fun _ _ q => q
    rcases hc with z | z
    · rw [z]; exact nit b u e
    · exact nit c _ z
theorem Inv.tok (I : Inv X pins σ H s) (t : Nat) : Inv X pins σ H { s with toks := t } := I.un (h' := s.heap) (t' := t) Un.refl I.hok
theorem Inv.kept {t' : Nat} (I : Inv X pins σ H s) (k : ∀ b u, s.heap.get? b = some u → h'.get? b = some u) : Inv X pins σ H { s with heap := h', toks := t' } := I.un (Un.kept k) (I.hok.kept k)
theorem Inv.laid {a : Addr} {o : HO} {t' : Nat} (I : Inv X pins σ H s) (k : ∀ b u, s.heap.get? b = some u → h'.get? b = some u) (hp : s.heap.objs.size ≤ a) (new : ObjOk X.prog X.w (upd H a o) h' a o) :
    Inv X pins σ (upd H a o) { s with heap := h', toks := t' } := I.un (Un.laid k hp (I.hok.fresh hp)) (I.hok.laid k hp new)
theorem Inv.write {x e : Addr} {o : HO} {t' : Nat} (I : Inv X pins σ H s) (mu : Mut (H x)) (he : e = x ∨ H e = some (.own x)) (k : ∀ b u, b ≠ e → s.heap.get? b = some u → h'.get? b = some u) (heo : ∃ u, h'.get? e = some u)
    (new : ObjOk X.prog X.w (upd H x o) h' x o) : Inv X pins σ (upd H x o) { s with heap := h', toks := t' } := I.un (Un.write mu he k heo) (I.hok.write mu he k heo new)
theorem Inv.pins_of {pins' : List (Addr × Obj)} (I : Inv X pins σ H s) (h : ∀ p ∈ pins', s.heap.get? p.1 = some p.2 ∧ H p.1 = none ∧ p.1 ≠ X.env.locals ∧ p.1 ∉ X.fs ∧ ∀ v, p.2.data ≠ .cell v) : Inv X pins' σ H s :=
  ⟨I.ok, I.os, I.bare, I.base, I.loc, I.cell, I.free, I.freeC, fun p hp => (List.mem_append.mp hp).elim (fun z => I.pin p (List.mem_append_left _ z)) (h p), I.hok, I.len⟩
theorem nodup_ix {N : List Str} (hN : N.Nodup) {i j : Nat} {x : Str} (a : N[i]? = some x) (b : N[j]? = some x) : i = j := by
  obtain ⟨h1, e1⟩ := List.getElem?_eq_some_iff.mp a
  obtain ⟨h2, e2⟩ := List.getElem?_eq_some_iff.mp b
  exact (List.getElem_inj hN).mp (e1.trans e2.symm)
theorem store_ok2 {M : Model} {A : Around} {E : Value → Shared → Prop} {i : Nat} {x : Str} {v : V} {u : Value} {Q : Unit → Shared → Prop} (I : Inv X pins σ H s) (hN : X.N.Nodup) (hi : X.N[i]? = some x) (hx : Loc X.env.scope x) (r : RelV v u)
    (h : ∀ s', Inv X pins (σ.set i (some v)) H s' → (∃ a, Heap.SameBut a s.heap s'.heap ∧ (a = X.env.locals ∨ X.env.cells.lookup x = some a)) → Q () s') (hf : X.fn x = true ∨ X.env.scope.names.lookup x = some .local := by first | exact .inl rfl | exact .inr rfl | assumption) : wpAny M A (storeName X.env x u) Q E s := by
  obtain ⟨m, hn, hl⟩ := id I.loc
  have hcls : (X.env.scope.kind == .class || (X.env.scope.kind == .module && X.env.locals != X.env.globals)) = false := by rw [I.ok.kind]; rfl
  have hiσ : i < σ.length := by rw [I.len]; exact (List.getElem?_eq_some_iff.mp hi).1
  have cne := I.cne
  have tracked : ∀ {a : Addr} {h' : Heap}, (∃ o, s.heap.get? a = some o ∧ H a = none) → Heap.SameBut a s.heap h' → HOk X.prog X.w H h' := fun {a h'} ha hs b ob e => by
    obtain ⟨_, _, hfree⟩ := ha
    refine (I.hok b ob e).stay (fun c w' hc q => (hs.2 c ?_).trans q) (fun _ q => q) fun _ _ q => q
    rintro rfl
    rcases hc with rfl | hc
    · rw [hfree] at e; cases e
    · rw [hfree] at hc; cases hc
  rcases hx with hk | hk
  · refine wpAny_storeName_local hk hn (fun h' hn' hs => ?_) hcls
    obtain ⟨oL, _, _, hoL, _⟩ := id hn
    refine h _ ⟨I.ok, I.os, I.bare, ⟨fun b o e n hb hx => ?_, fun b o e n hb hx => ?_, I.base.free, fun b o e hx => ?_, I.base.tups, I.base.frzs, I.base.tbls⟩, ⟨_, hn', fun j y v' e1 e2 e3 => ?_⟩, fun y c e => ?_, I.free, I.freeC, fun p hp => ?_, tracked ⟨oL, hoL, I.free⟩ hs, by simpa using I.len⟩ ⟨_, hs, .inl rfl⟩
    · exact (hs.2 b (Nat.ne_of_lt (Nat.lt_of_lt_of_le (Heap.lt_size e) I.ok.above))).trans (I.base.keep b o e n hb hx)
    · obtain ⟨sl, e1⟩ := I.base.slot b o e n hb hx
      exact ⟨sl, (hs.2 b (Nat.ne_of_lt (Nat.lt_of_lt_of_le (Heap.lt_size e) I.ok.above))).trans e1⟩
    · obtain ⟨o', e1⟩ := I.base.there b o e hx
      exact ⟨o', (hs.2 b (Nat.ne_of_lt (Nat.lt_of_lt_of_le (Heap.lt_size e) I.ok.above))).trans e1⟩
    · by_cases hj : j = i
      · subst hj
        rw [hi] at e1; cases e1
        rw [List.getElem?_set_self hiσ] at e2
        cases e2
        exact ⟨u, r, .inl ⟨hk, by simp⟩⟩
      · rw [List.getElem?_set_ne (Ne.symm hj)] at e2
        obtain ⟨u', r', q⟩ := hl j y v' e1 e2 e3
        refine ⟨u', r', ?_⟩
        rcases q with ⟨k, e⟩ | ⟨k, c, e, z⟩
        · refine .inl ⟨k, ?_⟩
          have : y ≠ x := fun e => hj (nodup_ix hN e1 (e ▸ hi))
          simp [this, e]
        · exact .inr ⟨k, c, e, z.sameBut hs (cne y c e)⟩
    · obtain ⟨w', z⟩ := I.cell y c e
      exact ⟨w', z.sameBut hs (cne y c e)⟩
    · obtain ⟨e, n, ne, nf, d⟩ := I.pin p hp
      exact ⟨(hs.2 p.1 ne).trans e, n, ne, nf, d⟩
  · have hfn : X.fn x = true := by
      rcases hf with z | z
      · exact z
      · rw [z] at hk; cases hk
    obtain ⟨c, hc⟩ := I.ok.has x (.inl hk)
    obtain ⟨w', z⟩ := I.cell x c hc
    refine wpAny_storeName_cell I.ok.kind hk hc z (fun h' hc' hs => ?_)
    obtain ⟨oc, hoc, hocd⟩ := id z
    refine h { s with heap := h' } ⟨I.ok, I.os, I.bare, ⟨fun b o e n hb hx => ?_, fun b o e n hb hx => ?_, I.base.free, fun b o e hx => ?_, I.base.tups, I.base.frzs, I.base.tbls⟩, ⟨m, hn.sameBut hs (Ne.symm (cne x c hc)), fun j y v' e1 e2 e3 => ?_⟩, fun y c' e => ?_, I.free, I.freeC, fun p hp => ?_, tracked ⟨oc, hoc, I.freeC x c hc⟩ hs, by simpa using I.len⟩ ⟨c, hs, .inr hc⟩
    · exact (hs.2 b (Nat.ne_of_lt (Nat.lt_of_lt_of_le (Heap.lt_size e) (I.ok.cab x c hfn hc)))).trans (I.base.keep b o e n hb hx)
    · obtain ⟨sl, e1⟩ := I.base.slot b o e n hb hx
      exact ⟨sl, (hs.2 b (Nat.ne_of_lt (Nat.lt_of_lt_of_le (Heap.lt_size e) (I.ok.cab x c hfn hc)))).trans e1⟩
    · obtain ⟨o', e1⟩ := I.base.there b o e hx
      exact ⟨o', (hs.2 b (Nat.ne_of_lt (Nat.lt_of_lt_of_le (Heap.lt_size e) (I.ok.cab x c hfn hc)))).trans e1⟩
    · by_cases hj : j = i
      · subst hj
        rw [hi] at e1; cases e1
        rw [List.getElem?_set_self hiσ] at e2
        cases e2
        exact ⟨u, r, .inr ⟨.inl hk, c, hc, hc'⟩⟩
      · rw [List.getElem?_set_ne (Ne.symm hj)] at e2
        obtain ⟨u', r', q⟩ := hl j y v' e1 e2 e3
        refine ⟨u', r', ?_⟩
        rcases q with q | ⟨k, c', e, z'⟩
        · exact .inl q
        · refine .inr ⟨k, c', e, z'.sameBut hs ?_⟩
          rintro rfl
          exact hj (nodup_ix hN e1 (I.ok.inj _ _ _ e hc ▸ hi))
    · by_cases hcc : c' = c
      · subst hcc; exact ⟨_, hc'⟩
      · obtain ⟨w2, z2⟩ := I.cell y c' e
        exact ⟨w2, z2.sameBut hs hcc⟩
    · obtain ⟨e, n, ne, nf, d⟩ := I.pin p hp
      refine ⟨(hs.2 p.1 ?_).trans e, n, ne, nf, d⟩
      intro q
      rw [q, hoc] at e
      have q' : oc = p.2 := Option.some.inj e
      exact d w' (by rw [← q']; exact hocd)
theorem store_ok {M : Model} {A : Around} {E : Value → Shared → Prop} {i : Nat} {x : Str} {v : V} {u : Value} {Q : Unit → Shared → Prop} (I : Inv X pins σ H s) (hN : X.N.Nodup) (hi : X.N[i]? = some x) (hx : Loc X.env.scope x) (r : RelV v u)
    (h : ∀ s', Inv X pins (σ.set i (some v)) H s' → Q () s') (hf : X.fn x = true ∨ X.env.scope.names.lookup x = some .local := by first | exact .inl rfl | exact .inr rfl | assumption) : wpAny M A (storeName X.env x u) Q E s :=
  store_ok2 I hN hi hx r (fun s' I' _ => h s' I') hf
theorem Inv.call' {s' : Shared} {ch : List Addr} (I : Inv X pins σ H s) (ho : s'.os = s.os) (u : Un (frs X.stack) ch H H' s.heap s'.heap) (hok : HOk X.prog X.w H' s'.heap) (hg : AllBare s'.gens)
    (hch : ∀ b ∈ ch, (b ∈ X.ex ∨ X.s₀.heap.objs.size ≤ b) ∧ b ≠ X.env.locals ∧ (∀ x c, X.env.cells.lookup x = some c → c ≠ b) ∧ ∀ p ∈ X.pn ++ pins, p.1 ≠ b) : Inv X pins σ H' s' := by
  obtain ⟨h', g', d', t', o'⟩ := s'
  have e : o' = s.os := ho
  subst e
  exact I.call (g' := g') (t' := t') (d' := d') u hok hg hch
end
abbrev XK := Value → Option Addr → Hp → Prop
abbrev St := List (Option V)
abbrev VK := V → Hp → Prop
abbrev TE := St → Hp → VK → Prop
abbrev TT := St → Hp → (Bool → Hp → Prop) → Prop
abbrev TA := St → Hp → (List V → Hp → Prop) → Prop
structure Ends where
  nx : St → Hp → Prop
  rt : VK
  bk : St → Hp → Prop := fun _ _ => False
  ct : St → Hp → Prop := fun _ _ => False
abbrev TS := Ends → St → Hp → Prop
def EP (X : Cx) (pins : List (Addr × Obj)) (σ : St) (Q : VK) (u : Value) (s' : Shared) : Prop := ∃ v H', Inv X pins σ H' s' ∧ RelV v u ∧ Q v H'
def TP (X : Cx) (pins : List (Addr × Obj)) (σ : St) (Q : Bool → Hp → Prop) (b : Bool) (s' : Shared) : Prop := ∃ H', Inv X pins σ H' s' ∧ Q b H'
def AP (X : Cx) (pins : List (Addr × Obj)) (σ : St) (Q : List V → Hp → Prop) (us : List Value) (s' : Shared) : Prop := ∃ vs H', Inv X pins σ H' s' ∧ Vals vs us ∧ Q vs H'
def SP (X : Cx) (pins : List (Addr × Obj)) (D : Ends) (f : Flow) (s' : Shared) : Prop :=
  match f with
  | .next => ∃ σ' H', Inv X pins σ' H' s' ∧ D.nx σ' H'
  | .brk => ∃ σ' H', Inv X pins σ' H' s' ∧ D.bk σ' H'
  | .cont => ∃ σ' H', Inv X pins σ' H' s' ∧ D.ct σ' H'
  | .ret u => ∃ v σ' H', Inv X pins σ' H' s' ∧ RelV v u ∧ D.rt v H'
def PE (X : Cx) (e : Expr) (t : TE) : Prop :=
  ∀ (pins : List (Addr × Obj)) (s : Shared) (σ : St) (H : Hp) (Q : VK), Inv X pins σ H s → t σ H Q → wpAny (model X.prog X.w) X.A (eval e X.env) (EP X pins σ Q) X.xe s
def PT (X : Cx) (e : Expr) (t : TT) : Prop :=
  ∀ (pins : List (Addr × Obj)) (s : Shared) (σ : St) (H : Hp) (Q : Bool → Hp → Prop), Inv X pins σ H s → t σ H Q → wpAny (model X.prog X.w) X.A (isTrue e X.env (eval e X.env)) (TP X pins σ Q) X.xe s
def PW (X : Cx) (e : Expr) (t : TT) : Prop :=
  ∀ (whole : Sem Value) (pins : List (Addr × Obj)) (s : Shared) (σ : St) (H : Hp) (Q : Bool → Hp → Prop), Inv X pins σ H s → t σ H Q → wpAny (model X.prog X.w) X.A (isTrue e X.env whole) (TP X pins σ Q) X.xe s
theorem PW.pt {X : Cx} {e : Expr} {t : TT} (h : PW X e t) : PT X e t := h _
def PA (X : Cx) (es : List Expr) (t : TA) : Prop :=
  ∀ (pos : Pos) (pins : List (Addr × Obj)) (s : Shared) (σ : St) (H : Hp) (Q : List V → Hp → Prop), Inv X pins σ H s → t σ H Q → wpAny (model X.prog X.w) X.A (spliced (backTo pos (starEach es X.env))) (AP X pins σ Q) X.xe s
def PS (X : Cx) (st : Stmt) (t : TS) : Prop :=
  ∀ (pins : List (Addr × Obj)) (s : Shared) (σ : St) (H : Hp) (D : Ends), Inv X pins σ H s → t D σ H → wpAny (model X.prog X.w) X.A (exec st X.env) (SP X pins D) X.xe s
def PSs (X : Cx) (st : List Stmt) (t : TS) : Prop :=
  ∀ (pins : List (Addr × Obj)) (s : Shared) (σ : St) (H : Hp) (D : Ends), Inv X pins σ H s → t D σ H → wpAny (model X.prog X.w) X.A (execs st X.env) (SP X pins D) X.xe s
theorem thn {α : Type} {t : Sem α} {Q Q' : α → Shared → Prop} {M : Model} {A : Around} {E : Value → Shared → Prop} {s : Shared} (h : wpAny M A t Q E s) (hQ : ∀ a s, Q a s → Q' a s) : wpAny M A t Q' E s := wpAny_mono h hQ fun _ _ x => x
end L2
namespace L2
open PySem PySem.Spec PyProof.Rows
section
variable {X : Cx}
def tVar (i : Nat) : TE := fun σ H Q => ∃ v, σ[i]? = some (some v) ∧ Q v H
def tC (v : V) : TE := fun _ H Q => Q v H
theorem pe_var {i : Nat} {x : Str} {pos : Pos} (hN : X.N[i]? = some x) (hv : Vis X.env.scope x) (hd : (x == ("__debug__" : Str)) = false := by decide) (hcd : (x == ("__classdict__" : Str)) = false := by decide) : PE X (.Name x pos) (tVar i) := by
  intro pins s σ H Q I h
  obtain ⟨v, e, h⟩ := h
  obtain ⟨m, hn, hl⟩ := I.loc
  obtain ⟨u, r, l⟩ := hl i x v hN e hv
  have fin : EP X pins σ Q u s := ⟨v, H, I, r, h⟩
  rcases l with ⟨hk, hm⟩ | ⟨hk, c, hc, hcell⟩
  · exact wpAny_Name (wpAny_loadName_local I.ok.kind hk hn hm fin) hd
  · rcases hk with hk | hk
    · exact wpAny_Name (wpAny_loadName_cell I.ok.kind hk hc hcell fin) hd
    · exact wpAny_Name (wpAny_loadName_free I.ok.kind hk hc hcell fin hcd) hd
theorem pe_int {i j pos} : PE X (.Constant (.int i) j pos) (tC (.int i)) := fun _ _ _ H _ I h => wpAny_Constant_int ⟨.int i, H, I.tok _, ⟨_, rfl⟩, h⟩
theorem pe_bl {b j pos} : PE X (.Constant (.bool b) j pos) (tC (.bl b)) := fun _ _ _ H _ I h => Constant_bool ⟨.bl b, H, I, rfl, h⟩
theorem pe_non {j pos} : PE X (.Constant .none j pos) (tC .non) := fun _ _ _ H _ I h => Constant_none ⟨.non, H, I, rfl, h⟩
theorem pe_str {x j pos} : PE X (.Constant (.str x) j pos) (tC (.str x)) := fun _ _ _ H _ I h => Calls.Constant_str ⟨.str x, H, I.tok _, ⟨_, rfl⟩, h⟩
def Gl (X : Cx) (x : Str) : Prop := X.env.kindOf x = some .globalImplicit
theorem ld_glob {E : Value → Shared → Prop} {pins : List (Addr × Obj)} {s : Shared} {σ : St} {H : Hp} {x : Str} {u : Value} {pos : Pos} {Q : Value → Shared → Prop} (I : Inv X pins σ H s) (hg : Gl X x) (hm : X.mg x = some u) (h : Q u s)
    (hd : (x == ("__debug__" : Str)) = false := by decide) : wpAny (model X.prog X.w) X.A (eval (.Name x pos) X.env) Q E s :=
  Calls.Name_function_global I.ok.kind hg (Calls.loadGlobal_global (by rw [I.ok.glob]; exact I.mod.glob.keeps I.bk) hm h) hd
theorem ld_blt {E : Value → Shared → Prop} {pins : List (Addr × Obj)} {s : Shared} {σ : St} {H : Hp} {x : Str} {u : Value} {pos : Pos} {Q : Value → Shared → Prop} (I : Inv X pins σ H s) (hg : Gl X x) (hm : X.mg x = none) (hv : bootBuiltins x = some u) (h : Q u s)
    (hn : x ≠ "__name__" := by decide) (hd : (x == ("__debug__" : Str)) = false := by decide) : wpAny (model X.prog X.w) X.A (eval (.Name x pos) X.env) Q E s := by
  obtain ⟨mb, h1, h2⟩ := I.mod.blt
  exact Calls.Name_function_global I.ok.kind hg (Calls.loadGlobal_builtin (by rw [I.ok.glob]; exact I.mod.glob.keeps I.bk) hm (by rw [I.ok.blt]; exact h1.keeps I.bk) ((h2 x hn).trans hv) h) hd
theorem pe_glob {x : Str} {v : V} {u : Value} {pos : Pos} (hg : Gl X x) (hm : X.mg x = some u) (r : RelV v u) (hd : (x == ("__debug__" : Str)) = false := by decide) : PE X (.Name x pos) (tC v) :=
  fun _ _ _ H _ I h => ld_glob I hg hm ⟨v, H, I, r, h⟩ hd
theorem pe_bltn {x : Str} {v : V} {u : Value} {pos : Pos} (hg : Gl X x) (hm : X.mg x = none) (hv : bootBuiltins x = some u) (r : RelV v u) (hn : x ≠ "__name__" := by decide) (hd : (x == ("__debug__" : Str)) = false := by decide) : PE X (.Name x pos) (tC v) :=
  fun _ _ _ H _ I h => ld_blt I hg hm hv ⟨v, H, I, r, h⟩ hn hd
variable {a b : Expr} {ta tb : TE} {pos : Pos}
def tB (t : TE) : TT := fun σ H Q => t σ H fun x H1 => ∃ c, x = .bl c ∧ Q c H1
theorem pt_val {e : Expr} {t : TE} (h : PE X e t) (he : ∀ whole, isTrue e X.env whole = (do let v ← whole; standAt e.pos; holding [v] (truthy v)) := by intro _; rfl) : PT X e (tB t) := by
  intro pins s σ H Q I hw
  refine isTrue_plain (thn (h pins s σ H _ I hw) fun v s1 ⟨x, H1, I1, r1, q1⟩ => ?_) (he _)
  obtain ⟨d, rfl, q⟩ := q1
  cases r1
  exact wpAny_truthy_bool ⟨H1, I1, q⟩
variable {tA tB' : TT} {rest : List Expr}
def tAnd (t u : TT) : TT := fun σ H Q => t σ H fun c H1 => if c = true then u σ H1 Q else Q false H1
def tOr (t u : TT) : TT := fun σ H Q => t σ H fun c H1 => if c = true then Q true H1 else u σ H1 Q
def tNot (t : TT) : TT := fun σ H Q => t σ H fun c H1 => Q (!c) H1
theorem pw_and1 (ha : PT X a tA) : PW X (.BoolOp .And [a] pos) tA := by
  intro wh pins s σ H Q I h
  refine isTrue_and (thn (ha pins s σ H Q I h) fun c s1 e => ?_)
  cases c with
  | true => exact isTrue_and_nil e
  | false => exact e
theorem pw_or1 (ha : PT X a tA) : PW X (.BoolOp .Or [a] pos) tA := by
  intro wh pins s σ H Q I h
  refine isTrue_or (thn (ha pins s σ H Q I h) fun c s1 e => ?_)
  cases c with
  | false => exact isTrue_or_nil e
  | true => exact e
theorem pw_and (ha : PT X a tA) (hb : PW X (.BoolOp .And (b :: rest) pos) tB') : PW X (.BoolOp .And (a :: b :: rest) pos) (tAnd tA tB') := by
  intro wh pins s σ H Q I h
  refine isTrue_and (thn (ha pins s σ H _ I h) fun c s1 ⟨H1, I1, q1⟩ => ?_)
  cases c with
  | true => exact hb wh pins s1 σ H1 Q I1 q1
  | false => exact ⟨H1, I1, q1⟩
theorem pw_or (ha : PT X a tA) (hb : PW X (.BoolOp .Or (b :: rest) pos) tB') : PW X (.BoolOp .Or (a :: b :: rest) pos) (tOr tA tB') := by
  intro wh pins s σ H Q I h
  refine isTrue_or (thn (ha pins s σ H _ I h) fun c s1 ⟨H1, I1, q1⟩ => ?_)
  cases c with
  | true => exact ⟨H1, I1, q1⟩
  | false => exact hb wh pins s1 σ H1 Q I1 q1
theorem pt_not (ha : PT X a tA) : PT X (.UnaryOp .Not a pos) (tNot tA) := by
  intro pins s σ H Q I h
  exact isTrue_not (ha pins s σ H (fun c H1 => Q (!c) H1) I h)
def tAndV (ta tb : TE) : TE := fun σ H Q => ta σ H fun x H1 => ∃ c, x = .bl c ∧ if c = true then tb σ H1 Q else Q (.bl false) H1
def tNotV (ta : TE) : TE := fun σ H Q => ta σ H fun x H1 => ∃ c, x = .bl c ∧ Q (.bl (!c)) H1
theorem pe_one {op} {t : TE} (h : PE X a t) : PE X (.BoolOp op [a] pos) t := fun pins s σ H Q I hw => BoolOp_one (h pins s σ H Q I hw)
theorem pe_and (ha : PE X a ta) (hb : PE X (.BoolOp .And (b :: rest) pos) tb) : PE X (.BoolOp .And (a :: b :: rest) pos) (tAndV ta tb) := by
  intro pins s σ H Q I h
  refine BoolOp_and (thn (ha pins s σ H _ I h) fun v s1 ⟨x, H1, I1, r1, q1⟩ => ?_)
  obtain ⟨c, rfl, q1⟩ := q1
  cases r1
  refine wpAny_truthy_bool ?_
  cases c with
  | true => exact hb pins s1 σ H1 Q I1 q1
  | false => exact ⟨.bl false, H1, I1, rfl, q1⟩
theorem pe_not (ha : PE X a ta) : PE X (.UnaryOp .Not a pos) (tNotV ta) := by
  intro pins s σ H Q I h
  refine UnaryOp_ (thn (ha pins s σ H _ I h) fun v s1 ⟨x, H1, I1, r1, q1⟩ => ?_)
  obtain ⟨c, rfl, q1⟩ := q1
  cases r1
  exact not_of (wpAny_truthy_bool ⟨.bl (!c), H1, I1, rfl, q1⟩)
def tIf (t : TT) (ta tb : TE) : TE := fun σ H Q => t σ H fun c H1 => if c = true then ta σ H1 Q else tb σ H1 Q
theorem pe_ifExp {c : Expr} (hc : PT X c tA) (ha : PE X a ta) (hb : PE X b tb) : PE X (.IfExp c a b pos) (tIf tA ta tb) := by
  intro pins s σ H Q I h
  refine wpAny_IfExp (thn (hc pins s σ H _ I h) fun d s1 ⟨H1, I1, q1⟩ => ?_)
  cases d with
  | true => exact ha pins s1 σ H1 Q I1 q1
  | false => exact hb pins s1 σ H1 Q I1 q1
end
end L2
namespace L2
open PySem PySem.Spec PyProof.Rows
def SqL (K : PySem.W.Frag) (H : Hp) (a : Addr) (xs : List V) : Prop :=
  Rd H a (.lst xs) ∨
    ∃ (o : Obj) (its : Array Value) (n : Nat), K.lookup a = some o ∧ o.cls = .type "list" ∧ o.dict = none ∧ o.data = .seq its n ∧ its.size ≤ sizeLine ∧ Vals xs its.toList
def SqT (K : PySem.W.Frag) (H : Hp) (a : Addr) (xs : List V) : Prop :=
  Rd H a (.tup xs) ∨
    ∃ (o : Obj) (its : Array Value) (n : Nat), K.lookup a = some o ∧ o.cls = .type "tuple" ∧ o.data = .seq its n ∧ its.size ≤ sizeLine ∧ Vals xs its.toList
def absV : Value → Option V
  | .none => some .non
  | .bool b => some (.bl b)
  | .int i _ => some (.int i)
  | .str x _ => some (.str x)
  | .bytes b _ => some (.byt b)
  | .float b _ => some (.flt b)
  | .ref a => some (.ref a)
  | .type n => some (.ty n)
  | _ => none
theorem RelV.abs {x : V} {u : Value} (r : RelV x u) : absV u = some x := by
  cases x with
  | non => cases r; rfl
  | bl _ => cases r; rfl
  | int _ => obtain ⟨t, rfl⟩ := r; rfl
  | str _ => obtain ⟨t, rfl⟩ := r; rfl
  | byt _ => obtain ⟨t, rfl⟩ := r; rfl
  | flt _ => obtain ⟨t, rfl⟩ := r; rfl
  | ref _ => cases r; rfl
  | ty _ => cases r; rfl
theorem RelV.inj {x y : V} {u : Value} (r : RelV x u) (q : RelV y u) : x = y := Option.some.inj (r.abs.symm.trans q.abs)
theorem Vals.inj : ∀ {xs ys : List V} {us : List Value}, Vals xs us → Vals ys us → xs = ys
  | _, _, _, .nil, .nil => rfl
  | _, _, _, .cons r t, .cons r' t' => by rw [r.inj r', Vals.inj t t']
section
variable {X : Cx} {pins : List (Addr × Obj)} {σ : St} {H : Hp} {s : Shared} {a : Addr} {xs ys : List V}
theorem SqL.of {K : PySem.W.Frag} (h : H a = some (.lst xs)) : SqL K H a xs := .inl (.inl h)
theorem SqT.of {K : PySem.W.Frag} (h : H a = some (.tup xs)) : SqT K H a xs := .inl (.inl h)
theorem Inv.list (I : Inv X pins σ H s) (h : SqL X.K H a xs) : ∃ its : List Value, Vals xs its ∧ PlainL s.heap a its.toArray ∧ xs.length ≤ sizeLine := by
  rcases h with h | ⟨o, its, n, hk, hc, hd, hs, hz, r⟩
  · obtain ⟨z, its, n, r, e⟩ := h.ok I.hok
    exact ⟨its, r, ⟨_, n, e, rfl, rfl, rfl⟩, z⟩
  · refine ⟨its.toList, r, ⟨o, n, I.kIn a o hk, hc, hd, by simpa using hs⟩, ?_⟩
    have e := r.length
    simp only [Array.length_toList] at e
    omega
theorem Inv.tuple (I : Inv X pins σ H s) (h : SqT X.K H a xs) : ∃ its : List Value, Vals xs its ∧ IsTup s.heap a its.toArray ∧ xs.length ≤ sizeLine := by
  rcases h with h | ⟨o, its, n, hk, hc, hs, hz, r⟩
  · obtain ⟨z, its, r, p⟩ := h.ok I.hok
    exact ⟨its, r, p, z⟩
  · refine ⟨its.toList, r, ⟨o, I.kIn a o hk, hc, n, by simpa using hs⟩, ?_⟩
    have e := r.length
    simp only [Array.length_toList] at e
    omega
theorem Inv.list_inj (I : Inv X pins σ H s) (h : SqL X.K H a xs) (h' : SqL X.K H a ys) : xs = ys := by
  obtain ⟨its, r, ⟨o, n, e, _, _, d⟩, _⟩ := I.list h
  obtain ⟨its', r', ⟨o', n', e', _, _, d'⟩, _⟩ := I.list h'
  rw [e] at e'; cases e'
  rw [d] at d'
  injection d' with d1 _
  have : its = its' := by simpa using congrArg Array.toList d1
  subst this
  exact r.inj r'
theorem Inv.tuple_inj (I : Inv X pins σ H s) (h : SqT X.K H a xs) (h' : SqT X.K H a ys) : xs = ys := by
  obtain ⟨its, r, ⟨o, e, _, n, d⟩, _⟩ := I.tuple h
  obtain ⟨its', r', ⟨o', e', _, n', d'⟩, _⟩ := I.tuple h'
  rw [e] at e'; cases e'
  rw [d] at d'
  injection d' with d1 _
  have : its = its' := by simpa using congrArg Array.toList d1
  subst this
  exact r.inj r'
end
abbrev Cx.wish (X : Cx) (E : Value → Shared → Prop) : Cx := { X with xe := E }
abbrev Cx.nox (X : Cx) : Cx := X.wish fun _ _ => False
theorem Cx.Ok.wish {X : Cx} (ok : X.Ok) (E : Value → Shared → Prop) : (X.wish E).Ok :=
  ⟨ok.mod, ok.kind, ok.glob, ok.blt, ok.above, ok.inj, ok.has, ok.cab, ok.hd, ok.frames, ok.stk, ok.exf, ok.bs, ok.bsz, ok.noex, ok.exfs, ok.funs, ok.frf⟩
theorem Cx.Ok.unwish {X : Cx} {E : Value → Shared → Prop} (ok : (X.wish E).Ok) : X.Ok :=
  ⟨ok.mod, ok.kind, ok.glob, ok.blt, ok.above, ok.inj, ok.has, ok.cab, ok.hd, ok.frames, ok.stk, ok.exf, ok.bs, ok.bsz, ok.noex, ok.exfs, ok.funs, ok.frf⟩
section
variable {X : Cx} {pins : List (Addr × Obj)} {σ : St} {H : Hp} {s : Shared} {E : Value → Shared → Prop}
theorem Inv.wish (I : Inv X pins σ H s) (E : Value → Shared → Prop) : Inv (X.wish E) pins σ H s := ⟨I.ok.wish E, I.os, I.bare, I.base, I.loc, I.cell, I.free, I.freeC, I.pin, I.hok, I.len⟩
theorem Inv.unwish (I : Inv (X.wish E) pins σ H s) : Inv X pins σ H s := ⟨I.ok.unwish, I.os, I.bare, I.base, I.loc, I.cell, I.free, I.freeC, I.pin, I.hok, I.len⟩
theorem SP.unwish {D : Ends} {f : Flow} {s' : Shared} (h : SP (X.wish E) pins D f s') : SP X pins D f s' := by
  cases f with
  | next => obtain ⟨σ', H', I, q⟩ := h; exact ⟨σ', H', I.unwish, q⟩
  | brk => obtain ⟨σ', H', I, q⟩ := h; exact ⟨σ', H', I.unwish, q⟩
  | cont => obtain ⟨σ', H', I, q⟩ := h; exact ⟨σ', H', I.unwish, q⟩
  | ret u => obtain ⟨v, σ', H', I, r, q⟩ := h; exact ⟨v, σ', H', I.unwish, r, q⟩
theorem PSs.nox {st : List Stmt} {t : TS} (h : PSs X.nox st t) : PSs X st t := fun pins s σ H D I hw =>
  wpAny_mono (h pins s σ H D (I.wish _) hw) (fun _ _ q => q.unwish) fun _ _ z => False.elim z
end
section
variable {X : Cx} {st : Stmt} {rest : List Stmt} {t u : TS} {e : Expr} {te : TE} {pos : Pos}
def tNext : TS := fun D σ H => D.nx σ H
def tSeq (t u : TS) : TS := fun D σ H => t { D with nx := u D } σ H
theorem pss_nil : PSs X [] tNext := fun _ _ σ H _ I h => wpAny_execs_nil ⟨σ, H, I, h⟩
theorem pss_cons (h1 : PS X st t) (h2 : PSs X rest u) : PSs X (st :: rest) (tSeq t u) := by
  intro pins s σ H D I h
  refine wpAny_execs_cons (thn (h1 pins s σ H { D with nx := u D } I h) fun f s1 q => ?_)
  cases f with
  | next =>
    obtain ⟨σ', H', I', q⟩ := q
    exact h2 pins s1 σ' H' D I' q
  | ret v => exact q
  | brk => exact q
  | cont => exact q
theorem pss_one (h1 : PS X st t) : PSs X [st] t := by
  intro pins s σ H D I h
  refine wpAny_execs_cons (thn (h1 pins s σ H D I h) fun f s1 q => ?_)
  cases f with
  | next => exact wpAny_execs_nil q
  | ret v => exact q
  | brk => exact q
  | cont => exact q
theorem Inv.quiet {pins : List (Addr × Obj)} {σ : St} {H : Hp} {s : Shared} (I : Inv X pins σ H s) : interactive X.env = false := by simp [interactive, I.ok.kind]
def tDrop (te : TE) : TS := fun D σ H => te σ H fun _ H1 => D.nx σ H1
theorem ps_expr (he : PE X e te) (hs : swapsWith e none pos.line X.env = pure false := by rfl) : PS X (.Expr e pos) (tDrop te) := by
  intro pins s σ H D I h
  exact wpAny_Expr_any (thn (he pins s σ H _ I h) fun v s1 ⟨x, H1, I1, r1, q1⟩ => ⟨σ, H1, I1, q1⟩) I.quiet hs
def tRet (te : TE) : TS := fun D σ H => te σ H D.rt
theorem ps_ret (he : PE X e te) : PS X (.Return (some e) pos) (tRet te) := by
  intro pins s σ H D I h
  exact wpAny_Return_some (thn (he pins s σ H _ I h) fun v s1 ⟨x, H1, I1, r1, q1⟩ => ⟨x, σ, H1, I1, r1, q1⟩)
def tIfS (c : TT) (t u : TS) : TS := fun D σ H => c σ H fun b H1 => if b = true then t D σ H1 else u D σ H1
theorem ps_if {c : Expr} {a b : List Stmt} {tc : TT} (hc : PT X c tc) (ha : PSs X a t) (hb : PSs X b u) : PS X (.If c a b pos) (tIfS tc t u) := by
  intro pins s σ H D I h
  refine wpAny_If (thn (hc pins s σ H _ I h) fun d s1 ⟨H1, I1, q1⟩ => ?_)
  cases d with
  | true => exact ha pins s1 σ H1 D I1 q1
  | false => exact hb pins s1 σ H1 D I1 q1
def tNever : TS := fun _ _ _ => False
theorem pss_never {sts : List Stmt} : PSs X sts tNever := fun _ _ _ _ _ _ h => h.elim
end
abbrev TG := V → St → Hp → (St → Hp → Prop) → Prop
abbrev TGs := List V → St → Hp → (St → Hp → Prop) → Prop
def PG (X : Cx) (target : Expr) (t : TG) : Prop :=
  ∀ (pins : List (Addr × Obj)) (s : Shared) (σ : St) (H : Hp) (v : V) (u : Value) (Q : St → Hp → Prop), Inv X pins σ H s → RelV v u → t v σ H Q →
    wpAny (model X.prog X.w) X.A (assign target X.env u) (fun _ s' => ∃ σ' H', Inv X pins σ' H' s' ∧ Q σ' H') X.xe s
def PGs (X : Cx) (ts : List Expr) (t : TGs) : Prop :=
  ∀ (pins : List (Addr × Obj)) (s : Shared) (σ : St) (H : Hp) (vs : List V) (us : List Value) (Q : St → Hp → Prop), Inv X pins σ H s → Vals vs us → t vs σ H Q →
    wpAny (model X.prog X.w) X.A (assignInOrder ((assignEach ts X.env).map (·.2)) us) (fun _ s' => ∃ σ' H', Inv X pins σ' H' s' ∧ Q σ' H') X.xe s
section
variable {X : Cx} {pos : Pos}
def gName (i : Nat) : TG := fun v σ H Q => Q (σ.set i (some v)) H
theorem pg_name {i : Nat} {x : Str} (hN : X.N.Nodup) (hi : X.N[i]? = some x) (hx : Loc X.env.scope x) (hf : X.fn x = true ∨ X.env.scope.names.lookup x = some .local := by first | exact .inl rfl | exact .inr rfl | assumption) : PG X (.Name x pos) (gName i) := by
  intro pins s σ H v u Q I r h
  exact wpAny_assign_Name (store_ok I hN hi hx r (fun s' I' => ⟨_, H, I', h⟩) hf)
def gNil : TGs := fun vs σ H Q => vs = [] ∧ Q σ H
def gCons (t : TG) (u : TGs) : TGs := fun vs σ H Q => ∃ v r, vs = v :: r ∧ t v σ H fun σ' H' => u r σ' H' Q
theorem pgs_nil : PGs X [] gNil := by
  intro pins s σ H vs us Q I r h
  obtain ⟨e, h⟩ := h
  subst e
  cases r
  exact assignInOrder_nil ⟨σ, H, I, h⟩
theorem pgs_cons {e : Expr} {es : List Expr} {t : TG} {u : TGs} (h1 : PG X e t) (h2 : PGs X es u)
    (hs : (assignEach (e :: es) X.env).map (·.2) = assign e X.env :: (assignEach es X.env).map (·.2) := by rfl) : PGs X (e :: es) (gCons t u) := by
  intro pins s σ H vs us Q I r h
  obtain ⟨v, vr, e1, h⟩ := h
  subst e1
  cases r with
  | cons r rr =>
    rw [hs]
    refine assignInOrder_cons (thn (h1 pins s σ H _ _ _ I r h) fun _ s1 ⟨σ1, H1, I1, q1⟩ => ?_)
    exact h2 pins s1 σ1 H1 _ _ Q I1 rr q1
def gTup (K : PySem.W.Frag) (n : Nat) (t : TGs) : TG := fun v σ H Q => ∃ a xs, v = .ref a ∧ SqT K H a xs ∧ xs.length = n ∧ t xs σ H Q
theorem pg_tup {es : List Expr} {k : Nat} {t : TGs} {n : Nat} (hc : X.calm = true) (h : PGs X es t)
    (hn : (assignEach es X.env).length = n := by rfl) (hst : (assignEach es X.env).findIdx? (·.1) = none := by rfl) : PG X (.Tuple es k pos) (gTup X.K n t) := by
  intro pins s σ H v u Q I r hw
  obtain ⟨a, xs, e1, hq, hl, hw⟩ := hw
  subst e1
  cases r
  obtain ⟨its, rv, ht, hz⟩ := I.tuple hq
  refine assign_Tuple_tuple (I.ok.hd hc) ht (by simp [hn, ← hl, rv.length]) hst fun h' hx => ?_
  have I1 : Inv X pins σ H { s with heap := h' } := I.kept (t' := s.toks) fun b o e => hx b o (Nat.ne_of_lt (Heap.lt_size e)) e
  exact h pins _ σ H xs _ Q I1 (by simpa using rv) hw
def tAsg (te : TE) (g : TG) : TS := fun D σ H => te σ H fun x H1 => g x σ H1 D.nx
theorem ps_set {i : Nat} {x : Str} {e : Expr} {te : TE} {pos' : Pos} (hN : X.N.Nodup) (hi : X.N[i]? = some x) (hx : Loc X.env.scope x) (he : PE X e te) (hs : swapsWith e (some (.Name x pos')) pos.line X.env = pure false := by rfl) (hf : X.fn x = true ∨ X.env.scope.names.lookup x = some .local := by first | exact .inl rfl | exact .inr rfl | assumption) :
    PS X (.Assign [.Name x pos'] e pos) (tAsg te (gName i)) := by
  intro pins s σ H D I h
  refine wpAny_Assign_Name (thn (he pins s σ H _ I h) fun v s1 ⟨y, H1, I1, r1, q1⟩ => ?_) hs
  exact store_ok I1 hN hi hx r1 (fun s2 I2 => ⟨_, H1, I2, q1⟩) hf
end
section
variable {X : Cx} {pos : Pos}
def tWhile (c : TT) (tb : TS) : TS := fun D σ H => ∃ W : Nat → St → Hp → Prop, (∃ m, W m σ H) ∧ ∀ m σ H, W m σ H →
  c σ H fun b H1 => if b = true then ∃ N : St → Hp → Prop, (∀ σ' H', N σ' H' → ∃ m', m' < m ∧ W m' σ' H') ∧ tb { D with nx := N, ct := N, bk := D.nx } σ H1 else D.nx σ H1
theorem ps_while {c : Expr} {body : List Stmt} {tc : TT} {tb : TS} (hp : PassesOwn (model X.prog X.w) X.A X.env X.xe) (hc : PT X c tc) (hb : PSs X body tb) : PS X (.While c body [] pos) (tWhile tc tb) := by
  intro pins s σ H D I h
  obtain ⟨W, ⟨m0, w0⟩, turn⟩ := h
  refine wpAny_While (codeAny_whileLoop (fun n s' => ∃ σ' H', Inv X pins σ' H' s' ∧ W n σ' H') ?_ m0 ⟨σ, H, I, w0⟩)
  rintro n s1 ⟨σ1, H1, I1, w1⟩
  refine wpAny_passesOwn hp (thn (hc pins s1 σ1 H1 _ I1 (turn n σ1 H1 w1)) fun b s2 ⟨H2, I2, q2⟩ => ?_)
  cases b with
  | true =>
    obtain ⟨N, hN, q2⟩ := q2
    rw [if_pos rfl]
    refine wpAny_passesOwn hp (thn (hb pins s2 σ1 H2 _ I2 q2) fun f s3 q3 => ?_)
    cases f with
    | next =>
      obtain ⟨σ3, H3, I3, n3⟩ := q3
      obtain ⟨m', hm, w3⟩ := hN σ3 H3 n3
      exact ⟨m', hm, σ3, H3, I3, w3⟩
    | cont =>
      obtain ⟨σ3, H3, I3, n3⟩ := q3
      obtain ⟨m', hm, w3⟩ := hN σ3 H3 n3
      exact ⟨m', hm, σ3, H3, I3, w3⟩
    | brk => exact q3
    | ret v => exact q3
  | false =>
    rw [if_neg Bool.false_ne_true]
    exact wpAny_execs_nil ⟨σ1, H2, I2, q2⟩
end
structure It where
  go : Nat → Hp → Prop
  yld : Nat → Hp → V → Hp → Prop
  stop : Nat → Hp → Prop
def FpOk (X : Cx) (pins : List (Addr × Obj)) (H : Hp) (b : Addr) : Prop :=
  H b = none ∧ b ≠ X.env.locals ∧ b ∉ X.fs ∧ (b ∈ X.ex ∨ X.s₀.heap.objs.size ≤ b) ∧ (∀ x c, X.env.cells.lookup x = some c → c ≠ b) ∧ ∀ p ∈ X.pn ++ pins, p.1 ≠ b
theorem Inv.fpOk {X : Cx} {pins : List (Addr × Obj)} {σ : St} {H H' : Hp} {s : Shared} {b : Addr} (I : Inv X pins σ H s) (hb : s.heap.objs.size ≤ b) (hn : H' b = none) : FpOk X pins H' b := by
  refine ⟨hn, Nat.ne_of_gt (Nat.lt_of_lt_of_le I.lt hb), I.nofs hb, .inr (Nat.le_trans I.sz hb), fun x c e z => ?_, fun p hp z => ?_⟩
  · obtain ⟨v, q⟩ := I.cell x c e
    exact absurd (Nat.lt_of_lt_of_le q.lt (by rw [z]; exact hb)) (Nat.lt_irrefl _)
  · exact absurd (Nat.lt_of_lt_of_le (Heap.lt_size (I.pin p hp).1) (by rw [z]; exact hb)) (Nat.lt_irrefl _)
structure Turn (P : Program) (w : World) (K : PySem.W.Frag) (tg : Expr) (J : It) (fp : List Addr) (it : Addr) (tn : Nat → Heap → Prop) : Prop where
  mem : it ∈ fp
  obj : ∀ i h, tn i h → ∀ b ∈ fp, ∃ o, h.get? b = some o ∧ ∀ v, o.data ≠ .cell v
  keep : ∀ i h h', tn i h → (∀ b ∈ fp, ∀ o, h.get? b = some o → h'.get? b = some o) → tn i h'
  item : ∀ (X : Cx), X.prog = P → X.w = w → X.K = K → X.calm = true → ∀ (i : Nat) (pins : List (Addr × Obj)) (s : Shared) (σ : St) (H : Hp) (E : Value → Shared → Prop), Inv X pins σ H s → (∀ b ∈ fp, FpOk X pins H b) → tn i s.heap → J.go i H →
    wpAny (model P w) X.A (pyNext (.ref it)) (fun r s1 => ∃ u, r = some u ∧
      wpAny (model P w) X.A (letOwnedTupleGo tg (.ref it) u) (fun _ s2 => ∃ x H', Inv X pins σ H' s2 ∧ RelV x u ∧ J.yld i H x H' ∧ tn (i + 1) s2.heap ∧ ∀ b ∈ fp, H' b = none) E s1) E s
  done : ∀ (X : Cx), X.prog = P → X.w = w → X.K = K → X.calm = true → ∀ (i : Nat) (pins : List (Addr × Obj)) (s : Shared) (σ : St) (H : Hp) (E : Value → Shared → Prop), Inv X pins σ H s → (∀ b ∈ fp, FpOk X pins H b) → tn i s.heap → J.stop i H →
    wpAny (model P w) X.A (pyNext (.ref it)) (fun r s1 => r = none ∧ Inv X pins σ H s1) E s
  self : ∀ (A : Around) (i : Nat) (s : Shared) (Q : Value → Shared → Prop) (E : Value → Shared → Prop), tn i s.heap → Q (.ref it) s → wpAny (model P w) A (pyIter (.ref it)) Q E s
abbrev TI := St → Hp → (It → Hp → Prop) → Prop
def PIE (X : Cx) (pins : List (Addr × Obj)) (σ : St) (tg : Expr) (R : It → Hp → Prop) (itv : Value) (s2 : Shared) : Prop :=
  ∃ (it : Addr) (fp : List Addr) (tn : Nat → Heap → Prop) (J : It) (H' : Hp), itv = .ref it ∧ Inv X pins σ H' s2 ∧ Turn X.prog X.w X.K tg J fp it tn ∧ tn 0 s2.heap ∧ (∀ b ∈ fp, FpOk X pins H' b) ∧ R J H'
def PI (X : Cx) (tg iter : Expr) (wi : TI) : Prop :=
  ∀ (pins : List (Addr × Obj)) (s : Shared) (σ : St) (H : Hp) (R : It → Hp → Prop), Inv X pins σ H s → wi σ H R →
    wpAny (model X.prog X.w) X.A (eval iter X.env) (fun v s1 => wpAny (model X.prog X.w) X.A (pyIter v) (PIE X pins σ tg R) X.xe s1) X.xe s
theorem go_of {M : Model} {A : Around} {E : Value → Shared → Prop} {s : Shared} {tg : Expr} {it : Addr} {u : Value} {o : Obj} {n : String} {vs : Array Value} {Q : Unit → Shared → Prop} (ho : s.heap.get? it = some o) (hc : o.cls = .type n) (hd : o.data = .fields vs)
    (hn : ["enumerate", "zip", "dict_itemiterator", "dict_reverseitemiterator", "odict_iterator", "itertools.zip_longest", "itertools.pairwise"].contains n = false) (hQ : Q () s) : wpAny M A (letOwnedTupleGo tg (.ref it) u) Q E s := by
  unfold letOwnedTupleGo
  cases tg <;> first
    | exact wpAny_pure hQ
    | (cases u <;> first
        | exact wpAny_pure hQ
        | (refine wpAny_bind (wpAny_load ho ?_)
           rw [hc, hd]
           show wpAny M A (if (["enumerate", "zip", "dict_itemiterator", "dict_reverseitemiterator", "odict_iterator", "itertools.zip_longest", "itertools.pairwise"].contains n && vs[0]? == some (rawInt _)) = true then _ else _) Q E s
           rw [if_neg (by intro h; rw [hn, Bool.false_and] at h; cases h)]
           exact wpAny_pure hQ))
def Itl (K : PySem.W.Frag) (a : Addr) : It :=
  ⟨fun i H => ∃ xs x, SqL K H a xs ∧ xs[i]? = some x, fun i H x H' => H' = H ∧ ∀ xs, SqL K H a xs → xs[i]? = some x, fun i H => ∃ xs, SqL K H a xs ∧ xs.length ≤ i⟩
def Itt (K : PySem.W.Frag) (a : Addr) : It :=
  ⟨fun i H => ∃ xs x, SqT K H a xs ∧ xs[i]? = some x, fun i H x H' => H' = H ∧ ∀ xs, SqT K H a xs → xs[i]? = some x, fun i H => ∃ xs, SqT K H a xs ∧ xs.length ≤ i⟩
def Itr (lo : Int) (n : Nat) : It := ⟨fun i _ => i < n, fun i H x H' => H' = H ∧ x = .int (lo + i), fun i _ => n ≤ i⟩
theorem turn_list {P : Program} {w : World} {K : PySem.W.Frag} {tg : Expr} (a it : Addr) : Turn P w K tg (Itl K a) [it] it (fun i h => h.IsListIter it a i) where
  mem := by simp
  obj := fun i h st b hb => by
    have e : b = it := by simpa using hb
    subst e
    obtain ⟨o, e, c, d⟩ := st
    exact ⟨o, e, fun v z => by rw [d] at z; cases z⟩
  keep := fun i h h' st k => st.at fun o e => k it (by simp) o e
  item := by
    intro X hP hw hK hc i pins s σ H E I hf st hg
    subst hP hw hK
    obtain ⟨xs, x, hq, hx⟩ := hg
    obtain ⟨its, rv, p, hz⟩ := I.list hq
    obtain ⟨u, hu, ru⟩ := rv.get hx
    obtain ⟨f0, f1, f2, f3, f4, f5⟩ := hf it (by simp)
    refine wpAny_pyNext_list_item st p.isList (x := u) (by simpa using hu) fun h' st' sb => ?_
    have I1 : Inv X pins σ H { s with heap := h' } := I.turned (t' := s.toks) (fun b o hb e => (sb.2 b hb).trans e) f0 f1 f3 f4 f5
    obtain ⟨o, e, c, d⟩ := id st'
    exact ⟨u, rfl, go_of (s := { s with heap := h' }) e c d (by decide) ⟨x, H, I1, ru, ⟨rfl, fun ys hy => by rw [I.list_inj hy hq]; exact hx⟩, st', fun b hb => (hf b hb).1⟩⟩
  done := by
    intro X hP hw hK hc i pins s σ H E I hf st hg
    subst hP hw hK
    obtain ⟨xs, hq, hx⟩ := hg
    obtain ⟨its, rv, p, hz⟩ := I.list hq
    obtain ⟨f0, f1, f2, f3, f4, f5⟩ := hf it (by simp)
    have hl := rv.length
    exact wpAny_pyNext_list_end (I.ok.hd hc) st p.isList (by simp; omega) fun h' eb => ⟨rfl, I.turned (t' := s.toks) (fun b o hb e => eb b o hb e) f0 f1 f3 f4 f5⟩
  self := fun _ _ _ _ _ st h => wpAny_pyIter_listiter st h
theorem turn_tuple {P : Program} {w : World} {K : PySem.W.Frag} {tg : Expr} (a it : Addr) : Turn P w K tg (Itt K a) [it] it (fun i h => h.IsTupleIter it a i) where
  mem := by simp
  obj := fun i h st b hb => by
    have e : b = it := by simpa using hb
    subst e
    obtain ⟨o, e, c, d⟩ := st
    exact ⟨o, e, fun v z => by rw [d] at z; cases z⟩
  keep := fun i h h' st k => st.at fun o e => k it (by simp) o e
  item := by
    intro X hP hw hK hc i pins s σ H E I hf st hg
    subst hP hw hK
    obtain ⟨xs, x, hq, hx⟩ := hg
    obtain ⟨its, rv, p, hz⟩ := I.tuple hq
    obtain ⟨u, hu, ru⟩ := rv.get hx
    obtain ⟨f0, f1, f2, f3, f4, f5⟩ := hf it (by simp)
    refine wpAny_pyNext_tuple_item st (show s.heap.IsTuple a its.toArray from p) (x := u) (by simpa using hu) fun h' st' sb => ?_
    have I1 : Inv X pins σ H { s with heap := h' } := I.turned (t' := s.toks) (fun b o hb e => (sb.2 b hb).trans e) f0 f1 f3 f4 f5
    obtain ⟨o, e, c, d⟩ := id st'
    exact ⟨u, rfl, go_of (s := { s with heap := h' }) e c d (by decide) ⟨x, H, I1, ru, ⟨rfl, fun ys hy => by rw [I.tuple_inj hy hq]; exact hx⟩, st', fun b hb => (hf b hb).1⟩⟩
  done := by
    intro X hP hw hK hc i pins s σ H E I hf st hg
    subst hP hw hK
    obtain ⟨xs, hq, hx⟩ := hg
    obtain ⟨its, rv, p, hz⟩ := I.tuple hq
    obtain ⟨f0, f1, f2, f3, f4, f5⟩ := hf it (by simp)
    have hl := rv.length
    exact wpAny_pyNext_tuple_end (I.ok.hd hc) st (show s.heap.IsTuple a its.toArray from p) (by simp; omega) fun h' eb => ⟨rfl, I.turned (t' := s.toks) (fun b o hb e => eb b o hb e) f0 f1 f3 f4 f5⟩
  self := fun _ _ _ _ _ st h => wpAny_pyIter_tupleiter st h
theorem turn_range {P : Program} {w : World} {K : PySem.W.Frag} {tg : Expr} (it : Addr) (lo : Int) (n : Nat) : Turn P w K tg (Itr lo n) [it] it (fun i h => IsRangeIter h it (lo + (i : Nat) * 1) ((n : Int) - (i : Nat)) 1) where
  mem := by simp
  obj := fun i h st b hb => by
    have e : b = it := by simpa using hb
    subst e
    exact ⟨_, st, fun v z => by
      have z' : Data.fields _ = Data.cell v := z
      cases z'⟩
  keep := fun i h h' st k => k it (by simp) _ st
  item := by
    intro X hP hw hK hc i pins s σ H E I hf st hg
    subst hP hw hK
    obtain ⟨f0, f1, f2, f3, f4, f5⟩ := hf it (by simp)
    have W := Walks.range (prog := X.prog) (w := X.w) (I.ok.hd hc) it lo 1 n
    refine W.item i s _ _ hg st fun v h' tk hv st' kk => ?_
    obtain ⟨t, rfl⟩ := hv
    have I1 : Inv X pins σ H { s with heap := h', toks := tk } := I.turned (fun b o hb e => kk b o (by simpa using hb) e) f0 f1 f3 f4 f5
    refine ⟨_, rfl, go_of (s := { s with heap := h', toks := tk }) (n := "range_iterator") st' rfl rfl (by decide) ⟨.int (lo + i), H, I1, ⟨t, ?_⟩, ⟨rfl, rfl⟩, st', fun b hb => (hf b hb).1⟩⟩
    rw [Int.mul_one]
  done := by
    intro X hP hw hK hc i pins s σ H E I hf st hg
    subst hP hw hK
    obtain ⟨f0, f1, f2, f3, f4, f5⟩ := hf it (by simp)
    exact wpAny_pyNext_range_end (I.ok.hd hc) st (by have : n ≤ i := hg; omega) fun h' eb => ⟨rfl, I.turned (t' := s.toks) (fun b o hb e => eb b o hb e) f0 f1 f3 f4 f5⟩
  self := fun _ _ _ _ _ st h => wpAny_pyIter_rangeiter st h
end L2
namespace L2
open PySem PySem.Spec PyProof.Rows
section
variable {X : Cx} {tg : Expr}
def iList (K : PySem.W.Frag) (tl : TE) : TI := fun σ H R => tl σ H fun x H1 => ∃ a, x = .ref a ∧ (∃ xs, SqL K H1 a xs) ∧ R (Itl K a) H1
def iTup (K : PySem.W.Frag) (tl : TE) : TI := fun σ H R => tl σ H fun x H1 => ∃ a, x = .ref a ∧ (∃ xs, SqT K H1 a xs) ∧ R (Itt K a) H1
theorem pi_list {l : Expr} {tl : TE} (hl : PE X l tl) : PI X tg l (iList X.K tl) := by
  intro pins s σ H R I h
  refine thn (hl pins s σ H _ I h) fun v s1 ⟨x, H1, I1, r1, q1⟩ => ?_
  obtain ⟨a, e, ⟨xs, hq⟩, q⟩ := q1
  subst e
  cases r1
  obtain ⟨its, rv, p, hz⟩ := I1.list hq
  refine wpAny_pyIter_list p.isList ?_
  refine ⟨s1.heap.objs.size, [s1.heap.objs.size], _, _, H1, rfl, I1.kept (t' := s1.toks) fun b o e => Heap.get?_push_of_some _ e, turn_list a _, ⟨_, Heap.get?_push_size _ rfl, rfl, rfl⟩, fun b hb => ?_, q⟩
  have e : b = s1.heap.objs.size := by simpa using hb
  subst e
  exact I1.fpOk (Nat.le_refl _) (I1.hok.fresh (Nat.le_refl _))
theorem pi_tup {l : Expr} {tl : TE} (hl : PE X l tl) : PI X tg l (iTup X.K tl) := by
  intro pins s σ H R I h
  refine thn (hl pins s σ H _ I h) fun v s1 ⟨x, H1, I1, r1, q1⟩ => ?_
  obtain ⟨a, e, ⟨xs, hq⟩, q⟩ := q1
  subst e
  cases r1
  obtain ⟨its, rv, p, hz⟩ := I1.tuple hq
  refine wpAny_pyIter_tuple (show s1.heap.IsTuple a its.toArray from p) ?_
  refine ⟨s1.heap.objs.size, [s1.heap.objs.size], _, _, H1, rfl, I1.kept (t' := s1.toks) fun b o e => Heap.get?_push_of_some _ e, turn_tuple a _, ⟨_, Heap.get?_push_size _ rfl, rfl, rfl⟩, fun b hb => ?_, q⟩
  have e : b = s1.heap.objs.size := by simpa using hb
  subst e
  exact I1.fpOk (Nat.le_refl _) (I1.hok.fresh (Nat.le_refl _))
theorem range_it {pins : List (Addr × Obj)} {σ : St} {H : Hp} {s : Shared} {R : It → Hp → Prop} {E : Value → Shared → Prop} {lo hi : Int} {t u v : Tok} {tk : Nat} (I : Inv X pins σ H s) (h1 : -(2 ^ 62) ≤ lo) (h2 : lo < 2 ^ 62) (h3 : -(2 ^ 62) ≤ hi) (h4 : hi < 2 ^ 62)
    (q : R (Itr lo (hi - lo).toNat) H) : wpAny (model X.prog X.w) X.A (pyIter (.ref s.heap.objs.size)) (PIE X pins σ tg R) E { s with heap := s.heap.push { cls := .type "range", data := .fields #[.int lo t, .int hi u, .int 1 v] }, toks := tk } := by
  refine wpAny_pyIter_range (IsRange.new ..) (small_one h1 h2 h3 h4) ?_
  have I1 : Inv X pins σ H { s with heap := s.heap.push { cls := .type "range", data := .fields #[.int lo t, .int hi u, .int 1 v] }, toks := tk } := I.kept fun b o e => Heap.get?_push_of_some _ e
  refine ⟨(s.heap.push { cls := .type "range", data := .fields #[.int lo t, .int hi u, .int 1 v] }).objs.size, [(s.heap.push { cls := .type "range", data := .fields #[.int lo t, .int hi u, .int 1 v] }).objs.size], _, _, H, rfl,
    I1.kept (t' := tk) fun b o e => Heap.get?_push_of_some _ e, turn_range _ lo (hi - lo).toNat, ?_, fun b hb => ?_, q⟩
  · have e1 : lo + ((0 : Nat) : Int) * 1 = lo := by simp
    have e2 : (((hi - lo).toNat : Nat) : Int) - ((0 : Nat) : Int) = Builtin.Range.rangeSize lo hi 1 := by rw [rangeSize_one]; split <;> omega
    show IsRangeIter _ _ (lo + ((0 : Nat) : Int) * 1) ((((hi - lo).toNat : Nat) : Int) - ((0 : Nat) : Int)) 1
    rw [e1, e2]
    exact Heap.get?_push_size _ rfl
  · have e : b = (s.heap.push { cls := .type "range", data := .fields #[.int lo t, .int hi u, .int 1 v] }).objs.size := by simpa using hb
    subst e
    exact I1.fpOk (Nat.le_refl _) (I1.hok.fresh (Nat.le_refl _))
def iRng1 (ta : TA) : TI := fun σ H R => ta σ H fun vs H1 => ∃ j : Int, vs = [.int j] ∧ -(2 ^ 62) ≤ j ∧ j < 2 ^ 62 ∧ R (Itr 0 j.toNat) H1
theorem pi_range1 {a : Expr} {ta : TA} {p pos : Pos} (hg : Gl X "range") (hm : X.mg "range" = none) (ha : PA X [a] ta) (hs : starEach [a] X.env = [(false, eval a X.env)] := by rfl) : PI X tg (.Call (.Name "range" p) [a] [] pos) (iRng1 ta) := by
  intro pins s σ H R I h
  refine Call_ (ld_blt I hg hm boot_range (PyProof.Rows.callWith_type1 (thn (ha pos pins s σ H _ I h) fun us s1 ⟨vs, H1, I1, r1, q1⟩ => ?_) hs rfl))
  obtain ⟨j, e, q1, q2, q⟩ := q1
  subst e
  cases r1 with
  | cons r rr =>
    cases rr
    obtain ⟨t, rfl⟩ := r
    exact call_range_1 (range_it I1 (by omega) (by omega) q1 q2 (by simpa using q))
def tFor (wi : TI) (g : TG) (tb : TS) : TS := fun D σ H => wi σ H fun J H1 => ∃ W : Nat → Nat → St → Hp → Prop, (∃ m, W 0 m σ H1) ∧ ∀ i m σ H, W i m σ H →
  (J.stop i H ∧ D.nx σ H) ∨ (J.go i H ∧ ∃ N : St → Hp → Prop, (∀ σ' H', N σ' H' → ∃ m', m' < m ∧ W (i + 1) m' σ' H') ∧ ∀ x H', J.yld i H x H' → g x σ H' fun σ2 H2 => tb { D with nx := N, ct := N, bk := D.nx } σ2 H2)
def pinsAt (fp : List Addr) (h : Heap) : List (Addr × Obj) := fp.filterMap fun b => (h.get? b).map fun o => (b, o)
theorem mem_pinsAt {fp : List Addr} {h : Heap} {b : Addr} {o : Obj} (hb : b ∈ fp) (e : h.get? b = some o) : (b, o) ∈ pinsAt fp h := List.mem_filterMap.mpr ⟨b, hb, by rw [e]; rfl⟩
theorem of_pinsAt {fp : List Addr} {h : Heap} {p : Addr × Obj} (hp : p ∈ pinsAt fp h) : p.1 ∈ fp ∧ h.get? p.1 = some p.2 := by
  obtain ⟨b, hb, e⟩ := List.mem_filterMap.mp hp
  cases q : h.get? b with
  | none => rw [q] at e; cases e
  | some o =>
    rw [q] at e
    have e' : (b, o) = p := Option.some.inj e
    subst e'
    exact ⟨hb, q⟩
theorem Inv.pinned {pins : List (Addr × Obj)} {σ : St} {H : Hp} {s : Shared} {fp : List Addr} (I : Inv X pins σ H s) (hf : ∀ b ∈ fp, FpOk X pins H b) (ho : ∀ b ∈ fp, ∃ o, s.heap.get? b = some o ∧ ∀ v, o.data ≠ .cell v) : Inv X (pins ++ pinsAt fp s.heap) σ H s :=
  I.pins_of fun p hp => (List.mem_append.mp hp).elim (fun z => I.pin p (List.mem_append_right _ z)) fun z => by
    obtain ⟨hb, e⟩ := of_pinsAt z
    obtain ⟨f0, f1, f2, _⟩ := hf p.1 hb
    obtain ⟨o, e', d⟩ := ho p.1 hb
    rw [e] at e'; cases e'
    exact ⟨e, f0, f1, f2, d⟩
theorem Inv.unpinned {pins pl : List (Addr × Obj)} {σ : St} {H : Hp} {s : Shared} (I : Inv X (pins ++ pl) σ H s) : Inv X pins σ H s := I.pins_of fun p hp => I.pin p (List.mem_append_right _ (List.mem_append_left _ hp))
theorem ps_for {iter : Expr} {body : List Stmt} {wi : TI} {g : TG} {tb : TS} {pos : Pos} (hp : PassesOwn (model X.prog X.w) X.A X.env X.xe) (hc : X.calm = true) (hi : PI X tg iter wi) (hg : PG X tg g) (hb : PSs X body tb)
    (hs : ∀ x, foldedSetIterable iter X.env x = pure x := by intro _; rfl) : PS X (.For tg iter body [] pos) (tFor wi g tb) := by
  intro pins s σ H D I h
  refine wpAny_For (thn (hi pins s σ H _ I h) fun v s1 h1 => thn h1 fun itv s2 h2 => ?_) hs
  obtain ⟨it, fp, tn, J, H2, e, I2, T, st2, f2, W, ⟨m0, w0⟩, turn⟩ := h2
  subst e
  have stat : ∀ {H' : Hp}, (∀ b ∈ fp, H' b = none) → ∀ b ∈ fp, FpOk X pins H' b := fun hn b hb => ⟨hn b hb, (f2 b hb).2⟩
  refine codeAny_forLoop_any (fun n s' => ∃ i σ' H', Inv X pins σ' H' s' ∧ tn i s'.heap ∧ (∀ b ∈ fp, H' b = none) ∧ W i n σ' H') ?_ m0 ⟨0, σ, H2, I2, st2, fun b hb => (f2 b hb).1, w0⟩
  rintro n s3 ⟨i, σ3, H3, I3, st3, fr3, w3⟩
  rcases turn i n σ3 H3 w3 with ⟨stop, qn⟩ | ⟨go, N, hN, step⟩
  · refine wpAny_passesOwn hp (thn (T.done X rfl rfl rfl hc i pins s3 σ3 H3 X.xe I3 (stat fr3) st3 stop) fun r s4 ⟨hr, I4⟩ => ?_)
    subst hr
    exact wpAny_execs_nil ⟨σ3, H3, I4, qn⟩
  · refine wpAny_passesOwn hp (thn (T.item X rfl rfl rfl hc i pins s3 σ3 H3 X.xe I3 (stat fr3) st3 go) fun r s4 ⟨u, hr, h4⟩ => ?_)
    subst hr
    refine wpAny_passesOwn hp (thn h4 fun _ s5 ⟨x, H5, I5, r5, y5, st5, fr5⟩ => ?_)
    have I5' := I5.pinned (stat fr5) (T.obj _ _ st5)
    refine wpAny_passesOwn hp (thn (hg _ s5 σ3 H5 x u _ I5' r5 (step x H5 y5)) fun _ s6 ⟨σ6, H6, I6, q6⟩ => ?_)
    refine wpAny_passesOwn hp (thn (hb _ s6 σ6 H6 _ I6 q6) fun f s7 q7 => ?_)
    have again : ∀ {σ7 : St} {H7 : Hp}, Inv X (pins ++ pinsAt fp s5.heap) σ7 H7 s7 → N σ7 H7 → ∃ m, m < n ∧ ∃ i σ' H', Inv X pins σ' H' s7 ∧ tn i s7.heap ∧ (∀ b ∈ fp, H' b = none) ∧ W i m σ' H' := fun {σ7 H7} I7 n7 => by
      obtain ⟨m', hm, w7⟩ := hN σ7 H7 n7
      refine ⟨m', hm, i + 1, σ7, H7, I7.unpinned, T.keep _ _ _ st5 fun b hb o e => (I7.pin (b, o) (List.mem_append_right _ (List.mem_append_right _ (mem_pinsAt hb e)))).1, fun b hb => ?_, w7⟩
      obtain ⟨o, e, d⟩ := T.obj _ _ st5 b hb
      exact (I7.pin (b, o) (List.mem_append_right _ (List.mem_append_right _ (mem_pinsAt hb e)))).2.1
    cases f with
    | next => obtain ⟨σ7, H7, I7, n7⟩ := q7; exact again I7 n7
    | cont => obtain ⟨σ7, H7, I7, n7⟩ := q7; exact again I7 n7
    | brk => obtain ⟨σ7, H7, I7, q7⟩ := q7; exact ⟨σ7, H7, I7.unpinned, q7⟩
    | ret v => obtain ⟨x7, σ7, H7, I7, r7, q7⟩ := q7; exact ⟨x7, σ7, H7, I7.unpinned, r7, q7⟩
end
theorem for_list {K : PySem.W.Frag} {a : Addr} {xs : List V} {g : TG} {tb : TS} {D : Ends} {σ : St} {H : Hp} (Pv : Nat → St → Hp → Prop) (h0 : Pv 0 σ H) (hl : ∀ i σ H, i ≤ xs.length → Pv i σ H → SqL K H a xs)
    (hs : ∀ i x σ H, xs[i]? = some x → Pv i σ H → g x σ H fun σ2 H2 => tb { D with nx := Pv (i + 1), ct := Pv (i + 1), bk := D.nx } σ2 H2) (hd : ∀ σ H, Pv xs.length σ H → D.nx σ H) :
    ∃ W : Nat → Nat → St → Hp → Prop, (∃ m, W 0 m σ H) ∧ ∀ i m σ H, W i m σ H →
      ((Itl K a).stop i H ∧ D.nx σ H) ∨ ((Itl K a).go i H ∧ ∃ N : St → Hp → Prop, (∀ σ' H', N σ' H' → ∃ m', m' < m ∧ W (i + 1) m' σ' H') ∧ ∀ x H', (Itl K a).yld i H x H' → g x σ H' fun σ2 H2 => tb { D with nx := N, ct := N, bk := D.nx } σ2 H2) := by
  refine ⟨fun i m σ H => m = xs.length - i ∧ i ≤ xs.length ∧ Pv i σ H, ⟨xs.length, by simp, Nat.zero_le _, h0⟩, ?_⟩
  rintro i m σ H ⟨rfl, hi, p⟩
  have q := hl i σ H hi p
  by_cases hlt : i < xs.length
  · refine .inr ⟨⟨xs, xs[i], q, by simp [hlt]⟩, Pv (i + 1), fun σ' H' p' => ⟨xs.length - (i + 1), by omega, rfl, hlt, p'⟩, fun x H' y => ?_⟩
    obtain ⟨e, y⟩ := y
    subst e
    exact hs i x σ _ (y xs q) p
  · have e : i = xs.length := by omega
    subst e
    exact .inl ⟨⟨xs, q, Nat.le_refl _⟩, hd σ H p⟩
theorem for_tup {K : PySem.W.Frag} {a : Addr} {xs : List V} {g : TG} {tb : TS} {D : Ends} {σ : St} {H : Hp} (Pv : Nat → St → Hp → Prop) (h0 : Pv 0 σ H) (hl : ∀ i σ H, i ≤ xs.length → Pv i σ H → SqT K H a xs)
    (hs : ∀ i x σ H, xs[i]? = some x → Pv i σ H → g x σ H fun σ2 H2 => tb { D with nx := Pv (i + 1), ct := Pv (i + 1), bk := D.nx } σ2 H2) (hd : ∀ σ H, Pv xs.length σ H → D.nx σ H) :
    ∃ W : Nat → Nat → St → Hp → Prop, (∃ m, W 0 m σ H) ∧ ∀ i m σ H, W i m σ H →
      ((Itt K a).stop i H ∧ D.nx σ H) ∨ ((Itt K a).go i H ∧ ∃ N : St → Hp → Prop, (∀ σ' H', N σ' H' → ∃ m', m' < m ∧ W (i + 1) m' σ' H') ∧ ∀ x H', (Itt K a).yld i H x H' → g x σ H' fun σ2 H2 => tb { D with nx := N, ct := N, bk := D.nx } σ2 H2) := by
  refine ⟨fun i m σ H => m = xs.length - i ∧ i ≤ xs.length ∧ Pv i σ H, ⟨xs.length, by simp, Nat.zero_le _, h0⟩, ?_⟩
  rintro i m σ H ⟨rfl, hi, p⟩
  have q := hl i σ H hi p
  by_cases hlt : i < xs.length
  · refine .inr ⟨⟨xs, xs[i], q, by simp [hlt]⟩, Pv (i + 1), fun σ' H' p' => ⟨xs.length - (i + 1), by omega, rfl, hlt, p'⟩, fun x H' y => ?_⟩
    obtain ⟨e, y⟩ := y
    subst e
    exact hs i x σ _ (y xs q) p
  · have e : i = xs.length := by omega
    subst e
    exact .inl ⟨⟨xs, q, Nat.le_refl _⟩, hd σ H p⟩
theorem for_range {lo : Int} {n : Nat} {g : TG} {tb : TS} {D : Ends} {σ : St} {H : Hp} (Pv : Nat → St → Hp → Prop) (h0 : Pv 0 σ H)
    (hs : ∀ i σ H, i < n → Pv i σ H → g (.int (lo + i)) σ H fun σ2 H2 => tb { D with nx := Pv (i + 1), ct := Pv (i + 1), bk := D.nx } σ2 H2) (hd : ∀ σ H, Pv n σ H → D.nx σ H) :
    ∃ W : Nat → Nat → St → Hp → Prop, (∃ m, W 0 m σ H) ∧ ∀ i m σ H, W i m σ H →
      ((Itr lo n).stop i H ∧ D.nx σ H) ∨ ((Itr lo n).go i H ∧ ∃ N : St → Hp → Prop, (∀ σ' H', N σ' H' → ∃ m', m' < m ∧ W (i + 1) m' σ' H') ∧ ∀ x H', (Itr lo n).yld i H x H' → g x σ H' fun σ2 H2 => tb { D with nx := N, ct := N, bk := D.nx } σ2 H2) := by
  refine ⟨fun i m σ H => m = n - i ∧ i ≤ n ∧ Pv i σ H, ⟨n, by simp, Nat.zero_le _, h0⟩, ?_⟩
  rintro i m σ H ⟨rfl, hi, p⟩
  by_cases hlt : i < n
  · refine .inr ⟨hlt, Pv (i + 1), fun σ' H' p' => ⟨n - (i + 1), by omega, rfl, hlt, p'⟩, fun x H' y => ?_⟩
    obtain ⟨e, y⟩ := y
    subst e y
    exact hs i σ _ hlt p
  · have e : i = n := by omega
    subst e
    exact .inl ⟨Nat.le_refl _, hd σ H p⟩
theorem while_by {c : TT} {tb : TS} {D : Ends} {σ : St} {H : Hp} (Pv : St → Hp → Prop) (μ : St → Hp → Nat) (h0 : Pv σ H)
    (hs : ∀ σ H, Pv σ H → c σ H fun b H1 => if b = true then tb { D with nx := fun σ' H' => Pv σ' H' ∧ μ σ' H' < μ σ H, ct := fun σ' H' => Pv σ' H' ∧ μ σ' H' < μ σ H, bk := D.nx } σ H1 else D.nx σ H1)
    (mono : ∀ σ H Q Q', (∀ b H1, Q b H1 → Q' b H1) → c σ H Q → c σ H Q') : tWhile c tb D σ H := by
  refine ⟨fun m σ H => m = μ σ H ∧ Pv σ H, ⟨_, rfl, h0⟩, ?_⟩
  rintro m σ H ⟨rfl, p⟩
  refine mono σ H _ _ (fun b H1 q => ?_) (hs σ H p)
  cases b with
  | true => exact ⟨_, fun σ' H' ⟨p', l⟩ => ⟨_, l, rfl, p'⟩, q⟩
  | false => exact q
end L2
namespace L2
open PySem PySem.Spec PyProof.Rows
abbrev R2 := V → V → Hp → VK → Prop
def OpR (X : Cx) (f : Value → Value → Sem Value) (r : R2) : Prop :=
  ∀ (pins : List (Addr × Obj)) (s : Shared) (σ : St) (H : Hp) (x y : V) (v u : Value) (Q : VK), Inv X pins σ H s → RelV x v → RelV y u → r x y H Q →
    wpAny (model X.prog X.w) X.A (f v u) (EP X pins σ Q) X.xe s
def UnR (X : Cx) (f : Value → Sem Value) (r : V → Hp → VK → Prop) : Prop :=
  ∀ (pins : List (Addr × Obj)) (s : Shared) (σ : St) (H : Hp) (x : V) (v : Value) (Q : VK), Inv X pins σ H s → RelV x v → r x H Q →
    wpAny (model X.prog X.w) X.A (f v) (EP X pins σ Q) X.xe s
def CallR (X : Cx) (f : Value) (r : List V → Hp → VK → Prop) : Prop :=
  ∀ (pins : List (Addr × Obj)) (s : Shared) (σ : St) (H : Hp) (xs : List V) (us : List Value) (Q : VK), Inv X pins σ H s → Vals xs us → r xs H Q →
    wpAny (model X.prog X.w) X.A (call f us) (EP X pins σ Q) X.xe s
def tOp (r : R2) (ta tb : TE) : TE := fun σ H Q => ta σ H fun x H1 => tb σ H1 fun y H2 => r x y H2 Q
def tUn (r : V → Hp → VK → Prop) (ta : TE) : TE := fun σ H Q => ta σ H fun x H1 => r x H1 Q
def rI (C : Int → Int → Prop) (g : Int → Int → V) : R2 := fun x y H Q => ∃ i j, x = .int i ∧ y = .int j ∧ C i j ∧ Q (g i j) H
def rI0 (g : Int → Int → V) : R2 := fun x y H Q => ∃ i j, x = .int i ∧ y = .int j ∧ Q (g i j) H
def rU (g : Int → V) : V → Hp → VK → Prop := fun x H Q => ∃ i, x = .int i ∧ Q (g i) H
section
variable {X : Cx} {a b c : Expr} {ta tb tc : TE} {pos : Pos}
theorem binT (ha : PE X a ta) (hb : PE X b tb) {pins : List (Addr × Obj)} {s : Shared} {σ : St} {H : Hp} {R : V → V → Hp → Prop} (I : Inv X pins σ H s)
    (h : ta σ H fun x H1 => tb σ H1 fun y H2 => R x y H2) {Q : Value → Shared → Prop} {f : Value → Value → Sem Value}
    (hf : ∀ v u s2 x y H2, Inv X pins σ H2 s2 → RelV x v → RelV y u → R x y H2 → wpAny (model X.prog X.w) X.A (f v u) Q X.xe s2) :
    wpAny (model X.prog X.w) X.A (eval a X.env) (fun v s₁ => wpAny (model X.prog X.w) X.A (eval b X.env) (fun u s₂ => wpAny (model X.prog X.w) X.A (f v u) Q X.xe s₂) X.xe s₁) X.xe s := by
  refine thn (ha pins s σ H _ I h) fun v s1 ⟨x, H1, I1, r1, q1⟩ => ?_
  refine thn (hb pins s1 σ H1 _ I1 q1) fun u s2 ⟨y, H2, I2, r2, q2⟩ => ?_
  exact hf v u s2 x y H2 I2 r1 r2 q2
theorem pe_op {op : Operator} {r : R2} (ho : OpR X (binaryOp op) r) (ha : PE X a ta) (hb : PE X b tb) : PE X (.BinOp a op b pos) (tOp r ta tb) := by
  intro pins s σ H Q I h
  exact wpAny_BinOp (binT ha hb I h fun v u s2 x y H2 I2 rx ry q => ho pins s2 σ H2 x y v u Q I2 rx ry q)
theorem pe_un {op : UnaryOp} {r : V → Hp → VK → Prop} (ho : UnR X (unaryOp op) r) (ha : PE X a ta) : PE X (.UnaryOp op a pos) (tUn r ta) := by
  intro pins s σ H Q I h
  exact UnaryOp_ (thn (ha pins s σ H _ I h) fun v s1 ⟨x, H1, I1, r1, q1⟩ => ho pins s1 σ H1 x v Q I1 r1 q1)
theorem opI {f : Value → Value → Sem Value} {C : Int → Int → Prop} {g : Int → Int → Int}
    (rule : ∀ (i j : Int) (t u : Tok) (s : Shared) (Q : Value → Shared → Prop) (E : Value → Shared → Prop), C i j → Q (.int (g i j) s.toks) { s with toks := s.toks + 1 } → wpAny (model X.prog X.w) X.A (f (.int i t) (.int j u)) Q E s) :
    OpR X f (rI C fun i j => .int (g i j)) := by
  intro pins s σ H x y v u Q I rx ry h
  obtain ⟨i, j, rfl, rfl, hc, q⟩ := h
  obtain ⟨t, rfl⟩ := rx
  obtain ⟨t', rfl⟩ := ry
  exact rule i j t t' s _ _ hc ⟨.int (g i j), H, I.tok _, ⟨_, rfl⟩, q⟩
theorem opI0 {f : Value → Value → Sem Value} {g : Int → Int → Int}
    (rule : ∀ (i j : Int) (t u : Tok) (s : Shared) (Q : Value → Shared → Prop) (E : Value → Shared → Prop), Q (.int (g i j) s.toks) { s with toks := s.toks + 1 } → wpAny (model X.prog X.w) X.A (f (.int i t) (.int j u)) Q E s) :
    OpR X f (rI0 fun i j => .int (g i j)) := by
  intro pins s σ H x y v u Q I rx ry h
  obtain ⟨i, j, rfl, rfl, q⟩ := h
  obtain ⟨t, rfl⟩ := rx
  obtain ⟨t', rfl⟩ := ry
  exact rule i j t t' s _ _ ⟨.int (g i j), H, I.tok _, ⟨_, rfl⟩, q⟩
theorem opB0 {f : Value → Value → Sem Value} {g : Int → Int → Bool}
    (rule : ∀ (i j : Int) (t u : Tok) (s : Shared) (Q : Value → Shared → Prop) (E : Value → Shared → Prop), Q (.bool (g i j)) s → wpAny (model X.prog X.w) X.A (f (.int i t) (.int j u)) Q E s) :
    OpR X f (rI0 fun i j => .bl (g i j)) := by
  intro pins s σ H x y v u Q I rx ry h
  obtain ⟨i, j, rfl, rfl, q⟩ := h
  obtain ⟨t, rfl⟩ := rx
  obtain ⟨t', rfl⟩ := ry
  exact rule i j t t' s _ _ ⟨.bl (g i j), H, I, rfl, q⟩
def CDiv (i j : Int) : Prop := 0 < j ∧ j < 1073741824
def CPow (i j : Int) : Prop := 0 ≤ j ∧ j ≤ 1000000 ∧ i.natAbs < 2 ^ 64
def CMul (i j : Int) : Prop := (-(2 ^ 64) < i ∧ i < 2 ^ 64) ∨ (-(2 ^ 64) < j ∧ j < 2 ^ 64)
theorem CMul.ok {i j : Int} (h : CMul i j) : IntMulOk i j := by
  rcases h with ⟨h1, h2⟩ | ⟨h1, h2⟩
  · exact .of_left (intBits_le_64 h1 h2)
  · exact .of_right (intBits_le_64 h1 h2)
theorem op_add : OpR X (binaryOp .Add) (rI0 fun i j => .int (i + j)) := opI0 fun _ _ _ _ _ _ _ q => add_int q
theorem op_sub : OpR X (binaryOp .Sub) (rI0 fun i j => .int (i - j)) := opI0 fun _ _ _ _ _ _ _ q => sub_int q
theorem op_mul : OpR X (binaryOp .Mult) (rI CMul fun i j => .int (i * j)) := opI fun _ _ _ _ _ _ _ hc q => mul_int q hc.ok
theorem op_fdiv : OpR X (binaryOp .FloorDiv) (rI CDiv fun i j => .int (i / j)) := opI fun i j _ _ _ _ _ hc q => by
  have h1 : (0 : Int) < j := hc.1
  have h2 : j < 1073741824 := hc.2
  exact floordiv_int (by omega) (by rw [Int.fdiv_eq_ediv_of_nonneg i (by omega)]; exact q) (.inl (PyProof.noPylong_small (by omega)))
theorem op_mod : OpR X (binaryOp .Mod) (rI (fun _ j => 0 < j) fun i j => .int (i % j)) := opI fun i j _ _ _ _ _ hc q => by
  have h1 : (0 : Int) < j := hc
  exact mod_int' (by omega) (by rw [Int.fmod_eq_emod_of_nonneg i (by omega)]; exact q)
theorem op_modN : OpR X (binaryOp .Mod) (rI (fun _ j => j ≠ 0) fun i j => .int (i.fmod j)) := opI fun _ _ _ _ _ _ _ hc q => mod_int' hc q
theorem op_pow : OpR X (binaryOp .Pow) (rI CPow fun i j => .int (i ^ j.toNat)) := opI fun _ _ _ _ _ _ _ hc q => pow_int_small hc.1 hc.2.1 hc.2.2 q
theorem unI {f : Value → Sem Value} {g : Int → Int}
    (rule : ∀ (i : Int) (t : Tok) (s : Shared) (Q : Value → Shared → Prop) (E : Value → Shared → Prop), Q (.int (g i) s.toks) { s with toks := s.toks + 1 } → wpAny (model X.prog X.w) X.A (f (.int i t)) Q E s) :
    UnR X f (rU fun i => .int (g i)) := by
  intro pins s σ H x v Q I rx h
  obtain ⟨i, rfl, q⟩ := h
  obtain ⟨t, rfl⟩ := rx
  exact rule i t s _ _ ⟨.int (g i), H, I.tok _, ⟨_, rfl⟩, q⟩
theorem un_neg : UnR X (unaryOp .USub) (rU fun i => .int (-i)) := unI fun _ _ _ _ _ q => neg_int q
end
def scal : V → V → Bool
  | .non, .non => true | .non, .int _ => true | .int _, .non => true | .non, .bl _ => true | .bl _, .non => true | .non, .str _ => true | .str _, .non => true
  | .int _, .int _ => true | .bl _, .bl _ => true | .str _, .str _ => true | .byt _, .byt _ => true
  | .int _, .str _ => true | .str _, .int _ => true | .bl _, .str _ => true | .str _, .bl _ => true
  | _, _ => false
def rEq : R2 := fun x y H Q => scal x y = true ∧ Q (.bl (decide (x = y))) H
def rNe : R2 := fun x y H Q => scal x y = true ∧ Q (.bl (!decide (x = y))) H
theorem dec_int {i j : Int} : decide (V.int i = V.int j) = (i == j) := by
  rw [Bool.eq_iff_iff]
  simp
theorem dec_bl {i j : Bool} : decide (V.bl i = V.bl j) = (i == j) := by
  rw [Bool.eq_iff_iff]
  simp
theorem dec_str {i j : Str} : decide (V.str i = V.str j) = (i == j) := by
  rw [Bool.eq_iff_iff]
  simp
theorem dec_byt {i j : Array UInt8} : decide (V.byt i = V.byt j) = (i.toList == j.toList) := by
  rw [Bool.eq_iff_iff]
  cases i
  cases j
  simp
section
variable {X : Cx} {a b c : Expr} {ta tb tc : TE} {pos : Pos}
theorem fin_bl {pins : List (Addr × Obj)} {σ : St} {H : Hp} {s : Shared} {Q : VK} {k k' : Bool} (I : Inv X pins σ H s) (q : Q (.bl k) H) (e : k = k') : EP X pins σ Q (.bool k') s := by
  subst e
  exact ⟨.bl k, H, I, rfl, q⟩
theorem op_eq : OpR X (compareOp .Eq) rEq := by
  intro pins s σ H x y v u Q I rx ry h
  obtain ⟨hs, q⟩ := h
  cases x with
  | non =>
    cases rx
    cases y with
    | non => cases ry; exact PySem.EqNone.eq_none_none (fin_bl I q (by simp))
    | bl j => cases ry; exact PySem.EqNone.eq_none_bool (fin_bl I q (by simp))
    | int j => obtain ⟨t', rfl⟩ := ry; exact PySem.EqNone.eq_none_int (fin_bl I q (by simp))
    | str j => obtain ⟨t', rfl⟩ := ry; exact PySem.EqNone.eq_none_str (fin_bl I q (by simp))
    | _ => exact absurd (show false = true from hs) Bool.false_ne_true
  | bl i =>
    cases rx
    cases y with
    | non => cases ry; exact PySem.EqNone.eq_bool_none (fin_bl I q (by simp))
    | bl j => cases ry; exact eq_bool (fin_bl I q dec_bl)
    | str j => obtain ⟨t', rfl⟩ := ry; exact PySem.EqMixed.eq_bool_str (fin_bl I q (by simp))
    | _ => exact absurd (show false = true from hs) Bool.false_ne_true
  | int i =>
    obtain ⟨t, rfl⟩ := rx
    cases y with
    | non => cases ry; exact PySem.EqNone.eq_int_none (fin_bl I q (by simp))
    | int j => obtain ⟨t', rfl⟩ := ry; exact eq_int (fin_bl I q dec_int)
    | str j => obtain ⟨t', rfl⟩ := ry; exact PySem.EqMixed.eq_int_str (fin_bl I q (by simp))
    | _ => exact absurd (show false = true from hs) Bool.false_ne_true
  | str i =>
    obtain ⟨t, rfl⟩ := rx
    cases y with
    | non => cases ry; exact PySem.EqNone.eq_str_none (fin_bl I q (by simp))
    | bl j => cases ry; exact PySem.EqMixed.eq_str_bool (fin_bl I q (by simp))
    | int j => obtain ⟨t', rfl⟩ := ry; exact PySem.EqMixed.eq_str_int (fin_bl I q (by simp))
    | str j => obtain ⟨t', rfl⟩ := ry; exact eq_str (fin_bl I q dec_str)
    | _ => exact absurd (show false = true from hs) Bool.false_ne_true
  | byt i =>
    obtain ⟨t, rfl⟩ := rx
    cases y with
    | byt j => obtain ⟨t', rfl⟩ := ry; exact PySem.W.eq_bytes (fin_bl I q dec_byt)
    | _ => exact absurd (show false = true from hs) Bool.false_ne_true
  | _ => cases y <;> exact absurd (show false = true from hs) Bool.false_ne_true
theorem op_ne : OpR X (compareOp .NotEq) rNe := by
  intro pins s σ H x y v u Q I rx ry h
  obtain ⟨hs, q⟩ := h
  cases x with
  | non =>
    cases rx
    cases y with
    | non => cases ry; exact PySem.EqNone.ne_none_none (fin_bl I q (by simp))
    | bl j => cases ry; exact PySem.EqNone.ne_none_bool (fin_bl I q (by simp))
    | int j => obtain ⟨t', rfl⟩ := ry; exact PySem.EqNone.ne_none_int (fin_bl I q (by simp))
    | str j => obtain ⟨t', rfl⟩ := ry; exact PySem.EqNone.ne_none_str (fin_bl I q (by simp))
    | _ => exact absurd (show false = true from hs) Bool.false_ne_true
  | bl i =>
    cases rx
    cases y with
    | non => cases ry; exact PySem.EqNone.ne_bool_none (fin_bl I q (by simp))
    | bl j => cases ry; exact ne_bool (fin_bl I q (congrArg not dec_bl))
    | str j => obtain ⟨t', rfl⟩ := ry; exact PySem.EqMixed.ne_bool_str (fin_bl I q (by simp))
    | _ => exact absurd (show false = true from hs) Bool.false_ne_true
  | int i =>
    obtain ⟨t, rfl⟩ := rx
    cases y with
    | non => cases ry; exact PySem.EqNone.ne_int_none (fin_bl I q (by simp))
    | int j => obtain ⟨t', rfl⟩ := ry; exact ne_int (fin_bl I q (congrArg not dec_int))
    | str j => obtain ⟨t', rfl⟩ := ry; exact PySem.EqMixed.ne_int_str (fin_bl I q (by simp))
    | _ => exact absurd (show false = true from hs) Bool.false_ne_true
  | str i =>
    obtain ⟨t, rfl⟩ := rx
    cases y with
    | non => cases ry; exact PySem.EqNone.ne_str_none (fin_bl I q (by simp))
    | bl j => cases ry; exact PySem.EqMixed.ne_str_bool (fin_bl I q (by simp))
    | int j => obtain ⟨t', rfl⟩ := ry; exact PySem.EqMixed.ne_str_int (fin_bl I q (by simp))
    | str j => obtain ⟨t', rfl⟩ := ry; exact ne_str (fin_bl I q (congrArg not dec_str))
    | _ => exact absurd (show false = true from hs) Bool.false_ne_true
  | byt i =>
    obtain ⟨t, rfl⟩ := rx
    cases y with
    | byt j => obtain ⟨t', rfl⟩ := ry; exact PySem.W.ne_bytes (fin_bl I q (congrArg not dec_byt))
    | _ => exact absurd (show false = true from hs) Bool.false_ne_true
  | _ => cases y <;> exact absurd (show false = true from hs) Bool.false_ne_true
theorem op_lt : OpR X (compareOp .Lt) (rI0 fun i j => .bl (decide (i < j))) := opB0 fun _ _ _ _ _ _ _ q => lt_int q
theorem op_le : OpR X (compareOp .LtE) (rI0 fun i j => .bl (decide (i ≤ j))) := opB0 fun _ _ _ _ _ _ _ q => le_int q
theorem op_gt : OpR X (compareOp .Gt) (rI0 fun i j => .bl (decide (j < i))) := opB0 fun _ _ _ _ _ _ _ q => gt_int q
theorem op_isN : OpR X (compareOp .Is) (fun x y H Q => y = .non ∧ Q (.bl (decide (x = .non))) H) := by
  intro pins s σ H x y v u Q I rx ry h
  obtain ⟨rfl, q⟩ := h
  cases ry
  refine is_none_gen (fin_bl I q ?_)
  cases x <;> first
    | (cases rx; rfl)
    | (obtain ⟨t, rfl⟩ := rx; rfl)
theorem nomark (b : Expr) {op : CmpOp} (h : op ≠ .In := by decide) (h2 : op ≠ .NotIn := by decide) : behindInMarks op b = false := by
  have e1 : (op == CmpOp.In) = false := by cases op <;> first | rfl | exact absurd rfl h
  have e2 : (op == CmpOp.NotIn) = false := by cases op <;> first | rfl | exact absurd rfl h2
  cases b <;> simp [behindInMarks, e1, e2]
theorem pe_cmpR {op : CmpOp} {r : R2} (ho : OpR X (compareOp op) r) (ha : PE X a ta) (hb : PE X b tb) (hm : behindInMarks op b = false) : PE X (.Compare a [op] [b] pos) (tOp r ta tb) := by
  intro pins s σ H Q I h
  exact wpAny_Compare1 (binT ha hb I h fun v u s2 x y H2 I2 rx ry q => ho pins s2 σ H2 x y v u Q I2 rx ry q) hm
def tTest (t : TE) : TT := fun σ H Q => t σ H fun x H' => ∃ k, x = .bl k ∧ Q k H'
theorem pt_cmpR {op : CmpOp} {r : R2} (ho : OpR X (compareOp op) r) (ha : PE X a ta) (hb : PE X b tb) (hm : behindInMarks op b = false) : PT X (.Compare a [op] [b] pos) (tTest (tOp r ta tb)) := by
  intro pins s σ H Q I h
  refine wpAny_isTrue_Compare1 (thn (ha pins s σ H _ I h) fun v s1 ⟨x, H1, I1, r1, q1⟩ => thn (hb pins s1 σ H1 _ I1 q1) fun u s2 ⟨y, H2, I2, r2, q2⟩ =>
    thn (ho pins s2 σ H2 x y v u _ I2 r1 r2 q2) fun c s3 ⟨z, H3, I3, r3, k, e, q3⟩ => ?_) hm
  subst e
  cases r3
  exact wpAny_truthy_bool ⟨H3, I3, q3⟩
def tChain (r r' : R2) (ta tb tc : TE) : TE := fun σ H Q => ta σ H fun x H1 => tb σ H1 fun y H2 => r x y H2 fun z H3 => ∃ k, z = .bl k ∧
  (if k = true then tc σ H3 fun w' H4 => r' y w' H4 Q else Q (.bl false) H3)
theorem pe_chain {op op' : CmpOp} {r r' : R2} (ho : OpR X (compareOp op) r) (ho' : OpR X (compareOp op') r') (ha : PE X a ta) (hb : PE X b tb) (hc : PE X c tc)
    (hm : lastMarks [op, op'] [b, c] = false := by with_unfolding_all rfl) : PE X (.Compare a [op, op'] [b, c] pos) (tChain r r' ta tb tc) := by
  intro pins s σ H Q I h
  refine Compare_chain (thn (ha pins s σ H _ I h) fun v s1 ⟨x, H1, I1, r1, q1⟩ => chain_link (thn (hb pins s1 σ H1 _ I1 q1) fun u s2 ⟨y, H2, I2, r2, q2⟩ =>
    thn (ho pins s2 σ H2 x y v u _ I2 r1 r2 q2) fun d s3 ⟨z, H3, I3, r3, k, e, q3⟩ => ?_)) hm
  subst e
  cases r3
  refine wpAny_truthy_bool ?_
  cases k with
  | false => exact ite_ff ⟨.bl false, H3, I3, rfl, q3⟩
  | true => exact ite_tt (chain_last (thn (hc pins s3 σ H3 _ I3 q3) fun w' s4 ⟨z', H4, I4, r4, q4⟩ => ho' pins s4 σ H4 y z' u w' Q I4 r2 r4 q4))
theorem pt_chain {op op' : CmpOp} {r r' : R2} (ho : OpR X (compareOp op) r) (ho' : OpR X (compareOp op') r') (ha : PE X a ta) (hb : PE X b tb) (hc : PE X c tc)
    (hm : lastMarks [op, op'] [b, c] = false := by with_unfolding_all rfl) : PT X (.Compare a [op, op'] [b, c] pos) (tTest (tChain r r' ta tb tc)) := by
  intro pins s σ H Q I h
  refine isTrue_chain (thn (ha pins s σ H _ I h) fun v s1 ⟨x, H1, I1, r1, q1⟩ => test_link (thn (hb pins s1 σ H1 _ I1 q1) fun u s2 ⟨y, H2, I2, r2, q2⟩ =>
    thn (ho pins s2 σ H2 x y v u _ I2 r1 r2 q2) fun d s3 ⟨z, H3, I3, r3, k, e, q3⟩ => ?_)) hm
  subst e
  cases r3
  refine wpAny_truthy_bool ?_
  cases k with
  | false =>
    obtain ⟨k', e', q'⟩ := q3
    cases e'
    exact ite_ff ⟨H3, I3, q'⟩
  | true =>
    refine ite_tt (test_last (thn (hc pins s3 σ H3 _ I3 q3) fun w' s4 ⟨z', H4, I4, r4, q4⟩ => thn (ho' pins s4 σ H4 y z' u w' _ I4 r2 r4 q4) fun d' s5 ⟨z2, H5, I5, r5, k2, e2, q5⟩ => ?_))
    subst e2
    cases r5
    exact wpAny_truthy_bool ⟨H5, I5, q5⟩
theorem line63 : (sizeLine : Nat) < 2 ^ 63 := by rw [sizeLine_eq]; decide
theorem op_add_str : OpR X (binaryOp .Add) (fun x y H Q => ∃ i j, x = .str i ∧ y = .str j ∧ i.length + j.length ≤ sizeLine ∧ Q (.str (i ++ j)) H) := by
  intro pins s σ H x y v u Q I rx ry h
  obtain ⟨i, j, rfl, rfl, hz, q⟩ := h
  obtain ⟨t, rfl⟩ := rx
  obtain ⟨t', rfl⟩ := ry
  exact add_str (fun t' tk => ⟨.str (i ++ j), H, I.tok _, ⟨_, rfl⟩, q⟩) hz
theorem vals1 {x : V} {us : List Value} (r : Vals [x] us) : ∃ u, us = [u] ∧ RelV x u := by
  cases r with
  | cons r1 r2 => cases r2; exact ⟨_, rfl, r1⟩
theorem vals2 {x y : V} {us : List Value} (r : Vals [x, y] us) : ∃ u w', us = [u, w'] ∧ RelV x u ∧ RelV y w' := by
  cases r with
  | cons r1 r2 =>
    cases r2 with
    | cons r3 r4 => cases r4; exact ⟨_, _, rfl, r1, r3⟩
theorem call_abs : CallR X (.builtin "abs") (fun xs H Q => ∃ i, xs = [.int i] ∧ Q (.int (if i < 0 then -i else i)) H) := by
  intro pins s σ H xs us Q I r h
  obtain ⟨i, rfl, q⟩ := h
  obtain ⟨u, rfl, t, rfl⟩ := vals1 r
  exact call_abs_int fun u tk => ⟨.int (if i < 0 then -i else i), H, I.tok _, ⟨_, rfl⟩, q⟩
theorem call_int1 : CallR X (.type "int") (fun xs H Q => (∃ i, xs = [.int i] ∧ Q (.int i) H) ∨ ∃ k, xs = [.bl k] ∧ Q (.int (if k then 1 else 0)) H) := by
  intro pins s σ H xs us Q I r h
  rcases h with ⟨i, rfl, q⟩ | ⟨k, rfl, q⟩
  · obtain ⟨u, rfl, t, rfl⟩ := vals1 r
    exact call_int_int ⟨.int i, H, I, ⟨_, rfl⟩, q⟩
  · obtain ⟨u, rfl, r1⟩ := vals1 r
    cases r1
    exact call_int_bool ⟨.int (if k then 1 else 0), H, I.tok _, ⟨_, rfl⟩, q⟩
end
end L2
namespace L2
open PySem PySem.Spec PyProof.Rows
structure ObjM (h : Heap) (x dx C : Addr) (mA : Str → Option Value) : Prop where
  obj : h.get? x = some (PySem.W.instObj C dx)
  ns : h.Ns1 dx mA
  ne : dx ≠ x
theorem lookIn_ns {h : Heap} {dx : Addr} {mA : Str → Option Value} (n : h.Ns1 dx mA) : ∃ od, h.get? dx = some od ∧ ∀ name, PySem.W.lookIn name od = some (mA name) := by
  obtain ⟨o, es, ep, ho, hd, hk, _, hm⟩ := n
  refine ⟨o, ho, fun name => ?_⟩
  have e := hm name
  unfold nsFind findBy at e
  rw [← Array.find?_toList] at e
  unfold PySem.W.lookIn
  rw [hd]
  dsimp only
  split
  · rename_i y q
    rw [q] at e
    exact congrArg some e
  · rename_i q
    rw [q] at e
    have a : es.toList.any (·.refKey) = false := by
      rw [List.any_eq_false]
      intro y hy
      obtain ⟨z, t, hkey⟩ := hk y (Array.mem_toList_iff.mp hy)
      simp [DictEntry.refKey, hkey]
    have a' : ¬ es.toList.any (·.refKey) = true := by rw [a]; exact Bool.false_ne_true
    rw [if_neg a']
    exact congrArg some e
theorem ObjM.look {h : Heap} {x dx C : Addr} {mA : Str → Option Value} (I : ObjM h x dx C mA) : ∃ od, PySem.W.InstAt h x (PySem.W.instObj C dx) C (some od) ∧ ∀ name, PySem.W.lookIn name od = some (mA name) :=
  let ⟨od, ho, hl⟩ := lookIn_ns I.ns
  ⟨od, ⟨I.obj, rfl, rfl, ho⟩, hl⟩
section
variable {prog : Program} {w : World} {A : Around} {E : Value → Shared → Prop} {s : Shared} {K : PySem.W.Frag} {x dx C f : Addr} {mA : Str → Option Value} {name : Str} {v : Value}
end
section
variable {P : Program} {w : World} {H H' : Hp} {h h' : Heap} {a C dx : Addr} {fs fs' : List (Str × V)}
theorem ins_get (hok : HOk P w H h) (e : H a = some (.ins C dx fs)) : ∃ mA, ObjM h a dx C mA ∧ (∀ f, RelO (fs.lookup f) (mA f)) ∧ PySem.Within mA (fs.map (·.1)) ∧ fs.length ≤ 1000 ∧ H dx = some (.own a) := by
  obtain ⟨d, z, ne, ob, mA, n, r, q⟩ := (show ObjOk P w H h a (.ins C dx fs) from hok a _ e)
  exact ⟨mA, ⟨ob, n, ne⟩, r, q, z, d⟩
end
structure Cls (K : PySem.W.Frag) (C : Addr) : Prop where
  pg : PySem.W.plainGet K C Str.empty = true
  hd : PySem.W.hasDictIn K C = true
  po : PySem.W.plainOver K C = true
  sa : PySem.W.findIn K (.ref C) "__setattr__" = some (some (.builtin "object.__setattr__"))
theorem Cls.get {K : PySem.W.Frag} {C : Addr} (c : Cls K C) (f : Str) : PySem.W.plainGet K C f = true := c.pg
section
variable {X : Cx} {pins : List (Addr × Obj)} {σ : St} {H : Hp} {s : Shared} {a C dx : Addr} {fs : List (Str × V)} {f : Str} {v : V} {A : Around} {E : Value → Shared → Prop}
end
section
variable {X : Cx} {o e value : Expr} {f : Str} {pos pos' tpos : Pos} {ta tv : TE}
end
section
variable {X : Cx} {pins : List (Addr × Obj)} {σ : St} {H : Hp} {s : Shared} {A : Around} {E : Value → Shared → Prop} {Q : Value → Shared → Prop} {c : Value} {b : Bool}
inductive TyOf (K : PySem.W.Frag) (H : Hp) : V → Value → Prop where
  | non : TyOf K H .non (.type "NoneType")
  | bl (x : Bool) : TyOf K H (.bl x) (.type "bool")
  | int (i : Int) : TyOf K H (.int i) (.type "int")
  | str (x : Str) : TyOf K H (.str x) (.type "str")
  | flt (x : UInt64) : TyOf K H (.flt x) (.type "float")
  | lst {a : Addr} {xs : List V} (e : H a = some (.lst xs)) : TyOf K H (.ref a) (.type "list")
  | frz {a : Addr} {o : Obj} {xs : List V} (e : H a = some (.frz o (.lst xs))) : TyOf K H (.ref a) (.type "list")
  | tup {a : Addr} {xs : List V} (e : H a = some (.tup xs)) : TyOf K H (.ref a) (.type "tuple")
  | dK {a : Addr} {kvs : List (Key × V)} (e : H a = some (.dK kvs)) : TyOf K H (.ref a) (.type "dict")
  | dT {a : Addr} {kvs : List (List Key × V)} (e : H a = some (.dT kvs)) : TyOf K H (.ref a) (.type "dict")
  | ins {a C dx : Addr} {fs : List (Str × V)} (e : H a = some (.ins C dx fs)) (cl : Cls K C) (ha : PySem.W.findIn K (.ref C) "__class__" = some (some (.builtin "object.__class__")))
      (hn : PySem.W.specialIn K (.builtin "object.__class__") "__get__" = some (some (.builtin "getset_descriptor.__get__"))) (htk : PySem.W.takesIn K (.builtin "object.__class__") = some true)
      (hm : PySem.W.mroIn K C (.type "object") = some true) : TyOf K H (.ref a) (.ref C)
theorem isinst_ok {x : V} {u t : Value} (I : Inv X pins σ H s) (rx : RelV x u) (ty : TyOf X.K H x t) (e : PySem.W.kitOne X.K t c = some b) (h : ∀ tk, Q (.bool b) { s with toks := tk }) :
    wpAny (model X.prog X.w) A (call (.builtin "isinstance") [u, c]) Q E s := by
  cases ty with
  | non => cases (show u = Value.none from rx); exact PySem.W.kia_one PySem.W.kitx_none I.kIn True.intro e (fun z => nomatch z) h
  | bl y => cases (show u = Value.bool y from rx); exact PySem.W.kia_one PySem.W.kitx_bool I.kIn True.intro e (fun z => nomatch z) h
  | int i => obtain ⟨t, q⟩ := (show ∃ t, u = Value.int i t from rx); cases q; exact PySem.W.kia_one PySem.W.kitx_int I.kIn True.intro e (fun z => nomatch z) h
  | str y => obtain ⟨t, q⟩ := (show ∃ t, u = Value.str y t from rx); cases q; exact PySem.W.kia_one PySem.W.kitx_str I.kIn True.intro e (fun z => nomatch z) h
  | flt y => obtain ⟨t, q⟩ := (show ∃ t, u = Value.float y t from rx); cases q; exact PySem.W.kia_one PySem.W.kitx_float I.kIn True.intro e (fun z => nomatch z) h
  | @lst a xs ea =>
    cases (show u = Value.ref a from rx)
    obtain ⟨_, _, n, _, h1⟩ := (show ObjOk X.prog X.w H s.heap a (.lst xs) from I.hok a _ ea)
    exact PySem.W.kia_one PySem.W.kitx_list I.kIn ⟨_, h1, rfl⟩ e (fun z => nomatch z) h
  | @frz a ob xs ea =>
    cases (show u = Value.ref a from rx)
    obtain ⟨_, _, _, n, _, h1⟩ := (show ObjOk X.prog X.w H s.heap a (.frz ob (.lst xs)) from I.hok a _ ea)
    exact PySem.W.kia_one PySem.W.kitx_list I.kIn ⟨_, h1, rfl⟩ e (fun z => nomatch z) h
  | @tup a xs ea =>
    cases (show u = Value.ref a from rx)
    obtain ⟨_, _, _, p⟩ := (show ObjOk X.prog X.w H s.heap a (.tup xs) from I.hok a _ ea)
    obtain ⟨o, h1, h2, _⟩ := p
    exact PySem.W.kia_one PySem.W.kitx_tuple I.kIn ⟨o, h1, h2⟩ e (fun z => nomatch z) h
  | @dK a kvs ea =>
    cases (show u = Value.ref a from rx)
    obtain ⟨_, _, vs, _, p⟩ := (show ObjOk X.prog X.w H s.heap a (.dK kvs) from I.hok a _ ea)
    obtain ⟨o, es, ep, h1, h2, _⟩ := p
    exact PySem.W.kia_one PySem.W.kitx_dict I.kIn ⟨o, h1, h2.1⟩ e (fun z => nomatch z) h
  | @dT a kvs ea =>
    cases (show u = Value.ref a from rx)
    obtain ⟨_, _, xs, _, o, es, ep, h1, h2, _⟩ := (show ObjOk X.prog X.w H s.heap a (.dT kvs) from I.hok a _ ea)
    exact PySem.W.kia_one PySem.W.kitx_dict I.kIn ⟨o, h1, h2.1⟩ e (fun z => nomatch z) h
  | @ins a C dx fs ea cl ha hn htk hm =>
    cases (show u = Value.ref a from rx)
    obtain ⟨mA, O, _⟩ := ins_get I.hok ea
    obtain ⟨od, J, _⟩ := O.look
    exact PySem.W.kia_one (PySem.W.kitx_own (cl.get _) cl.hd ha hn htk hm) I.kIn J e (fun z => nomatch z) h
end
end L2
namespace L2
open PySem PySem.Spec PyProof.Rows
structure Room (k : Nat) (A : Around) : Prop where
  hd : A.handled = none
  dp : A.depth + 3 * k + 5 < recursionLimit
  un : A.units + 16 * k + 200 < cLine
theorem Room.mono {j k : Nat} {A : Around} (r : Room k A) (h : j ≤ k) : Room j A := ⟨r.hd, by have := r.dp; omega, by have := r.un; omega⟩
theorem Room.deeper {k : Nat} {A : Around} (r : Room (k + 1) A) (env : Env) : Room k (A.deeper env) :=
  ⟨r.hd, by have := r.dp; show A.depth + 1 + 3 * k + 5 < _; omega, by have := r.un; show A.units + 3 + 16 * k + 200 < _; omega⟩
theorem Room.depth {k : Nat} {A : Around} (r : Room k A) : A.depth < recursionLimit := by have := r.dp; omega
theorem Room.units {k : Nat} {A : Around} (r : Room k A) : A.units + 64 < cLine := by have := r.un; omega
def tNil : TA := fun _ H Q => Q [] H
def tCons (ta : TE) (tr : TA) : TA := fun σ H Q => ta σ H fun x H1 => tr σ H1 fun xs H2 => Q (x :: xs) H2
section
variable {X : Cx} {e : Expr} {es : List Expr} {te : TE} {t : TA} {pos : Pos}
theorem pa_nil : PA X [] tNil := fun _ _ _ _ H Q I h => Calls.spliced_nil ⟨[], H, I, .nil, h⟩
theorem pa_cons (ha : PE X e te) (hr : PA X es t) (hs : starEach (e :: es) X.env = (false, eval e X.env) :: starEach es X.env := by rfl) : PA X (e :: es) (tCons te t) := by
  intro pos pins s σ H Q I h
  rw [hs]
  show wpAny _ _ (spliced ((false, eval e X.env) :: backTo pos (starEach es X.env))) _ _ s
  refine Calls.spliced_cons (thn (ha pins s σ H _ I h) fun u s1 ⟨x, H1, I1, r1, q1⟩ => ?_)
  exact thn (hr pos pins s1 σ H1 _ I1 q1) fun us s2 ⟨xs, H2, I2, r2, q2⟩ => ⟨x :: xs, H2, I2, .cons r1 r2, q2⟩
def tTup (t : TA) : TE := fun σ H Q => t σ H fun xs H1 => xs.length ≤ sizeLine ∧ ∀ p, H1 p = none → Q (.ref p) (upd H1 p (.tup xs))
def tLst (t : TA) : TE := fun σ H Q => t σ H fun xs H1 => xs.length ≤ sizeLine ∧ ∀ p, H1 p = none → Q (.ref p) (upd H1 p (.lst xs))
theorem pe_tup {x1} (h : PA X es t) : PE X (.Tuple es x1 pos) (tTup t) := by
  intro pins s σ H Q I hq
  refine wpAny_Tuple_spliced (thn (h pos pins s σ H _ I hq) fun us s1 ⟨xs, H1, I1, r, z, q⟩ => ⟨by rw [← r.length]; exact z, ?_⟩)
  have hf : H1 s1.heap.objs.size = none := I1.hok.fresh (Nat.le_refl _)
  refine ⟨.ref s1.heap.objs.size, upd H1 s1.heap.objs.size (.tup xs), I1.laid (t' := s1.toks) (fun b u e => Heap.get?_push_of_some _ e) (Nat.le_refl _) ?_, rfl, q _ hf⟩
  exact ⟨z, us, r, ⟨_, Heap.get?_push_size _ rfl, rfl, _, rfl⟩⟩
theorem pe_lst (h : PA X es t) : PE X (.List es pos) (tLst t) := by
  intro pins s σ H Q I hq
  refine wpAny_List_spliced (thn (h pos pins s σ H _ I hq) fun us s1 ⟨xs, H1, I1, r, z, q⟩ => ⟨by rw [← r.length]; exact z, ?_⟩)
  have hf : H1 s1.heap.objs.size = none := I1.hok.fresh (Nat.le_refl _)
  refine ⟨.ref s1.heap.objs.size, upd H1 s1.heap.objs.size (.lst xs), I1.laid (t' := s1.toks) (fun b u e => Heap.get?_push_of_some _ e) (Nat.le_refl _) ?_, rfl, q _ hf⟩
  exact ⟨z, us, 0, r, Heap.get?_push_size _ rfl⟩
end
abbrev Sp := List V → Hp → VK → XK → Prop
abbrev CXT := List Env → Hp → Shared → XK → Value → Shared → Prop
structure Env0 (P : Program) (w : World) (K : PySem.W.Frag) (mg : Str → Option Value) (base : Heap) (A : Around) (outer : List Env) (s : Shared) (H : Hp) : Prop where
  frames : A.frames = some outer
  mod : Mod K mg base
  bs : ∀ b o, base.get? b = some o → s.heap.get? b = some o ∧ H b = none
  bsz : base.objs.size ≤ s.heap.objs.size
  funs : s.heap.FunFrames base outer
  frf : ∀ b ∈ frs outer, H b = none
  hok : HOk P w H s.heap
  bare : AllBare s.gens
def CE (outer : List Env) (P : Program) (w : World) (H : Hp) (s : Shared) (Q : VK) (u : Value) (s' : Shared) : Prop :=
  ∃ v H', s'.os = s.os ∧ AllBare s'.gens ∧ Un (frs outer) [] H H' s.heap s'.heap ∧ HOk P w H' s'.heap ∧ RelV v u ∧ Q v H'
def CR (CX : CXT) (outer : List Env) (P : Program) (w : World) (H : Hp) (s : Shared) (Q : VK) (E : XK) (r : Result) (s' : Shared) : Prop :=
  match r with
  | .ok (.ret u) => CE outer P w H s Q u s'
  | .ok _ => False
  | .error e => CX outer H s E e s'
structure FnOk (P : Program) (w : World) (K : PySem.W.Frag) (mg : Str → Option Value) (base : Heap) (CX : CXT) (k : Nat) (f : Addr) (fd : FuncData) (ps : List Str) (sp : Sp) : Prop where
  len : ∀ vs H Q E, sp vs H Q E → vs.length = ps.length
  run : ∀ (A : Around) (outer : List Env) (s : Shared) (H : Hp) (args : Args) (us : List Value) (vs : List V) (Q : VK) (E : XK), Room k A → Env0 P w K mg base A outer s H → BindsTo s fd args (ps.zip us) → Vals vs us → sp vs H Q E →
    codeAny (model P w) A (.call (.ref f) args) (CR CX outer P w H s Q E) s
theorem FnOk.mono {P : Program} {w : World} {K : PySem.W.Frag} {mg : Str → Option Value} {base : Heap} {CX : CXT} {j k : Nat} {f : Addr} {fd : FuncData} {ps : List Str} {sp : Sp} (F : FnOk P w K mg base CX j f fd ps sp) (h : j ≤ k) :
    FnOk P w K mg base CX k f fd ps sp := ⟨F.len, fun A outer s H args us vs Q E hr => F.run A outer s H args us vs Q E (hr.mono h)⟩
section
variable {X : Cx} {pins : List (Addr × Obj)} {σ : St} {H : Hp} {s s' : Shared}
theorem Inv.env0 (I : Inv X pins σ H s) : Env0 X.prog X.w X.K X.mg X.base X.A X.stack s H :=
  ⟨I.ok.frames, I.ok.mod, I.bs, Nat.le_trans I.ok.bsz I.sz, I.stack, I.stkFree, I.hok, I.bare⟩
theorem Inv.after {Q : VK} {u : Value} (I : Inv X pins σ H s) (h : CE X.stack X.prog X.w H s Q u s') : EP X pins σ Q u s' := by
  obtain ⟨v, H', os, bare, un, hok, r, q⟩ := h
  obtain ⟨hh, g, d, t, os'⟩ := s'
  obtain rfl : os' = s.os := os
  exact ⟨v, H', I.call (h' := hh) (g' := g) (d' := d) (t' := t) (ch := []) un hok bare (fun b z => absurd z (by simp)), r, q⟩
end
def tCall (sp : Sp) (dvs : List V) (E : XK) (t : TA) : TE := fun σ H Q => t σ H fun vs H1 => sp (vs ++ dvs) H1 Q E
def Binds (K : PySem.W.Frag) (fd : FuncData) (ps : List Str) (ds : List Value) : Prop :=
  ∀ (s : Shared) (us : List Value), K.In s.heap → (us ++ ds).length = ps.length → BindsTo s fd ⟨us, []⟩ (ps.zip (us ++ ds))
theorem Binds.all {K : PySem.W.Frag} {fd : FuncData} {ps : List Str} (h : ∀ us : List Value, us.length = ps.length → bindArgs fd ⟨us, []⟩ = pure (ps.zip us)) : Binds K fd ps [] := fun s us _ hl => by
  rw [List.append_nil] at hl ⊢
  exact .of_eq (h us hl)
def Passes (CX : CXT) (X : Cx) (E : XK) : Prop := ∀ (pins : List (Addr × Obj)) (σ : St) (H : Hp) (s : Shared) (e : Value) (s' : Shared), Inv X pins σ H s → CX X.stack H s E e s' → X.xe e s'
section
variable {X : Cx} {CX : CXT} {k : Nat} {f C : Addr} {fd : FuncData} {ps : List Str} {sp : Sp} {dvs : List V} {ds : List Value} {E : XK} {x m : Str} {p pos apos : Pos} {e o : Expr} {es : List Expr} {ta : TE} {t : TA}
theorem run_fn {pins : List (Addr × Obj)} {σ : St} {H : Hp} {s : Shared} {Q : VK} {us : List Value} {vs : List V} (F : FnOk X.prog X.w X.K X.mg X.base CX k f fd ps sp) (hr : Room k X.A) (hb : Binds X.K fd ps ds) (hd : Vals dvs ds) (hx : Passes CX X E)
    (I : Inv X pins σ H s) (r : Vals vs us) (h : sp (vs ++ dvs) H Q E) : wpAny (model X.prog X.w) X.A (call (.ref f) us) (EP X pins σ Q) X.xe s := by
  have r2 : Vals (vs ++ dvs) (us ++ ds) := r.append hd
  have hl : (us ++ ds).length = ps.length := by rw [← r2.length]; exact F.len _ _ _ _ h
  refine wpAny_call (codeAny_mono (F.run X.A X.stack s H ⟨us, []⟩ (us ++ ds) (vs ++ dvs) Q E hr I.env0 (hb s us I.kIn hl) r2 h) fun r s' hq => ?_)
  cases r with
  | error e => exact hx pins σ H s e s' I hq
  | ok fl =>
    cases fl with
    | ret u => exact I.after hq
    | next => exact False.elim hq
    | brk => exact False.elim hq
    | cont => exact False.elim hq
theorem pe_call (F : FnOk X.prog X.w X.K X.mg X.base CX k f fd ps sp) (hr : Room k X.A) (hg : Gl X x) (hm : X.mg x = some (.ref f)) (hk : PySem.W.keepIn X.K (.ref f) = true) (hb : Binds X.K fd ps ds) (hd : Vals dvs ds) (hx : Passes CX X E)
    (ha : PA X (e :: es) t) (hdb : (x == ("__debug__" : Str)) = false := by decide) (he : starEach (e :: es) X.env = (false, eval e X.env) :: starEach es X.env := by rfl) (hpl : (backTo pos (starEach es X.env)).any (·.1) = false := by rfl) :
    PE X (.Call (.Name x p) (e :: es) [] pos) (tCall sp dvs E t) := by
  intro pins s σ H Q I h
  refine wpAny_Call_Name_kw (ld_glob I hg hm ?_ hdb)
  refine PySem.W.callWith_K (h₀ := X.base) I.ok.mod.kin hk (thn (ha pos pins s σ H _ I h) fun us s1 ⟨vs, H1, I1, r, q⟩ => ⟨I1.kIn, ?_⟩) he hpl
  exact run_fn F hr hb hd hx I1 r q
end
section
variable {X : Cx} {CX : CXT} {k : Nat} {f C : Addr} {fd : FuncData} {ps ks : List Str} {sp : Sp} {E : XK} {x m : Str} {p pos apos kpos : Pos} {e o : Expr} {es : List Expr} {kws : List Keyword} {te ta : TE} {t tk : TA} {nm : Option Str}
variable {g : List Value → List Value → List Value} {gV : List V → List V → List V}
end
structure FnScope (N P : List Str) (sc : Scope) : Prop where
  kind : sc.kind = .function
  co : sc.isCoroutine = false
  gen : sc.isGenerator = false
  nd : N.Nodup
  pre : N.take P.length = P
  par : ∀ x ∈ P, sc.names.lookup x = some .local ∨ sc.names.lookup x = some .cell
  nofree : ∀ y ∈ sc.names, y.2 ≠ .free
theorem bindL_out {kindOf : Str → Option NameKind} {x : Str} : ∀ {binds : List (Str × Value)} {m : Str → Option Value}, (∀ v, (x, v) ∉ binds) → bindL kindOf binds m x = m x
  | [], _, _ => rfl
  | (n, v) :: r, m, h => by
    unfold bindL
    rw [bindL_out fun w hw => h w (List.mem_cons_of_mem _ hw)]
    split
    · have : x ≠ n := by rintro rfl; exact h v List.mem_cons_self
      simp [this]
    · rfl
theorem bindC_out {kindOf : Str → Option NameKind} {x : Str} : ∀ {binds : List (Str × Value)} {m : Str → Option Value}, (∀ v, (x, v) ∉ binds) → bindC kindOf binds m x = m x
  | [], _, _ => rfl
  | (n, v) :: r, m, h => by
    unfold bindC
    rw [bindC_out fun w hw => h w (List.mem_cons_of_mem _ hw)]
    split
    · rfl
    · have : x ≠ n := by rintro rfl; exact h v List.mem_cons_self
      simp [this]
theorem bindL_get {kindOf : Str → Option NameKind} {x : Str} {v : Value} : ∀ {P : List Str} {vs : List Value} {i : Nat} {m : Str → Option Value}, P.Nodup → P[i]? = some x → vs[i]? = some v → kindOf x = some .local →
    bindL kindOf (P.zip vs) m x = some v
  | [], _, _, _, _, h, _, _ => by simp at h
  | _ :: _, [], _, _, _, _, h, _ => by simp at h
  | p :: P, w :: vs, 0, m, nd, h1, h2, hk => by
    simp at h1 h2; subst h1; subst h2
    show bindL kindOf ((p, w) :: P.zip vs) m p = _
    unfold bindL
    rw [bindL_out fun v hv => (List.nodup_cons.mp nd).1 (List.of_mem_zip hv).1, if_pos hk]
    simp
  | p :: P, w :: vs, i + 1, m, nd, h1, h2, hk => by
    show bindL kindOf ((p, w) :: P.zip vs) m x = _
    unfold bindL
    exact bindL_get (i := i) (List.nodup_cons.mp nd).2 (by simpa using h1) (by simpa using h2) hk
theorem bindC_get {kindOf : Str → Option NameKind} {x : Str} {v : Value} : ∀ {P : List Str} {vs : List Value} {i : Nat} {m : Str → Option Value}, P.Nodup → P[i]? = some x → vs[i]? = some v → kindOf x ≠ some .local →
    bindC kindOf (P.zip vs) m x = some v
  | [], _, _, _, _, h, _, _ => by simp at h
  | _ :: _, [], _, _, _, _, h, _ => by simp at h
  | p :: P, w :: vs, 0, m, nd, h1, h2, hk => by
    simp at h1 h2; subst h1; subst h2
    show bindC kindOf ((p, w) :: P.zip vs) m p = _
    unfold bindC
    rw [bindC_out fun v hv => (List.nodup_cons.mp nd).1 (List.of_mem_zip hv).1, if_neg hk]
    simp
  | p :: P, w :: vs, i + 1, m, nd, h1, h2, hk => by
    show bindC kindOf ((p, w) :: P.zip vs) m x = _
    unfold bindC
    exact bindC_get (i := i) (List.nodup_cons.mp nd).2 (by simpa using h1) (by simpa using h2) hk
def start (N : List Str) (vs : List V) : St := vs.map some ++ List.replicate (N.length - vs.length) none
def cxOf (CX : CXT) (P : Program) (w : World) (K : PySem.W.Frag) (mg : Str → Option Value) (base : Heap) (N : List Str) (qual : Str) (scope : Scope) (f : Addr) (cd : Value) (A : Around) (outer : List Env) (s : Shared) (H : Hp) (E : XK) : Cx where
  prog := P
  w := w
  K := K
  mg := mg
  base := base
  A := A.deeper (envOfC qual scope s.heap.objs.size f cd)
  N := N
  s₀ := s
  H₀ := H
  env := envOfC qual scope s.heap.objs.size f cd
  outer := outer
  stack := envOfC qual scope s.heap.objs.size f cd :: outer
  ex := []
  calm := true
  fn := fun _ => true
  pn := []
  xe := fun e s' => wpAny (model P w) (A.deeper (envOfC qual scope s.heap.objs.size f cd)) (leaving (envOfC qual scope s.heap.objs.size f cd) e) (fun _ s'' => CX outer H s E e s'') (fun e' s'' => CX outer H s E e' s'') s'
theorem cell_has {sc : Scope} {n : Nat} {x : Str} (h : sc.names.lookup x = some .cell) : ∃ c, (cellsFrom n sc.names []).lookup x = some c := by
  have q := PySem.W.cellsFrom_some sc.names n [] (.inl h)
  exact Option.isSome_iff_exists.mp q
theorem inv_start {CX : CXT} {P : Program} {w : World} {K : PySem.W.Frag} {mg : Str → Option Value} {base : Heap} {N ps : List Str} {qual : Str} {scope : Scope} {f : Addr} {cd : Value} {A : Around} {outer : List Env} {s s1 : Shared} {H : Hp} {E : XK} {us : List Value} {vs : List V}
    (S : FnScope N ps scope) (hd : A.handled = none) (e0 : Env0 P w K mg base A outer s H) (hl : vs.length = ps.length) (r : Vals vs us)
    (x : InCallC s s.heap.objs.size (bindL (envOfC qual scope s.heap.objs.size f cd).kindOf (ps.zip us) fun _ => none) (cellsFrom (s.heap.objs.size + 1) scope.names []) (bindC (envOfC qual scope s.heap.objs.size f cd).kindOf (ps.zip us) fun _ => none) s1) :
    Inv (cxOf CX P w K mg base N qual scope f cd A outer s H E) [] (start N vs) H s1 := by
  have hpl : ps.length ≤ N.length := by have := congrArg List.length S.pre; rw [List.length_take] at this; omega
  obtain ⟨h1, tk, rfl, hk⟩ := x.done
  have noA : ∀ b : Addr, b ∉ (cxOf CX P w K mg base N qual scope f cd A outer s H E).ex := fun b z => absurd (show b ∈ ([] : List Addr) from z) (by simp)
  refine ⟨⟨e0.mod, S.kind, rfl, rfl, Nat.le_refl _, fun y z c h1 h2 => ?_, fun y hy => ?_, fun y c _ h => ?_, fun _ => hd, Around.frames_deeper e0.frames, .inr ⟨rfl, rfl⟩, fun b z => absurd z (noA b), e0.bs, e0.bsz, fun b _ _ => noA b, fun b z => absurd z (noA b), e0.funs, e0.frf⟩,
    rfl, e0.bare, Un.kept hk, ⟨_, x.toInCall.ns, fun i y v h1 h2 h3 => ?_⟩, fun y c h => ⟨_, x.cell y c h⟩, e0.hok.fresh (Nat.le_refl _), fun y c h => ?_, fun p hp => absurd (show p ∈ ([] : List (Addr × Obj)) from hp) (by simp), e0.hok.kept hk, ?_⟩
  · exact name_of_addr x.apart (PySem.mem_of_lookup h1) (PySem.mem_of_lookup h2)
  · have hy : scope.names.lookup y = some .cell ∨ scope.names.lookup y = some .free := hy
    rcases hy with hy | hy
    · exact cell_has hy
    · exact absurd rfl (S.nofree _ (PySem.mem_of_lookup hy))
  · exact Nat.le_of_lt (x.above y c (PySem.mem_of_lookup h))
  · have hi : i < vs.length := by
      unfold start at h2
      by_cases hi : i < vs.length
      · exact hi
      · rw [List.getElem?_append_right (by simpa using hi)] at h2
        rw [List.getElem?_replicate] at h2
        split at h2 <;> cases h2
    have ha : vs[i]? = some v := by
      unfold start at h2
      rw [List.getElem?_append_left (by simpa using hi), List.getElem?_map] at h2
      cases e : vs[i]? with
      | none => rw [e] at h2; cases h2
      | some a => rw [e] at h2; cases h2; rfl
    obtain ⟨u, hu, rv⟩ := r.get ha
    have hp : ps[i]? = some y := by
      rw [← S.pre, List.getElem?_take_of_lt (by omega)]; exact h1
    have ndP : ps.Nodup := by rw [← S.pre]; exact S.nd.sublist (List.take_sublist _ _)
    refine ⟨u, rv, ?_⟩
    rcases S.par y (List.mem_of_getElem? hp) with k | k
    · exact .inl ⟨k, bindL_get ndP hp hu k⟩
    · obtain ⟨c, e⟩ := cell_has (n := s.heap.objs.size + 1) k
      refine .inr ⟨.inl k, c, e, ?_⟩
      have q := x.cell y c e
      rw [bindC_get ndP hp hu (by show scope.names.lookup y ≠ _; rw [k]; decide)] at q
      exact q
  · exact e0.hok.fresh (Nat.le_of_lt (x.above y c (PySem.mem_of_lookup h)))
  · unfold start
    show _ = N.length
    rw [List.length_append, List.length_map, List.length_replicate]
    omega
theorem fn_of {CX : CXT} {P : Program} {w : World} {K : PySem.W.Frag} {mg : Str → Option Value} {base : Heap} {k : Nat} {f : Addr} {name qual : Str} {params : Arguments} {body : List Stmt} {scope : Scope} {dV kV doc pm cdv ct oc : Value} {an od : Option Addr}
    {osl : Array (Option Value)} {N ps : List Str} {sp : Sp} (lk : K.lookup f = some ⟨oc, od, .func (PySem.W.fnOf name qual params body scope dV kV doc pm an cdv ct), osl⟩) (hcd : PySem.W.codeIn K cdv qual = true) (S : FnScope N ps scope)
    (len : ∀ vs H Q E, sp vs H Q E → vs.length = ps.length)
    (hbody : ∀ (A : Around) (outer : List Env) (s : Shared) (H : Hp) (vs : List V) (Q : VK) (E : XK), Room k (A.deeper (envOfC qual scope s.heap.objs.size f cdv)) → sp vs H Q E →
      ∃ t, PSs (cxOf CX P w K mg base N qual scope f cdv A outer s H E) body t ∧ t { nx := fun _ H' => Q .non H', rt := Q } (start N vs) H) :
    FnOk P w K mg base CX (k + 1) f (PySem.W.fnOf name qual params body scope dV kV doc pm an cdv ct) ps sp := by
  refine ⟨len, fun A outer s H args us vs Q E hr e0 hb r hsp => ?_⟩
  have hl := len _ _ _ _ hsp
  have KX : K.In s.heap := e0.mod.kin.keeps fun b o e => (e0.bs b o e).1
  have lim : s.heap.NoLimit := e0.mod.nolimit.keeps fun b o e => (e0.bs b o e).1
  have hkind : ∀ y ∈ ps.zip us, scope.names.lookup y.1 = some .local ∨ (scope.names.lookup y.1 = some .cell ∧ ((cellsFrom (s.heap.objs.size + 1) scope.names []).lookup y.1).isSome = true) := fun ⟨n, v⟩ hy => by
    rcases S.par n (List.of_mem_zip hy).1 with q | q
    · exact .inl q
    · exact .inr ⟨q, PySem.W.cellsFrom_some _ _ _ (.inl q)⟩
  refine codeAny_call_function hr.depth (KX _ _ lk) rfl S.co S.gen rfl (PySem.W.codeRec_of KX hcd) (hb _ _ _ _ ?_)
  refine wpAny_newFunctionEnv_cells S.kind hkind fun env he s1 x => ?_
  subst he
  refine ⟨lim.keeps x.toInCall.keep, codeAny_func ?_⟩
  obtain ⟨t, ht, hq⟩ := hbody A outer s H vs Q E (hr.deeper _) hsp
  have I : Inv (cxOf CX P w K mg base N qual scope f cdv A outer s H E) [] (start N vs) H s1 := inv_start S hr.hd e0 hl r x
  refine wpAny_mono (ht [] s1 (start N vs) H _ I hq) (fun fl s' hs => ?_) fun e s' hs => hs
  have fin : ∀ {σ' : St} {H' : Hp} {v : V} {u : Value}, Inv (cxOf CX P w K mg base N qual scope f cdv A outer s H E) [] σ' H' s' → RelV v u → Q v H' → CE outer P w H s Q u s' :=
    fun {σ' H' v u} J rv q => ⟨v, H', J.os, J.bare, J.base, J.hok, rv, q⟩
  cases fl with
  | ret u =>
    obtain ⟨v, σ', H', J, rv, q⟩ := hs
    exact fin J rv q
  | next =>
    obtain ⟨σ', H', J, q⟩ := hs
    exact fin (v := V.non) (u := Value.none) J rfl q
  | brk =>
    obtain ⟨_, _, _, q⟩ := hs
    exact False.elim q
  | cont =>
    obtain ⟨_, _, _, q⟩ := hs
    exact False.elim q
end L2
namespace L2
open PySem PySem.Spec PyProof.Rows
section
variable {X : Cx} {x : Str} {p pos : Pos} {e : Expr} {es : List Expr} {t : TA} {id T : String} {r : List V → Hp → VK → Prop}
def tCB (r : List V → Hp → VK → Prop) (t : TA) : TE := fun σ H Q => t σ H fun vs H1 => r vs H1 Q
theorem pe_callB (hc : CallR X (.builtin id) r) (hg : Gl X x) (hm : X.mg x = none) (hv : bootBuiltins x = some (.builtin id)) (ha : PA X (e :: es) t) (hn : x ≠ "__name__" := by decide) (hdb : (x == ("__debug__" : Str)) = false := by decide)
    (he : starEach (e :: es) X.env = (false, eval e X.env) :: starEach es X.env := by rfl) (hpl : (backTo pos (starEach es X.env)).any (·.1) = false := by rfl) : PE X (.Call (.Name x p) (e :: es) [] pos) (tCB r t) := by
  intro pins s σ H Q I h
  refine wpAny_Call_Name_kw (ld_blt I hg hm hv ?_ hn hdb)
  exact PyProof.Rows.callWith_builtin1 (thn (ha pos pins s σ H _ I h) fun us s1 ⟨vs, H1, I1, r1, q1⟩ => hc pins s1 σ H1 vs us Q I1 r1 q1) he hpl
theorem pe_callTy (hc : CallR X (.type T) r) (hg : Gl X x) (hm : X.mg x = none) (hv : bootBuiltins x = some (.type T)) (ha : PA X (e :: es) t) (hn : x ≠ "__name__" := by decide) (hdb : (x == ("__debug__" : Str)) = false := by decide)
    (he : starEach (e :: es) X.env = (false, eval e X.env) :: starEach es X.env := by rfl) (hpl : (backTo pos (starEach es X.env)).any (·.1) = false := by rfl) : PE X (.Call (.Name x p) (e :: es) [] pos) (tCB r t) := by
  intro pins s σ H Q I h
  refine wpAny_Call_Name_kw (ld_blt I hg hm hv ?_ hn hdb)
  exact PyProof.Rows.callWith_type1 (thn (ha pos pins s σ H _ I h) fun us s1 ⟨vs, H1, I1, r1, q1⟩ => hc pins s1 σ H1 vs us Q I1 r1 q1) he hpl
end
end L2
namespace HT
open PySem PyProof.Rows
section
open PySem.SeqAt
open PySem.AutoSeq1 (wpAny_loadPart')
open PySem.MeetsSeq PySem.MeetsSeq2 PySem.MeetsSeq3
end
section
variable {prog : Program} {w : World} {A : Around} {E : Value → Shared → Prop} {s : Shared}
def sIx (n d : Nat) : Option Int → Nat
  | none => d
  | some v => if v < 0 then (v + (n : Int)).toNat else min v.toNat n
theorem sIx_le (n d : Nat) (hd : d ≤ n) (o : Option Int) : sIx n d o ≤ n := by
  cases o with
  | none => exact hd
  | some v =>
    show (if v < 0 then (v + (n : Int)).toNat else min v.toNat n) ≤ n
    by_cases hv : v < 0
    · rw [if_pos hv]; omega
    · rw [if_neg hv]; exact Nat.min_le_right _ _
theorem clip_eq (v : Int) (n d : Nat) : (if v < 0 then max (v + (n : Int)) 0 else min v (n : Int)) = ((sIx n d (some v) : Nat) : Int) := by
  show (if v < 0 then max (v + (n : Int)) 0 else min v (n : Int)) = (((if v < 0 then (v + (n : Int)).toNat else min v.toNat n) : Nat) : Int)
  by_cases hv : v < 0
  · simp only [if_pos hv]; omega
  · simp only [if_neg hv]; omega
theorem adjust_gen (lo hi : Option Int) (n : Nat) : Builtin.Slice.sliceAdjust lo hi 1 (n : Int) = (((sIx n 0 lo : Nat) : Int), ((sIx n n hi : Nat) : Int)) := by
  have h1 : ¬ ((1 : Int) < 0) := by omega
  unfold Builtin.Slice.sliceAdjust
  simp only [h1, if_false]
  refine Prod.ext ?_ ?_
  · cases lo with
    | none => rfl
    | some v => exact clip_eq v n 0
  · cases hi with
    | none => rfl
    | some v => exact clip_eq v n n
theorem places_gen (i j : Nat) : Builtin.Slice.slicePlaces (i : Int) (j : Int) 1 = j - i := by
  unfold Builtin.Slice.slicePlaces
  have h1 : (1 : Int) > 0 := by omega
  simp only [h1, if_true, Int.ediv_one]
  split <;> omega
theorem slicePart_ {v : Value} {o : Option Int} {Q : Option Int → Shared → Prop} (p : IsPart v o) (h : Q o s) : wpAny (model prog w) A (Builtin.Slice.slicePartIndex v) Q E s := by
  cases p with
  | none => exact slicePart_none h
  | int i t => exact slicePart_int h
theorem sliceApplied_gen {sl : Addr} {vl vu : Value} {lo hi : Option Int} {n : Nat} {Q : Int × Int × Nat → Shared → Prop} (hs : s.heap.IsSliceOf sl vl vu .none) (pl : IsPart vl lo) (pu : IsPart vu hi)
    (h : Q (((sIx n 0 lo : Nat) : Int), 1, sIx n n hi - sIx n 0 lo) s) : wpAny (model prog w) A (Builtin.Slice.sliceApplied (.ref sl) (pure (n : Int))) Q E s := by
  obtain ⟨os, hos, hcs, hds⟩ := id hs
  unfold Builtin.Slice.sliceApplied Builtin.Slice.sliceFields
  refine wpAny_bind (wpAny_bind (wpAny_field hos hds (x := vl) rfl (wpAny_bind (wpAny_field hos hds (x := vu) rfl (wpAny_bind (wpAny_field hos hds (x := .none) rfl (wpAny_pure ?_)))))))
  refine wpAny_bind (slicePart_none ?_)
  show wpAny _ _ (if ((1 : Int) == 0) = true then _ else _) _ _ s
  rw [if_neg (by decide)]
  refine wpAny_bind (slicePart_ pl (wpAny_bind (slicePart_ pu (wpAny_bind (wpAny_pure ?_)))))
  show wpAny _ _ (match Builtin.Slice.sliceAdjust lo hi 1 (n : Int) with | (lo, hi) => pure (lo, (1 : Int), Builtin.Slice.slicePlaces lo hi 1)) _ _ s
  rw [adjust_gen lo hi n]
  show wpAny _ _ (pure (((sIx n 0 lo : Nat) : Int), (1 : Int), Builtin.Slice.slicePlaces ((sIx n 0 lo : Nat) : Int) ((sIx n n hi : Nat) : Int) 1)) _ _ s
  rw [places_gen]
  exact wpAny_pure h
theorem pick_gen (xs : Array Value) (i k : Nat) : ((List.range k).filterMap fun (m : Nat) => xs[((i : Int) + (m : Int) * 1).toNat]?).toArray = ((xs.toList.drop i).take k).toArray := by
  have e : (fun (m : Nat) => xs[((i : Int) + (m : Int) * 1).toNat]?) = fun m => xs[i + m]? := by
    funext m
    have : ((i : Int) + (m : Int) * 1).toNat = i + m := by omega
    rw [this]
  rw [e]
  have := pick_run xs i k
  rw [List.filterMap_map] at this
  have e2 : ((fun x => xs[x]?) ∘ fun x => i + x) = fun m => xs[i + m]? := rfl
  rw [e2] at this
  rw [this]
theorem getItem_tuple_cut {t sl : Addr} {items : Array Value} {vl vu : Value} {lo hi : Option Int} {Q : Value → Shared → Prop} (ht : IsTup s.heap t items) (hs : s.heap.IsSliceOf sl vl vu .none) (pl : IsPart vl lo) (pu : IsPart vu hi)
    (hw : ¬ (sIx items.size 0 lo = 0 ∧ sIx items.size items.size hi = items.size))
    (h : Q (.ref s.heap.objs.size) { s with heap := s.heap.push { cls := .type "tuple", data := .seq ((items.toList.drop (sIx items.size 0 lo)).take (sIx items.size items.size hi - sIx items.size 0 lo)).toArray } })
    (hsz : items.size ≤ sizeLine) : wpAny (model prog w) A (getItem (.ref t) (.ref sl)) Q E s := by
  have htake : sizeOk (.seq ((items.toList.drop (sIx items.size 0 lo)).take (sIx items.size items.size hi - sIx items.size 0 lo)).toArray) := by
    show ((items.toList.drop (sIx items.size 0 lo)).take (sIx items.size items.size hi - sIx items.size 0 lo)).toArray.size ≤ sizeLine
    rw [List.size_toArray, List.length_take, List.length_drop, Array.length_toList]
    omega
  have hj : sIx items.size items.size hi ≤ items.size := sIx_le _ _ (Nat.le_refl _) hi
  obtain ⟨os, hos, hcs, hds⟩ := id hs
  have hTs : s.TypeIs (.ref sl) "slice" := ⟨os, hos, hcs⟩
  unfold getItem
  try with_reducible refine wpAny_holding ?_
  first | refine wpAny_bind (wpAny_pure ?_) | skip
  refine wpAny_bind (wpAny_sequenceKey ht.typeIs (by decide) ?_)
  refine wpAny_bind (wpAny_callSpecial?_slot (name := Str.ofString "__getitem__") ht.typeIs PyProof.Rows.slot_tuple_getitem
    (wpAny_call_entry PyProof.Rows.slot_tuple_getitem ht.typeIs entry_tuple_getitem ?_ (args_tuple_getitem _ _)))
  show wpAny _ _ (Builtin.Tuple.tupleItemsOf (.ref t) >>= _) _ _ s
  refine wpAny_bind (tupleItemsOf_ ht ?_)
  refine wpAny_bind (wpAny_typeOf hTs ?_)
  rw [if_pos (by decide)]
  refine wpAny_bind (sliceApplied_gen hs pl pu ?_)
  have hno : ¬ ((((sIx items.size 0 lo : Nat) : Int) == 0 && (1 : Int) == 1 && (sIx items.size items.size hi - sIx items.size 0 lo) == items.size) = true) := by
    intro q
    rw [Bool.and_eq_true, Bool.and_eq_true] at q
    have q1 : ((sIx items.size 0 lo : Nat) : Int) = 0 := eq_of_beq q.1.1
    have q2 : sIx items.size items.size hi - sIx items.size 0 lo = items.size := eq_of_beq q.2
    exact hw ⟨by omega, by omega⟩
  show wpAny _ _ (if (((sIx items.size 0 lo : Nat) : Int) == 0 && (1 : Int) == 1 && (sIx items.size items.size hi - sIx items.size 0 lo) == items.size) = true then _ else _) _ _ s
  rw [if_neg hno, pick_gen]
  first
    | exact wpAny_bind (m := Builtin.Tuple.tupleExact _) (wpAny_newObj_type (wpAny_pure ⟨_, rfl, wpAny_pure h⟩) htake)
    | exact wpAny_bind (m := Builtin.Tuple.tupleExact _) (wpAny_newObj_type (wpAny_bind (wpAny_pure (wpAny_pure ⟨_, rfl, wpAny_pure h⟩))) htake)
    | exact wpAny_bind (wpAny_bind (m := Builtin.Tuple.tupleExact _) (wpAny_newObj_type (wpAny_pure (wpAny_pure ⟨_, rfl, wpAny_pure h⟩)) htake))
    | exact wpAny_bind (wpAny_bind (m := Builtin.Tuple.tupleExact _) (wpAny_newObj_type (wpAny_pure ⟨_, rfl, wpAny_pure h⟩) htake))
end
end HT
namespace L2
open PySem PySem.Spec PyProof.Rows
abbrev TO := St → Hp → (Option Int → Hp → Prop) → Prop
def PO (X : Cx) (e : Option Expr) (t : TO) : Prop :=
  ∀ (pins : List (Addr × Obj)) (s : Shared) (σ : St) (H : Hp) (Q : Option Int → Hp → Prop), Inv X pins σ H s → t σ H Q →
    wpAny (model X.prog X.w) X.A (evalPart e X.env) (fun u s' => ∃ o H', Inv X pins σ H' s' ∧ IsPart u o ∧ Q o H') X.xe s
def tNoPart : TO := fun _ H Q => Q none H
def tPart (t : TE) : TO := fun σ H Q => t σ H fun x H1 => ∃ i, x = .int i ∧ Q (some i) H1
section
variable {X : Cx} {e : Expr} {te : TE} {lo hi : Option Expr} {tl th : TO} {pos p2 : Pos}
theorem po_none : PO X none tNoPart := by
  intro pins s σ H Q I h
  rw [evalPart_none]
  exact wpAny_pure ⟨none, H, I, .none, h⟩
theorem po_some (h : PE X e te) : PO X (some e) (tPart te) := by
  intro pins s σ H Q I hw
  rw [evalPart_some]
  refine thn (h pins s σ H _ I hw) fun u s1 ⟨x, H1, I1, r1, q1⟩ => ?_
  obtain ⟨i, rfl, q⟩ := q1
  obtain ⟨t, rfl⟩ := r1
  exact ⟨some i, H1, I1, .int i t, q⟩
def SlR (X : Cx) (r : V → Option Int → Option Int → Hp → VK → Prop) : Prop :=
  ∀ (pins : List (Addr × Obj)) (s : Shared) (σ : St) (H : Hp) (x : V) (v vl vu : Value) (lo hi : Option Int) (sl : Addr) (Q : VK), Inv X pins σ H s → RelV x v → s.heap.IsSliceOf sl vl vu .none → IsPart vl lo → IsPart vu hi → r x lo hi H Q →
    ∃ T id, typeLookup (.type T) "__getitem__" = pure (some (.builtin id)) ∧ s.TypeIs v T ∧ wpAny (model X.prog X.w) X.A (getItem v (.ref sl)) (EP X pins σ Q) X.xe s
def tSl (r : V → Option Int → Option Int → Hp → VK → Prop) (te : TE) (tl th : TO) : TE := fun σ H Q => te σ H fun x H1 => tl σ H1 fun l H2 => th σ H2 fun u H3 => r x l u H3 Q
theorem pe_slice {r : V → Option Int → Option Int → Hp → VK → Prop} (hr : SlR X r) (he : PE X e te) (hl : PO X lo tl) (hu : PO X hi th) : PE X (.Subscript e (.Slice lo hi none p2) pos) (tSl r te tl th) := by
  intro pins s σ H Q I h
  refine Subscript_ (thn (he pins s σ H _ I h) fun v s1 ⟨x, H1, I1, r1, q1⟩ => ?_)
  refine wpAny_Slice (thn (hl pins s1 σ H1 _ I1 q1) fun vl s2 ⟨l, H2, I2, pl, q2⟩ => thn (hu pins s2 σ H2 _ I2 q2) fun vu s3 ⟨u, H3, I3, pu, q3⟩ => ?_)
  rw [evalPart_none]
  refine wpAny_pure ?_
  have I4 : Inv X pins σ H3 { s3 with heap := s3.heap.push { cls := .type "slice", data := .fields #[vl, vu, .none] } } := I3.kept (t' := s3.toks) fun b ob q => Heap.get?_push_of_some _ q
  obtain ⟨T, id, hT, ht, hg⟩ := hr pins { s3 with heap := s3.heap.push { cls := .type "slice", data := .fields #[vl, vu, .none] } } σ H3 x v vl vu l u s3.heap.objs.size Q I4 r1 (Heap.IsSliceOf.new ..) pl pu q3
  show wpAny (model X.prog X.w) X.A (subscriptTail e (.Slice lo hi none p2) v (.ref s3.heap.objs.size)) (EP X pins σ Q) X.xe { s3 with heap := s3.heap.push { cls := .type "slice", data := .fields #[vl, vu, .none] } }
  exact tail_any (ops := [.ref s3.heap.objs.size, v]) ht hT hg (by with_unfolding_all rfl)
def cutV (xs : List V) (lo hi : Option Int) : List V := (xs.drop (HT.sIx xs.length 0 lo)).take (HT.sIx xs.length xs.length hi - HT.sIx xs.length 0 lo)
theorem cutV_length (xs : List V) (lo hi : Option Int) : (cutV xs lo hi).length ≤ xs.length := by
  unfold cutV
  rw [List.length_take, List.length_drop]
  omega
def rSlT (K : PySem.W.Frag) : V → Option Int → Option Int → Hp → VK → Prop := fun x lo hi H Q => ∃ a xs, x = .ref a ∧ SqT K H a xs ∧
  ¬ (HT.sIx xs.length 0 lo = 0 ∧ HT.sIx xs.length xs.length hi = xs.length) ∧ ∀ p, H p = none → Q (.ref p) (upd H p (.tup (cutV xs lo hi)))
theorem sl_tup : SlR X (rSlT X.K) := by
  intro pins s σ H x v vl vu lo hi sl Q I rx hs pl pu h
  obtain ⟨a, xs, rfl, hx, hw, q⟩ := h
  cases rx
  obtain ⟨its, r, ht, hz⟩ := I.tuple hx
  have hlen : its.toArray.size = xs.length := by rw [List.size_toArray]; exact r.length.symm
  refine ⟨"tuple", _, PyProof.Rows.slot_tuple_getitem.lookup, ht.typeIs, ?_⟩
  refine HT.getItem_tuple_cut ht hs pl pu (by rw [hlen]; exact hw) ?_ (by rw [hlen]; exact hz)
  rw [hlen]
  refine ⟨.ref s.heap.objs.size, _, I.laid (t' := s.toks) (o := .tup (cutV xs lo hi)) (fun b ob q => Heap.get?_push_of_some _ q) (Nat.le_refl _) ?_, rfl, q _ (I.hok.fresh (Nat.le_refl _))⟩
  exact ⟨Nat.le_trans (cutV_length xs lo hi) hz, _, (r.drop (HT.sIx xs.length 0 lo)).take (HT.sIx xs.length xs.length hi - HT.sIx xs.length 0 lo), IsTup.new _ _⟩
end
end L2
namespace L2
open PySem PySem.Spec PyProof.Rows
def ixN (n : Nat) (i : Int) : Option Nat := if 0 ≤ i then (if i < n then some i.toNat else none) else if -(n : Int) ≤ i then some (i + n).toNat else none
def atI {α : Type} (xs : List α) (i : Int) : Option α := (ixN xs.length i).bind fun j => xs[j]?
theorem ixN_seq {n : Nat} {i : Int} {j : Nat} (h : ixN n i = some j) : seqIndex? i n = some j ∧ j < n ∧ -(n : Int) ≤ i ∧ i < n := by
  unfold ixN at h
  by_cases h0 : 0 ≤ i
  · rw [if_pos h0] at h
    by_cases h1 : i < n
    · rw [if_pos h1] at h
      have e : i.toNat = j := Option.some.inj h
      exact ⟨by rw [seqIndex_of h0 h1, e], by omega, by omega, h1⟩
    · rw [if_neg h1] at h; cases h
  · rw [if_neg h0] at h
    by_cases h1 : -(n : Int) ≤ i
    · rw [if_pos h1] at h
      have e : (i + n).toNat = j := Option.some.inj h
      exact ⟨by rw [seqIndex_neg (by omega) h1, e], by omega, h1, by omega⟩
    · rw [if_neg h1] at h; cases h
theorem atI_get {α : Type} {xs : List α} {i : Int} {v : α} (h : atI xs i = some v) : ∃ j, seqIndex? i xs.length = some j ∧ xs[j]? = some v ∧ j < xs.length ∧ -(xs.length : Int) ≤ i ∧ i < xs.length := by
  unfold atI at h
  cases e : ixN xs.length i with
  | none => rw [e] at h; cases h
  | some j =>
    rw [e] at h
    obtain ⟨h1, h2, h3, h4⟩ := ixN_seq e
    exact ⟨j, h1, h, h2, h3, h4⟩
theorem atI_nat {α : Type} {xs : List α} {j : Nat} {v : α} (h : xs[j]? = some v) : atI xs (j : Int) = some v := by
  have hj : j < xs.length := (List.getElem?_eq_some_iff.mp h).1
  have e : ixN xs.length (j : Int) = some j := by
    unfold ixN
    rw [if_pos (by omega), if_pos (by omega)]; simp
  unfold atI; rw [e]; exact h
def PlainIx (b : Expr) : Prop := ∀ o i, subscripted b false o i = operate [o, i] (getItem o i)
def IxR (X : Cx) (r : R2) : Prop :=
  ∀ (value slice : Expr) (pins : List (Addr × Obj)) (s : Shared) (σ : St) (H : Hp) (x y : V) (v u : Value) (Q : VK), Inv X pins σ H s → RelV x v → RelV y u → r x y H Q →
    subscripted slice false v u = operate [v, u] (getItem v u) → wpAny (model X.prog X.w) X.A (subscriptTail value slice v u) (EP X pins σ Q) X.xe s
def MtR (X : Cx) (id : String) (r : V → List V → Hp → VK → Prop) : Prop :=
  ∀ (pins : List (Addr × Obj)) (s : Shared) (σ : St) (H : Hp) (x : V) (xs : List V) (v : Value) (us : List Value) (Q : VK), Inv X pins σ H s → RelV x v → Vals xs us → r x xs H Q →
    wpAny (model X.prog X.w) X.A (call (.builtin id) (v :: us)) (EP X pins σ Q) X.xe s
section
variable {X : Cx} {a b : Expr} {ta tb : TE} {pos : Pos}
theorem IxR.or {r r' : R2} (h : IxR X r) (h' : IxR X r') : IxR X (fun x y H Q => r x y H Q ∨ r' x y H Q) := by
  intro value slice pins s σ H x y v u Q I rx ry q hs
  rcases q with q | q
  · exact h value slice pins s σ H x y v u Q I rx ry q hs
  · exact h' value slice pins s σ H x y v u Q I rx ry q hs
theorem pe_ix {r : R2} (hr : IxR X r) (ha : PE X a ta) (hb : PE X b tb) (hs : PlainIx b) : PE X (.Subscript a b pos) (tOp r ta tb) := by
  intro pins s σ H Q I h
  exact Subscript_ (binT ha hb I h fun v u s2 x y H2 I2 rx ry q => hr a b pins s2 σ H2 x y v u Q I2 rx ry q (hs _ _))
def rIxL (K : PySem.W.Frag) : R2 := fun x y H Q => ∃ p xs i v, x = .ref p ∧ y = .int i ∧ SqL K H p xs ∧ atI xs i = some v ∧ Q v H
def rIxT (K : PySem.W.Frag) : R2 := fun x y H Q => ∃ p xs i v, x = .ref p ∧ y = .int i ∧ SqT K H p xs ∧ atI xs i = some v ∧ Q v H
def rIxS : R2 := fun x y H Q => ∃ z i c, x = .str z ∧ y = .int i ∧ z.length ≤ sizeLine ∧ atI z.cps.toList i = some c ∧ Q (.str ⟨#[c]⟩) H
theorem ix_list : IxR X (rIxL X.K) := by
  intro value slice pins s σ H x y v u Q I rx ry h hs
  obtain ⟨p, xs, i, z, rfl, rfl, hq, he, q⟩ := h
  cases rx
  obtain ⟨t, rfl⟩ := ry
  obtain ⟨its, r, pl, hz⟩ := I.list hq
  obtain ⟨j, h1, h2, h3, h4, h5⟩ := atI_get he
  obtain ⟨w, ew, rw'⟩ := r.get h2
  have hl := r.length
  have hn := line63
  have fin : EP X pins σ Q w s := ⟨z, H, I, rw', q⟩
  by_cases h0 : 0 ≤ i
  · have hj : i.toNat = j := by
      rw [seqIndex_of h0 h5] at h1
      exact Option.some.inj h1
    exact item_listR pl.isList h0 (by omega) (by rw [hj]; simpa using ew) fin hs
  · have hj : (i + (its.toArray.size : Int)).toNat = j := by
      rw [seqIndex_neg (by omega) h4] at h1
      rw [List.size_toArray, ← hl]
      exact Option.some.inj h1
    exact subscriptTail_builtinR (x := w) pl.isList.typeIs slot_list_getitem.lookup
      (wpAny_getItem_list_neg (Q := fun r s' => r = w ∧ EP X pins σ Q r s') pl.isList (by omega) (by rw [List.size_toArray] <;> omega) (by omega) (by rw [hj]; simpa using ew) ⟨rfl, fin⟩) hs
theorem ix_tup : IxR X (rIxT X.K) := by
  intro value slice pins s σ H x y v u Q I rx ry h hs
  obtain ⟨p, xs, i, z, rfl, rfl, hq, he, q⟩ := h
  cases rx
  obtain ⟨t, rfl⟩ := ry
  obtain ⟨its, r, pl, hz⟩ := I.tuple hq
  obtain ⟨j, h1, h2, h3, h4, h5⟩ := atI_get he
  obtain ⟨w, ew, rw'⟩ := r.get h2
  have hl := r.length
  have hn := line63
  have fin : EP X pins σ Q w s := ⟨z, H, I, rw', q⟩
  exact subscriptTail_builtinR (x := w) pl.typeIs slot_tuple_getitem.lookup
    (getItem_tuple (j := j) (Q := fun r s' => r = w ∧ EP X pins σ Q r s') pl (by omega) (by omega) (by rw [List.size_toArray, ← hl]; exact h1) (by simpa using ew) ⟨rfl, fin⟩) hs
theorem ix_str : IxR X rIxS := by
  intro value slice pins s σ H x y v u Q I rx ry h hs
  obtain ⟨z, i, c, rfl, rfl, hz, he, q⟩ := h
  obtain ⟨t, rfl⟩ := rx
  obtain ⟨t', rfl⟩ := ry
  obtain ⟨j, h1, h2, h3, h4, h5⟩ := atI_get he
  have hl : z.cps.toList.length = z.length := by simp [Str.length]
  rw [hl] at h1 h4 h5
  have hn := line63
  exact tail_any (typeIs_str s z t) slot_str_getitem.lookup (getItem_str (c := c) (by
    have e1 : decide (i < -(2 ^ 63 : Int)) = false := decide_eq_false (by omega)
    have e2 : decide (i ≥ 2 ^ 63) = false := decide_eq_false (by omega)
    rw [e1, e2, Bool.or_false]) (by rw [h1]; simpa using h2) ⟨.str ⟨#[c]⟩, H, I.tok _, ⟨_, rfl⟩, q⟩) hs
def rIx (K : PySem.W.Frag) : R2 := fun x y H Q => rIxL K x y H Q ∨ rIxT K x y H Q ∨ rIxS x y H Q
theorem ix_seq : IxR X (rIx X.K) := ix_list.or (ix_tup.or ix_str)
theorem slice_bounds (lo hi : Option Int) (n : Nat) : (sliceBounds lo hi none n).1 = ((HT.sIx n 0 lo : Nat) : Int) ∧ (sliceBounds lo hi none n).2.1 = ((HT.sIx n n hi : Nat) : Int) ∧ (sliceBounds lo hi none n).2.2 = 1 := by
  refine ⟨?_, ?_, rfl⟩
  · cases lo with
    | none => simp [sliceBounds, HT.sIx]
    | some i =>
      simp only [sliceBounds, HT.sIx, Option.getD_none, show (1 : Int) > 0 by decide, if_true]
      by_cases h : i < 0
      · simp only [h, if_true] <;> omega
      · simp only [h, if_false] <;> omega
  · cases hi with
    | none => simp [sliceBounds, HT.sIx]
    | some i =>
      simp only [sliceBounds, HT.sIx, Option.getD_none, show (1 : Int) > 0 by decide, if_true]
      by_cases h : i < 0
      · simp only [h, if_true] <;> omega
      · simp only [h, if_false] <;> omega
theorem slicePick_cut (its : List Value) (lo hi : Option Int) : slicePick its.toArray lo hi none = ((its.drop (HT.sIx its.length 0 lo)).take (HT.sIx its.length its.length hi - HT.sIx its.length 0 lo)).toArray := by
  obtain ⟨h1, h2, h3⟩ := slice_bounds lo hi its.toArray.size
  unfold slicePick
  rw [h1, h2, h3]
  simp only [sliceRange_one, pick_run, List.size_toArray] <;> rfl
def rSlL (K : PySem.W.Frag) : V → Option Int → Option Int → Hp → VK → Prop := fun x lo hi H Q => ∃ a xs, x = .ref a ∧ SqL K H a xs ∧ ∀ p, H p = none → Q (.ref p) (upd H p (.lst (cutV xs lo hi)))
theorem sl_list : SlR X (rSlL X.K) := by
  intro pins s σ H x v vl vu lo hi sl Q I rx hs pl pu h
  obtain ⟨a, xs, rfl, hx, q⟩ := h
  cases rx
  obtain ⟨its, r, ht, hz⟩ := I.list hx
  have hlen := r.length
  refine ⟨"list", _, slot_list_getitem.lookup, ht.isList.typeIs, ?_⟩
  refine wpAny_getItem_list_slice ht.isList hs pl pu .none (by simp) ?_ (by rw [List.size_toArray] <;> omega)
  rw [slicePick_cut, ← hlen]
  refine ⟨.ref s.heap.objs.size, _, I.laid (t' := s.toks) (o := .lst (cutV xs lo hi)) (fun b ob q => Heap.get?_push_of_some _ q) (Nat.le_refl _) ?_, rfl, q _ (I.hok.fresh (Nat.le_refl _))⟩
  exact ⟨Nat.le_trans (cutV_length xs lo hi) hz, _, 0, (r.drop (HT.sIx xs.length 0 lo)).take (HT.sIx xs.length xs.length hi - HT.sIx xs.length 0 lo), Heap.get?_push_size _ rfl⟩
theorem call_len_seq : CallR X (.builtin "len") (fun xs H Q => ∃ p ys, xs = [.ref p] ∧ (SqL X.K H p ys ∨ SqT X.K H p ys) ∧ Q (.int ys.length) H) := by
  intro pins s σ H xs us Q I r h
  obtain ⟨p, ys, rfl, hq, q⟩ := h
  obtain ⟨u, rfl, rx⟩ := vals1 r
  cases rx
  have hn := line63
  rcases hq with hq | hq
  · obtain ⟨its, r', pl, hz⟩ := I.list hq
    have hlen := r'.length
    exact Calls.call_len_list pl.isList (by simp only [List.size_toArray] <;> omega) ⟨.int ys.length, H, I.tok _, ⟨s.toks + 1, by rw [List.size_toArray, hlen]⟩, q⟩
  · obtain ⟨its, r', pl, hz⟩ := I.tuple hq
    have hlen := r'.length
    exact len_tuple pl (by simp only [List.size_toArray] <;> omega) ⟨.int ys.length, H, I.tok _, ⟨s.toks + 1, by rw [List.size_toArray, hlen]⟩, q⟩
theorem call_len_str : CallR X (.builtin "len") (fun xs H Q => ∃ z, xs = [.str z] ∧ z.length ≤ sizeLine ∧ Q (.int z.length) H) := by
  intro pins s σ H xs us Q I r h
  obtain ⟨z, rfl, hz, q⟩ := h
  obtain ⟨u, rfl, t, rfl⟩ := vals1 r
  have hn := line63
  exact len_str (by omega) ⟨.int z.length, H, I.tok _, ⟨_, rfl⟩, q⟩
theorem call_list_of : CallR X (.type "list") (fun xs H Q => ∃ p ys, xs = [.ref p] ∧ (SqL X.K H p ys ∨ SqT X.K H p ys) ∧ ∀ l, H l = none → Q (.ref l) (upd H l (.lst ys))) := by
  intro pins s σ H xs us Q I r h
  obtain ⟨p, ys, rfl, hq, q⟩ := h
  obtain ⟨u, rfl, rx⟩ := vals1 r
  cases rx
  have fin : ∀ (its : List Value), Vals ys its → ys.length ≤ sizeLine → ∀ (h' : Heap) (c' : Nat), (∀ b o', s.heap.get? b = some o' → h'.get? b = some o') →
      h'.get? s.heap.objs.size = some { cls := .type "list", dict := none, data := .seq its.toArray c', slots := #[] } → EP X pins σ Q (.ref s.heap.objs.size) { s with heap := h' } := fun its r' hz h' c' kp e =>
    ⟨.ref s.heap.objs.size, _, I.laid (t' := s.toks) kp (Nat.le_refl _) (show ObjOk X.prog X.w _ h' _ (.lst ys) from ⟨hz, its, c', r', e⟩), rfl, q _ (I.hok.fresh (Nat.le_refl _))⟩
  rcases hq with hq | hq
  · obtain ⟨its, r', pl, hz⟩ := I.list hq
    have hlen := r'.length
    obtain ⟨o, ho, hc, n, hd⟩ := pl.isList
    exact call_list_seq p (.inl rfl) ho hc hd (fun h' c' kp e => fin its r' hz h' c' kp e) (by simp only [List.size_toArray] <;> omega)
  · obtain ⟨its, r', pl, hz⟩ := I.tuple hq
    have hlen := r'.length
    obtain ⟨o, ho, hc, n, hd⟩ := pl
    exact call_list_seq p (.inr rfl) ho hc hd (fun h' c' kp e => fin its r' hz h' c' kp e) (by simp only [List.size_toArray] <;> omega)
theorem call_tuple_of : CallR X (.type "tuple") (fun xs H Q => ∃ p ys, xs = [.ref p] ∧ ((SqL X.K H p ys ∧ ∀ l, H l = none → Q (.ref l) (upd H l (.tup ys))) ∨ (SqT X.K H p ys ∧ Q (.ref p) H))) := by
  intro pins s σ H xs us Q I r h
  obtain ⟨p, ys, rfl, h⟩ := h
  obtain ⟨u, rfl, rx⟩ := vals1 r
  cases rx
  rcases h with ⟨hq, q⟩ | ⟨hq, q⟩
  · obtain ⟨its, r', pl, hz⟩ := I.list hq
    have hlen := r'.length
    refine call_tuple_list pl.isList (fun h' kp => ?_) (by simp only [List.size_toArray] <;> omega)
    have I1 : Inv X pins σ H { s with heap := h' } := I.kept (t' := s.toks) kp
    have I2 : Inv X pins σ (upd H h'.objs.size (.tup ys)) { s with heap := h'.push { cls := .type "tuple", data := .seq its.toArray } } :=
      I1.laid (t' := s.toks) (fun b o e => Heap.get?_push_of_some _ e) (Nat.le_refl _) (show ObjOk X.prog X.w _ _ _ (.tup ys) from ⟨hz, its, r', IsTup.new _ _⟩)
    exact ⟨.ref h'.objs.size, _, I2, rfl, q _ (I1.hok.fresh (Nat.le_refl _))⟩
  · obtain ⟨its, r', pl, hz⟩ := I.tuple hq
    exact call_tuple_same pl ⟨.ref p, H, I, rfl, q⟩
def tyV (K : PySem.W.Frag) (T : String) (x : V) (H : Hp) : Prop := match x with
  | .str _ => T = "str"
  | .int _ => T = "int"
  | .ref p => (T = "list" ∧ ∃ xs, SqL K H p xs) ∨ (T = "tuple" ∧ ∃ o, K.lookup p = some o ∧ o.cls = .type "tuple" ∧ o.dict = none) ∨
      (T = "dict" ∧ ((∃ kvs, H p = some (.dK kvs)) ∨ ∃ kvs, H p = some (.dT kvs))) ∨ (T = "set" ∧ ∃ S n, H p = some (.set S n))
  | _ => False
theorem tyV_is {pins : List (Addr × Obj)} {σ : St} {H : Hp} {s : Shared} {T : String} {x : V} {v : Value} (I : Inv X pins σ H s) (r : RelV x v) (ty : tyV X.K T x H) :
    s.TypeIs v T ∧ ∀ a, v = .ref a → ∃ ob, s.heap.get? a = some ob ∧ ob.dict = none := by
  cases x with
  | str z =>
    obtain ⟨t, rfl⟩ := r
    cases (show T = "str" from ty)
    exact ⟨typeIs_str s z t, fun _ e => nomatch e⟩
  | int i =>
    obtain ⟨t, rfl⟩ := r
    cases (show T = "int" from ty)
    exact ⟨typeIs_int s i t, fun _ e => nomatch e⟩
  | ref p =>
    cases r
    rcases ty with ⟨rfl, xs, hq⟩ | ⟨rfl, o, hk, hc, hd⟩ | ⟨rfl, hk⟩ | ⟨rfl, S, n, hk⟩
    · obtain ⟨its, _, pl, _⟩ := I.list hq
      refine ⟨pl.isList.typeIs, fun a e => ?_⟩
      cases e
      obtain ⟨o, n, e, c, hd, _⟩ := pl
      exact ⟨o, e, hd⟩
    · refine ⟨⟨o, I.kIn p o hk, hc⟩, fun a e => ?_⟩
      cases e
      exact ⟨o, I.kIn _ o hk, hd⟩
    · have z : ∃ o, s.heap.get? p = some o ∧ o.ExactDict := by
        rcases hk with ⟨kvs, hk⟩ | ⟨kvs, hk⟩
        · obtain ⟨_, _, _, _, o, _, _, e, ex, _⟩ := I.hok p _ hk
          exact ⟨o, e, ex⟩
        · obtain ⟨_, _, _, _, o, _, _, e, ex, _⟩ := I.hok p _ hk
          exact ⟨o, e, ex⟩
      obtain ⟨o, e, ex⟩ := z
      refine ⟨⟨o, e, ex.1⟩, fun a e2 => ?_⟩
      cases e2
      exact ⟨o, e, ex.2.1⟩
    · obtain ⟨o, _, _, _, e, ex, _⟩ := I.hok p _ hk
      refine ⟨⟨o, e, ex.1⟩, fun a e2 => ?_⟩
      cases e2
      exact ⟨o, e, ex.2.1⟩
  | _ => exact False.elim ty
def tBM (K : PySem.W.Frag) (T : String) (r : V → List V → Hp → VK → Prop) (to : TE) (t : TA) : TE := fun σ H Q => to σ H fun x H1 => tyV K T x H1 ∧ t σ H1 fun xs H2 => r x xs H2 Q
variable {o e : Expr} {es : List Expr} {to : TE} {t : TA} {name : Str} {apos cpos : Pos} {T id : String} {r : V → List V → Hp → VK → Prop}
theorem pe_bm (pa : PlainAttrs T) (slot : Slot T name id) (hty : typeOf (.builtin id) = pure (.type "method_descriptor")) (hm : MtR X id r) (ho : PE X o to) (ha : PA X (e :: es) t)
    (hbase : attributeBase o name X.env (eval o X.env) = eval o X.env := by rfl)
    (hfew : ((backTo cpos (starEach (e :: es) X.env)).all (fun x => !x.1) && (backToKw cpos (keywordEach [] X.env)).all (fun x => x.1.isSome)
      && decide ((e :: es).length + ([] : List Keyword).length + (if ([] : List Keyword).isEmpty then 0 else 1) < 30)) = true := by rfl)
    (hline : (apos.endLine == cpos.line) = true := by rfl) (hs : starEach (e :: es) X.env = (false, eval e X.env) :: starEach es X.env := by rfl) (hplain : (backTo cpos (starEach es X.env)).any (·.1) = false := by rfl) :
    PE X (.Call (.Attribute o name apos) (e :: es) [] cpos) (tBM X.K T r to t) := by
  intro pins s σ H Q I h
  refine wpAny_Call_method_late hbase hfew hline rfl (thn (ho pins s σ H _ I h) fun v s1 ⟨x, H1, I1, r1, ty, q1⟩ => ?_)
  obtain ⟨h1, h2⟩ := tyV_is I1 r1 ty
  refine ⟨T, id, pa, slot, hty, h1, h2, ?_⟩
  have hA := ha cpos pins s1 σ H1 _ I1 q1
  rw [hs] at hA ⊢
  refine Calls.callWith_builtin (by show (false || (backTo cpos (starEach es X.env)).any (·.1)) = false; rw [hplain] <;> rfl) (Calls.evalArgs_plain ?_)
  exact thn hA fun us s2 ⟨vs, H2, I2, r2, q2⟩ => hm pins s2 σ H2 x vs v us Q I2 r1 r2 q2
end
end L2
namespace L2
open PySem PySem.Spec PyProof.Rows
def MtM (X : Cx) (id : String) (r : V → List V → Hp → VK → Prop) : Prop :=
  ∀ (pins : List (Addr × Obj)) (s : Shared) (σ : St) (H : Hp) (x : V) (xs : List V) (v : Value) (us : List Value) (Q : VK), Inv X pins σ H s → RelV x v → Vals xs us → r x xs H Q →
    wpAny (model X.prog X.w) X.A (call (.builtin id) (v :: us)) (EP X pins σ Q) X.xe s
theorem Vals.one : ∀ {x : V} {us : List Value}, Vals [x] us → ∃ u, us = [u] ∧ RelV x u
  | _, _, .cons r .nil => ⟨_, rfl, r⟩
section
variable {X : Cx} {pins : List (Addr × Obj)} {σ : St} {H : Hp} {s : Shared} {l b : Addr} {xs ys zs : List V}
theorem Inv.lset {its its' : List Value} {n : Nat} {f : Array Value → Array Value} {t' : Nat} (I : Inv X pins σ H s) (hH : H l = some (.lst xs))
    (e : s.heap.get? l = some { cls := .type "list", data := .seq its.toArray n }) (hf : f its.toArray = its'.toArray) (hv : Vals ys its') (hz : ys.length ≤ sizeLine) :
    Inv X pins σ (upd H l (.lst ys)) { s with heap := s.heap.update l (Obj.mapSeq f), toks := t' } := by
  have q := PySem.IsL.update e f
  rw [hf] at q
  refine I.write (x := l) (e := l) (by rw [hH]; exact trivial) (.inl rfl) (fun b' u hb hu => (Heap.get?_update_other s.heap (Obj.mapSeq f) (Ne.symm hb)).trans hu) ⟨_, q⟩ ?_
  exact ⟨hz, its', _, hv, q⟩
theorem Inv.lnew {its : List Value} {t' : Nat} (I : Inv X pins σ H s) (hv : Vals ys its) (hz : ys.length ≤ sizeLine) :
    Inv X pins σ (upd H s.heap.objs.size (.lst ys)) { s with heap := s.heap.push { cls := .type "list", data := .seq its.toArray }, toks := t' } :=
  I.laid (fun _ _ q => Heap.get?_push_of_some _ q) (Nat.le_refl _) ⟨hz, its, 0, hv, Heap.get?_push_size _ rfl⟩
theorem Inv.fresh (I : Inv X pins σ H s) : H s.heap.objs.size = none := I.hok.fresh (Nat.le_refl _)
theorem Inv.lstM (I : Inv X pins σ H s) (hH : H l = some (.lst xs)) : xs.length ≤ sizeLine ∧ ∃ (its : List Value) (n : Nat), Vals xs its ∧ xs.length = its.length ∧ s.heap.get? l = some { cls := .type "list", data := .seq its.toArray n } := by
  obtain ⟨z, its, n, r, e⟩ := I.hok l _ hH
  exact ⟨z, its, n, r, r.length, e⟩
end
section
variable {X : Cx}
def rAppend : V → List V → Hp → VK → Prop := fun x vs H Q => ∃ l xs y, x = .ref l ∧ vs = [y] ∧ H l = some (.lst xs) ∧ xs.length < sizeLine ∧ Q .non (upd H l (.lst (xs ++ [y])))
theorem mt_append : MtM X "list.append" rAppend := by
  intro pins s σ H x vs v us Q I rx rv h
  obtain ⟨l, xs, y, rfl, rfl, hH, hz, q⟩ := h
  cases rx
  obtain ⟨u, rfl, ru⟩ := rv.one
  obtain ⟨z, its, n, r, hl, e⟩ := I.lstM hH
  refine call_meets F.slot_list_append ⟨_, e, rfl⟩ F.entry_list_append (F.args_list_append_2 _ _) (PySem.list_append l its.toArray n u (by rw [List.size_toArray]; omega)) ⟨e, ?_⟩
  refine ⟨.non, _, I.lset (its' := its ++ [u]) hH e (by simp) (r.append (.cons ru .nil)) ?_, rfl, q⟩
  rw [List.length_append, List.length_singleton]
  omega
def rCat : R2 := fun x y H Q => ∃ l b xs zs, x = .ref l ∧ y = .ref b ∧ H l = some (.lst xs) ∧ H b = some (.lst zs) ∧ xs.length + zs.length ≤ sizeLine ∧ ∀ p, H p = none → Q (.ref p) (upd H p (.lst (xs ++ zs)))
theorem op_cat : OpR X (binaryOp .Add) rCat := by
  intro pins s σ H x y v u Q I rx ry h
  obtain ⟨l, b, xs, zs, rfl, rfl, hH, hB, hz, q⟩ := h
  cases rx
  cases ry
  obtain ⟨z, its, n, r, hl, e⟩ := I.lstM hH
  obtain ⟨z2, its2, n2, r2, hl2, e2⟩ := I.lstM hB
  refine PySem.P.add_list e e2 ?_ (by rw [List.size_toArray, List.size_toArray]; omega)
  have ea : its.toArray ++ its2.toArray = (its ++ its2).toArray := by simp
  rw [ea]
  exact ⟨.ref _, _, I.lnew (t' := s.toks) (r.append r2) (by rw [List.length_append]; omega), rfl, q _ I.fresh⟩
end
section
variable {prog : Program} {w : World} {A : Around} {E : Value → Shared → Prop} {s : Shared}
end
section
variable {X : Cx}
end
end L2
namespace Att
open PySem PySem.W PySem.Calls PyProof.Rows
theorem ints_of_wellAll {P : Params} {h : Heap} : ∀ (ns : List Int) (vs : List Value), WellAll P h vs (ns.map WData.int) → IntsAre vs ns := by
  intro ns
  induction ns with
  | nil =>
    intro vs w
    rw [List.map_nil] at w
    cases w
    exact .nil
  | cons n ns ih =>
    intro vs w
    rw [List.map_cons] at w
    cases w with
    | cons a b =>
      cases a
      exact .cons _ _ (ih _ b)
theorem script_of {l : OpenLaw} {n : Nat} (hn : l.most = some n) {P : Params} {h : Heap} {args : List WData} {vals : List Value}
    (hpre : l.row.toRowW.claim.pre args = true) (hwl : WellAll P h vals args) :
    ∃ a vs ns, vals = [Value.ref a] ∧ args = [WData.list (ns.map WData.int)] ∧ h.get? a = some { cls := .type "list", data := .seq vs.toArray } ∧ IntsAre vs ns ∧ ns.length ≤ n := by
  have hsh : WShape.hasAll [] args [.list .int] = true := (pre_splitW hpre).1
  have hc : l.pre.holds [] { args := args } = true := (pre_splitW hpre).2
  obtain ⟨d, r, rfl, h1, h2⟩ := hasAllW_cons hsh
  obtain rfl := hasAllW_nil h2
  obtain ⟨xs, rfl, h3⟩ := hasW_list h1
  obtain ⟨ns, rfl⟩ := items_int h3
  have hlen : ns.length ≤ n := by
    unfold OpenLaw.pre at hc
    have h4 : (WTm.not (.lt (.lit (.int (n : Int))) (.len (.arg 0)))).holds [] { args := [.list (ns.map .int)] } = true := by
      have h4 := (holds_andW hc).1
      rw [hn] at h4
      exact h4
    have h5 := condW_of h4 (w_not (w_lt w_lit (w_len_list (w_arg rfl))))
    rw [List.length_map] at h5
    refine Nat.le_of_not_lt fun q => ?_
    have q' : (n : Int) < ((ns.length : Nat) : Int) := by omega
    first
      | (rw [decide_eq_true q'] at h5; exact absurd h5 (by decide))
      | (simp at h5; omega)
  cases hwl with
  | cons w1 w2 =>
    cases w2
    cases w1 with
    | list ho hall => exact ⟨_, _, ns, rfl, rfl, ho, ints_of_wellAll ns _ hall, hlen⟩
theorem post_true (l : OpenLaw) (args : List WData) : l.row.toRowW.claim.post args (.bool true) args = true :=
  postW_of (r := l.row.toRowW) (X := (true == true))
    (show WShape.has [] (.bool true) .bool = true by first | rfl | decide | simp [WShape.has, WShape.arms, WShape.armsAll])
    (show (WTm.eq .res (.lit (.bool true))).value [] { args := args, res := some (.bool true), after := args } = some (.bool (true == true)) from w_eq_bool (w_res rfl) w_lit) rfl
theorem attach_call {l : OpenLaw} {n : Nat} {q : Program} {loose : List Str} {XP : (Str → Option Value) → Heap → Prop} {YP : World → Heap → Prop} {d : DefRec}
    (hn : l.most = some n) (hdf : d.params.defaults = [])
    (call : ∀ (w : World) (s₀ s₁ : Shared) (mg mb : Str → Option Value) (fa : Addr) (o : Obj) (pm cd doc : Value) (a : Addr) (vs : List Value) (ns : List Int),
      Ground q loose [] XP w s₀ mg mb s₁.heap → YP w s₁.heap →
      s₁.heap.get? fa = some o → o.data = .func (docDef d.name d.params d.body d.scope pm cd doc) → s₁.heap.CodeRec cd d.name → mg d.name = some (.ref fa) →
      s₁.heap.get? a = some { cls := .type "list", data := .seq vs.toArray } → IntsAre vs ns → ns.length ≤ n → s₁.gens = #[] →
      codeAny (model l.prog w) callerA (.call (.ref fa) ⟨[.ref a], []⟩) (fun r s' => r = .ok (.ret (.bool true)) ∧ OldK s₁.heap s'.heap ∧ s'.os = s₁.os ∧ AllBare s'.gens) s₁) :
    WalkO q loose XP YP l.row.toRowW d [] (fun f vs => PySem.call f vs) := by
  intro w s₀ s₁ mg mb G Y fa o pm cd doc dV kV ho hd hcd hD hmg hg args vals as hpre hlay hrd hwl hlo
  obtain rfl : dV = .none := Dflts.none hD hdf
  obtain rfl : kV = .none := Dflts.noKw hD
  obtain ⟨a, vs, ns, rfl, rfl, hobj, hints, hlen⟩ := script_of hn hpre hwl
  refine enter_call (codeAny_mono (call w s₀ s₁ mg mb fa o pm cd doc a vs ns G Y ho (fd_plain hd) hcd hmg hobj hints hlen hg) fun r s' hq => ?_)
  obtain ⟨rfl, h2, h3, h4⟩ := hq
  exact ⟨.inl ⟨.bool true, .bool true, [], rfl, fun _ => rfl, .bool true, post_true l _, fun _ => ⟨List.Pairwise.nil, fun _ hm => (nomatch hm)⟩⟩, h2, h3, h4⟩
section
variable {prog : Program} {w : World} {A : Around} {E : Value → Shared → Prop} {s : Shared} {K : Frag}
end
end Att
namespace L2
open PySem PySem.Spec PyProof.Rows
theorem vals_ints : ∀ {vs : List Value} {ns : List Int}, IntsAre vs ns → Vals (ns.map V.int) vs
  | _, _, .nil => .nil
  | _, _, .cons n t h => .cons ⟨t, rfl⟩ (vals_ints h)
def Only (H : Hp) : Prop := ∀ b, H b = none ∨ ∃ o xs, H b = some (.frz o (.lst xs))
theorem law_call {P : Program} {w : World} {K : PySem.W.Frag} {mg mb : Str → Option Value} {CX : CXT} {k : Nat} {fa a : Addr} {fd : FuncData} {x : Str} {sp : Sp} {s₁ : Shared} {vs : List Value} {ns : List Int}
    (KX : K.In s₁.heap) (hns : s₁.heap.Ns mainGlobals mg) (hb : s₁.heap.Ns builtinsNs mb) (hbb : ∀ x : Str, x ≠ "__name__" → mb x = bootBuiltins x) (hlim : s₁.heap.NoLimit) (hg : s₁.gens = #[])
    (ha : s₁.heap.get? a = some { cls := .type "list", data := .seq vs.toArray }) (hi : IntsAre vs ns) (hl : ns.length ≤ sizeLine) (hr : Room k callerA)
    (F : ∀ base : Heap, K.In base → base.Ns mainGlobals mg → FnOk P w K mg base CX k fa fd [x] sp) (hbind : ∀ (s : Shared) (u : Value), BindsTo s fd ⟨[u], []⟩ [(x, u)])
    (hsp : ∀ H : Hp, Only H → SqL K H a (ns.map V.int) → sp [.ref a] H (fun v _ => v = .bl true) fun _ _ _ => False)
    (hCX : ∀ H e s', CX [] H s₁ (fun _ _ _ => False) e s' → False) :
    codeAny (model P w) callerA (.call (.ref fa) ⟨[.ref a], []⟩) (fun r s' => r = .ok (.ret (.bool true)) ∧ OldK s₁.heap s'.heap ∧ s'.os = s₁.os ∧ AllBare s'.gens) s₁ := by
  have rv := vals_ints hi
  have lenV := hi.length
  have core : ∀ H : Hp, Only H → SqL K H a (ns.map V.int) → HOk P w H s₁.heap → (∀ b, H b ≠ none → b = a) → (H a ≠ none → K.lookup a = none) →
      codeAny (model P w) callerA (.call (.ref fa) ⟨[.ref a], []⟩) (fun r s' => r = .ok (.ret (.bool true)) ∧ OldK s₁.heap s'.heap ∧ s'.os = s₁.os ∧ AllBare s'.gens) s₁ := by
    intro H hO hS hok hA hK
    have base_of : ∀ {b : Addr} {o : Obj}, s₁.heap.get? b = some o → H b = none → (hidT s₁.heap H).get? b = some o := fun e n => hidT_get e n
    have noA : ∀ {b : Addr} {o : Obj} {es : Array DictEntry} {ep : Nat}, s₁.heap.get? b = some o → o.data = .dict es ep → H b = none := fun {b o es ep} e d => by
      cases q : H b with
      | none => rfl
      | some u =>
        have e' : b = a := hA b (by rw [q]; simp)
        subst e'
        rw [ha] at e; cases e
        have d' : Data.seq vs.toArray _ = Data.dict es ep := d
        cases d'
    have nsK : ∀ {b : Addr} {m : Str → Option Value}, s₁.heap.Ns b m → (hidT s₁.heap H).Ns b m := fun {b m} ⟨o, es, ep, e, d, r⟩ => ⟨o, es, ep, base_of e (noA e d), d, r⟩
    have hKb : K.In (hidT s₁.heap H) := fun b o e => base_of (KX b o e) (by
      cases q : H b with
      | none => rfl
      | some u =>
        have e' : b = a := hA b (by rw [q]; simp)
        subst e'
        rw [hK (by rw [q]; simp)] at e; cases e)
    have hM : Mod K mg (hidT s₁.heap H) := ⟨hKb, nsK hns, ⟨mb, nsK hb, hbb⟩, let ⟨mc, h1, h2⟩ := hlim; ⟨mc, nsK h1, h2⟩⟩
    have e0 : Env0 P w K mg (hidT s₁.heap H) callerA [] s₁ H := ⟨rfl, hM, fun b o e => of_hidT e, Nat.le_of_eq (hidT_size _ _), trivial, fun b hb => absurd (show b ∈ ([] : List Addr) from hb) (by simp), hok, .of_eq hg⟩
    refine codeAny_mono ((F _ hKb (nsK hns)).run callerA [] s₁ H ⟨[.ref a], []⟩ [.ref a] [.ref a] _ _ hr e0 (hbind s₁ (.ref a)) (.cons rfl .nil) (hsp H hO hS)) fun r s' h => ?_
    cases r with
    | error e => exact (hCX H e s' h).elim
    | ok fl =>
      cases fl with
      | next => exact False.elim h
      | brk => exact False.elim h
      | cont => exact False.elim h
      | ret u =>
        obtain ⟨v, H', os, bare, un, hok', r', q⟩ := h
        have q' : v = .bl true := q
        subst q'
        obtain rfl : u = Value.bool true := r'
        refine ⟨rfl, OldK.of_keep fun b o e => ?_, os, bare⟩
        cases q : H b with
        | none => exact un.keep b o e q (by intro z; exact absurd (show b ∈ ([] : List Addr) from z) (by simp)) (by simp)
        | some u =>
          rcases hO b with z | ⟨ob, xs, z⟩
          · rw [q] at z; cases z
          · have z2 := un.frzs b ob _ z
            obtain ⟨e1, _⟩ := hok b _ z
            obtain ⟨e2, _⟩ := hok' b _ z2
            rw [e] at e1; cases e1
            exact e2
  cases hk : K.lookup a with
  | some o =>
    have e := KX a o hk
    rw [ha] at e
    cases e
    refine core (fun _ => none) (fun _ => .inl rfl) (.inr ⟨_, vs.toArray, _, hk, rfl, rfl, rfl, by rw [List.size_toArray, lenV]; exact hl, by simpa using rv⟩) (fun b u z => by have z' : (none : Option HO) = some u := z; cases z') (fun b z => absurd rfl z) fun z => absurd rfl z
  | none =>
    refine core (fun b => if b = a then some (.frz { cls := .type "list", data := .seq vs.toArray } (.lst (ns.map V.int))) else none) (fun b => ?_) (.inl (.inr ⟨{ cls := .type "list", data := .seq vs.toArray }, if_pos rfl⟩)) (fun b u z => ?_) (fun b z => ?_) fun _ => hk
    · by_cases hb : b = a
      · exact .inr ⟨_, _, if_pos hb⟩
      · exact .inl (if_neg hb)
    · by_cases hb : b = a
      · have z' := (if_pos hb).symm.trans z
        cases z'
        subst hb
        exact ⟨ha, by rw [List.length_map]; exact hl, vs, _, rv, ha⟩
      · have z' := (if_neg hb).symm.trans z
        cases z'
    · by_cases hb : b = a
      · exact hb
      · exact absurd (if_neg hb) z
end L2
namespace L2
open PySem PySem.Spec PyProof.Rows
theorem walk_of {l : PySem.W.OpenLaw} {n k : Nat} {q : Program} {loose : List Str} {XP : (Str → Option Value) → Heap → Prop} {YP : World → Heap → Prop} {d : DefRec} {K : Params → PySem.W.Frag} {CX : World → CXT} {sp : World → Sp} {x : Str}
    (hn : l.most = some n) (hn2 : n ≤ sizeLine) (hdf : d.params.defaults = []) (hr : Room k callerA)
    (hY : ∀ (w : World) (h : Heap), YP w h → (K w.params).In h)
    (F : ∀ (w : World) (mg : Str → Option Value) (fa : Addr) (h : Heap), (K w.params).In h → h.Ns mainGlobals mg → mg d.name = some (.ref fa) →
      ∃ fd : FuncData, (∀ (s : Shared) (u : Value), BindsTo s fd ⟨[u], []⟩ [(x, u)]) ∧
        ∀ base : Heap, (K w.params).In base → base.Ns mainGlobals mg → FnOk l.prog w (K w.params) mg base (CX w) k fa fd [x] (sp w))
    (hsp : ∀ (w : World) (H : Hp) (a : Addr) (ns : List Int), ns.length ≤ n → Only H → SqL (K w.params) H a (ns.map V.int) → sp w [.ref a] H (fun v _ => v = .bl true) fun _ _ _ => False)
    (hCX : ∀ (w : World) (H : Hp) (s : Shared) (e : Value) (s' : Shared), CX w [] H s (fun _ _ _ => False) e s' → False) :
    PySem.W.WalkO q loose XP YP l.row.toRowW d [] (fun f vs => PySem.call f vs) := by
  refine Att.attach_call hn hdf fun w s₀ s₁ mg mb fa o pm cd doc a vs ns G Y ho hd hcd hmg hobj hints hlen hg => ?_
  have KX := hY w _ Y
  obtain ⟨fd, hb, hF⟩ := F w mg fa _ KX G.T.g hmg
  exact law_call KX G.T.g G.T.b G.T.builtins G.T.nolimit hg hobj hints (Nat.le_trans hlen hn2) hr hF hb (fun H hO hS => hsp w H a ns hlen hO hS) fun H e s' => hCX w H s₁ e s'
end L2
namespace L2
open PySem PySem.Spec PyProof.Rows
def defArgs (s : Stmt) : Arguments := match s with
  | .FunctionDef _ a _ _ _ _ _ _ _ _ => a
  | _ => { posonlyargs := [], args := [], vararg := none, kwonlyargs := [], kw_defaults := [], kwarg := none, defaults := [] }
def defBody (s : Stmt) : List Stmt := match s with
  | .FunctionDef _ _ b _ _ _ _ _ _ _ => b
  | _ => []
def defScope (s : Stmt) : Scope := match s with
  | .FunctionDef _ _ _ _ _ _ sc _ _ _ => sc
  | _ => { kind := .function, names := [], isGenerator := false, isCoroutine := false }
abbrev CX0 : CXT := fun _ _ _ _ _ _ => False
abbrev E0 : XK := fun _ _ _ => False
theorem pass0 {X : Cx} : Passes CX0 X E0 := fun _ _ _ _ _ _ _ h => h.elim
structure Fun (K : PySem.W.Frag) (x qual : Str) (st : Stmt) (f : Addr) (fd : FuncData) : Prop where
  ex : ∃ (oc : Value) (od : Option Addr) (kV doc pm : Value) (an : Option Addr) (cdv ct : Value) (osl : Array (Option Value)),
    fd = PySem.W.fnOf x qual (defArgs st) (defBody st) (defScope st) .none kV doc pm an cdv ct ∧ K.lookup f = some ⟨oc, od, .func fd, osl⟩ ∧ PySem.W.codeIn K cdv qual = true
  kp : PySem.W.keepIn K (.ref f) = true
section
variable {P : Program} {w : World} {K : PySem.W.Frag} {mg : Str → Option Value} {base : Heap}
theorem Fun.ok {x qual : Str} {st : Stmt} {f : Addr} {fd : FuncData} {N ps : List Str} {k : Nat} {sp : Sp} (F : Fun K x qual st f fd) (S : FnScope N ps (defScope st)) (len : ∀ vs H Q E, sp vs H Q E → vs.length = ps.length)
    (hbody : ∀ (cdv : Value) (A : Around) (outer : List Env) (s : Shared) (H : Hp) (vs : List V) (Q : VK) (E : XK), Room k (A.deeper (envOfC qual (defScope st) s.heap.objs.size f cdv)) → sp vs H Q E →
      ∃ t, PSs (cxOf CX0 P w K mg base N qual (defScope st) f cdv A outer s H E).nox (defBody st) t ∧ t { nx := fun _ H' => Q .non H', rt := Q } (start N vs) H) : FnOk P w K mg base CX0 (k + 1) f fd ps sp := by
  obtain ⟨oc, od, kV, doc, pm, an, cdv, ct, osl, rfl, lk, hcd⟩ := F.ex
  refine fn_of lk hcd S len fun A outer s H vs Q E hr hsp => ?_
  obtain ⟨t, h, q⟩ := hbody cdv A outer s H vs Q E hr hsp
  exact ⟨t, h.nox, q⟩
theorem Fun.binds {x qual : Str} {st : Stmt} {f : Addr} {fd : FuncData} {ps : List Str} (F : Fun K x qual st f fd)
    (h : ∀ (kV doc pm : Value) (an : Option Addr) (cdv ct : Value) (us : List Value), us.length = ps.length → bindArgs (PySem.W.fnOf x qual (defArgs st) (defBody st) (defScope st) .none kV doc pm an cdv ct) ⟨us, []⟩ = pure (ps.zip us)) : Binds K fd ps [] := by
  obtain ⟨oc, od, kV, doc, pm, an, cdv, ct, osl, rfl, lk, hcd⟩ := F.ex
  exact .all (h kV doc pm an cdv ct)
theorem fun_mk {x qual : Str} {st : Stmt} {f : Addr} {oc : Value} {od an : Option Addr} {osl : Array (Option Value)} {kV doc pm cdv ct : Value} (l : K.lookup f = some ⟨oc, od, .func (PySem.W.fnOf x qual (defArgs st) (defBody st) (defScope st) .none kV doc pm an cdv ct), osl⟩)
    (c : PySem.W.codeIn K cdv qual = true) (k : PySem.W.keepIn K (.ref f) = true) : Fun K x qual st f (PySem.W.fnOf x qual (defArgs st) (defBody st) (defScope st) .none kV doc pm an cdv ct) := ⟨⟨oc, od, kV, doc, pm, an, cdv, ct, osl, rfl, l, c⟩, k⟩
end
theorem small1000 {n : Nat} (h : n ≤ 1000) : n < sizeLine := Nat.lt_of_le_of_lt h (by decide)
section
variable {X : Cx}
theorem pv (i : Nat) {x : Str} {pos : Pos} (hN : X.N[i]? = some x := by rfl) (hv : Vis X.env.scope x := by first | exact Or.inl rfl | exact Or.inr (Or.inl rfl) | exact Or.inr (Or.inr rfl)) (hd : (x == ("__debug__" : Str)) = false := by decide)
    (hcd : (x == ("__classdict__" : Str)) = false := by decide) : PE X (.Name x pos) (tVar i) := pe_var hN hv hd hcd
end
theorem iteF {A B : Prop} (h : B) : if false = true then A else B := by
  rw [if_neg Bool.false_ne_true]
  exact h
theorem iteT {A B : Prop} (h : A) : if true = true then A else B := by
  rw [if_pos rfl]
  exact h
def Same (H H' : Hp) : Prop := ∀ b o, H b = some o → H' b = some o
theorem Same.refl (H : Hp) : Same H H := fun _ _ h => h
theorem Same.trans {H H1 H2 : Hp} (a : Same H H1) (b : Same H1 H2) : Same H H2 := fun c o h => b c o (a c o h)
theorem Same.free {H H' : Hp} (e : Same H H') {l : Addr} (h : H' l = Option.none) : H l = Option.none := by
  cases q : H l with
  | none => rfl
  | some o =>
    rw [e l o q] at h
    cases h
theorem Same.seq {K : PySem.W.Frag} {H H' : Hp} {a : Addr} {xs : List V} (e : Same H H') (h : SqL K H a xs) : SqL K H' a xs := by
  rcases h with (h | ⟨o, h⟩) | h
  · exact .inl (.inl (e _ _ h))
  · exact .inl (.inr ⟨o, e _ _ h⟩)
  · exact .inr h
end L2
namespace L2
open PySem PySem.Spec PyProof.Rows
section
variable {κ : Type} [DecidableEq κ]
def valV (kvs : List (κ × V)) (k : κ) : Option V := (kvs.find? fun kv => decide (kv.1 = k)).map (·.2)
def putK (kvs : List (κ × V)) (k : κ) (v : V) : List (κ × V) :=
  if (kvs.any fun kv => decide (kv.1 = k)) = true then kvs.map (fun kv => if kv.1 = k then (kv.1, v) else kv) else kvs ++ [(k, v)]
theorem valV_pos {p : κ × V} {r : List (κ × V)} {k : κ} (e : p.1 = k) : valV (p :: r) k = some p.2 := by simp [valV, List.find?_cons, e]
theorem valV_neg {p : κ × V} {r : List (κ × V)} {k : κ} (e : ¬ p.1 = k) : valV (p :: r) k = valV r k := by simp [valV, List.find?_cons, e]
theorem valV_any (k : κ) : ∀ kvs : List (κ × V), (kvs.any fun kv => decide (kv.1 = k)) = (valV kvs k).isSome
  | [] => rfl
  | p :: r => by
    rw [List.any_cons]
    by_cases e : p.1 = k
    · simp only [valV_pos e, decide_eq_true e, Bool.true_or, Option.isSome_some]
    · rw [valV_neg e, decide_eq_false e, Bool.false_or]; exact valV_any k r
theorem valV_map (k j : κ) (y : V) : ∀ kvs : List (κ × V), valV (kvs.map fun kv => if kv.1 = k then (kv.1, y) else kv) j = (valV kvs j).map fun x => if j = k then y else x
  | [] => rfl
  | p :: r => by
    have ih := valV_map k j y r
    rw [List.map_cons]
    by_cases h : p.1 = k
    · rw [if_pos h]
      by_cases e : p.1 = j
      · rw [valV_pos (p := (p.1, y)) e, valV_pos e, Option.map_some, if_pos (e.symm.trans h)]
      · rw [valV_neg (p := (p.1, y)) e, valV_neg e, ih]
    · rw [if_neg h]
      by_cases e : p.1 = j
      · rw [valV_pos (p := p) e, valV_pos e, Option.map_some, if_neg (fun z => h (e.trans z))]
      · rw [valV_neg (p := p) e, valV_neg e, ih]
theorem valV_snoc (k j : κ) (y : V) : ∀ kvs : List (κ × V), valV kvs k = none → valV (kvs ++ [(k, y)]) j = if j = k then some y else valV kvs j
  | [], _ => by
    by_cases e : k = j
    · rw [if_pos e.symm]; exact valV_pos (p := (k, y)) e
    · rw [if_neg (fun z => e z.symm)]; exact valV_neg (p := (k, y)) e
  | p :: r, hn => by
    rw [List.cons_append]
    have hk : ¬ p.1 = k := fun z => by rw [valV_pos z] at hn; cases hn
    rw [valV_neg hk] at hn
    have ih := valV_snoc k j y r hn
    by_cases e : p.1 = j
    · rw [valV_pos e, valV_pos e, if_neg (fun z => hk (e.trans z))]
    · rw [valV_neg e, valV_neg e, ih]
theorem valV_put (kvs : List (κ × V)) (k j : κ) (y : V) : valV (putK kvs k y) j = if j = k then some y else valV kvs j := by
  unfold putK
  by_cases a : (kvs.any fun kv => decide (kv.1 = k)) = true
  · rw [if_pos a, valV_map]
    rw [valV_any] at a
    by_cases e : j = k
    · obtain ⟨x, hx⟩ := Option.isSome_iff_exists.mp a
      rw [if_pos e, e, hx, Option.map_some, if_pos rfl]
    · rw [if_neg e]
      cases valV kvs j with
      | none => rfl
      | some x => rw [Option.map_some, if_neg e]
  · rw [if_neg a]
    refine valV_snoc k j y kvs ?_
    rw [valV_any] at a
    cases q : valV kvs k with
    | none => rfl
    | some x => rw [q] at a; exact (a rfl).elim
theorem length_putK (kvs : List (κ × V)) (k : κ) (v : V) : (putK kvs k v).length ≤ kvs.length + 1 := by
  unfold putK
  split
  · rw [List.length_map]; omega
  · rw [List.length_append, List.length_cons, List.length_nil]; omega
theorem RelO.isSome_eq {o : Option V} {u : Option Value} (r : RelO o u) : o.isSome = u.isSome := by
  cases o with
  | none => cases u with
    | none => rfl
    | some _ => exact (show False from r).elim
  | some _ => cases u with
    | none => exact (show False from r).elim
    | some _ => rfl
theorem RelO.getD {o : Option V} {u : Option Value} {d : V} {d' : Value} (r : RelO o u) (rd : RelV d d') : RelV (o.getD d) (u.getD d') := by
  cases o with
  | none => cases u with
    | none => exact rd
    | some _ => exact (show False from r).elim
  | some _ => cases u with
    | none => exact (show False from r).elim
    | some _ => exact r
theorem KV.val {kvs : List (κ × V)} {vs : List (κ × Value)} (r : KV kvs vs) (k : κ) : RelO (valV kvs k) (valueAt vs k) := by
  unfold KV at r
  induction r with
  | nil => exact True.intro
  | @cons p q ps qs h t ih =>
    obtain ⟨h1, h2⟩ := h
    by_cases e : p.1 = k
    · have e' : q.1 = k := h1.symm.trans e
      have b : valueAt (q :: qs) k = some q.2 := by simp [valueAt, List.find?_cons, e']
      rw [valV_pos e, b]; exact h2
    · have e' : ¬ q.1 = k := fun z => e (h1.trans z)
      have b : valueAt (q :: qs) k = valueAt qs k := by simp [valueAt, List.find?_cons, e']
      rw [valV_neg e, b]; exact ih
theorem KV.any {kvs : List (κ × V)} {vs : List (κ × Value)} (r : KV kvs vs) (k : κ) : (kvs.any fun kv => decide (kv.1 = k)) = vs.any fun kv => decide (kv.1 = k) := by
  unfold KV at r
  induction r with
  | nil => rfl
  | cons h t ih => rw [List.any_cons, List.any_cons, ih, h.1]
theorem KV.repl {kvs : List (κ × V)} {vs : List (κ × Value)} (r : KV kvs vs) (k : κ) {y : V} {u : Value} (ry : RelV y u) :
    KV (kvs.map fun kv => if kv.1 = k then (kv.1, y) else kv) (vs.map fun kv => if kv.1 = k then (kv.1, u) else kv) := by
  unfold KV at r ⊢
  induction r with
  | nil => exact .nil
  | @cons p q ps qs h t ih =>
    rw [List.map_cons, List.map_cons]
    refine .cons ?_ ih
    obtain ⟨h1, h2⟩ := h
    by_cases e : p.1 = k
    · rw [if_pos e, if_pos (h1.symm.trans e)]; exact ⟨h1, ry⟩
    · rw [if_neg e, if_neg (fun z => e (h1.trans z))]; exact ⟨h1, h2⟩
theorem KV.put {kvs : List (κ × V)} {vs : List (κ × Value)} (r : KV kvs vs) (k : κ) {y : V} {u : Value} (ry : RelV y u) : KV (putK kvs k y) (stored vs k u) := by
  unfold putK stored
  rw [r.any k]
  by_cases e : (vs.any fun kv => decide (kv.1 = k)) = true
  · rw [if_pos e, if_pos e]; exact r.repl k ry
  · rw [if_neg e, if_neg e]; exact Paired.snoc r ⟨rfl, ry⟩
theorem KV.length {kvs : List (κ × V)} {vs : List (κ × Value)} (r : KV kvs vs) : kvs.length = vs.length := Paired.length r
end
theorem kV_is {P : Program} {w : World} {k : Key} {u : Value} (r : RelV (kV k) u) : (mixKind P w).is k u = true := by
  cases k with
  | inl i => obtain ⟨t, e⟩ := (show ∃ t, u = Value.int i t from r); subst e; exact mixKind_int P w i t
  | inr x => obtain ⟨t, e⟩ := (show ∃ t, u = Value.str x t from r); subst e; exact mixKind_str P w x t
theorem items_are {P : Program} {w : World} : ∀ {ks : List Key} {us : List Value}, Vals (ks.map kV) us → ItemsAre (mixKind P w) ks us
  | [], _, r => by rw [List.map_nil] at r; cases r; exact .nil
  | k :: ks, _, r => by
    rw [List.map_cons] at r
    cases r with
    | cons h t => exact .cons (kV_is h) (items_are t)
abbrev KT (H : Hp) : List (List Key × V) → List (List Key × Addr × Value) → Prop := Paired fun p q => p.1 = q.1 ∧ H q.2.1 = some (.tup (p.1.map kV)) ∧ RelV p.2 q.2.2
theorem KT.val {H : Hp} {kvs : List (List Key × V)} {xs : List (List Key × Addr × Value)} (r : KT H kvs xs) (k : List Key) : RelO (valV kvs k) ((atKey xs k).map (·.2)) := by
  induction r with
  | nil => exact True.intro
  | @cons p q ps qs h t ih =>
    obtain ⟨h1, _, h2⟩ := h
    by_cases e : p.1 = k
    · have e' : q.1 = k := h1.symm.trans e
      have b : atKey (q :: qs) k = some q.2 := by simp [atKey, List.find?_cons, e']
      rw [valV_pos e, b]; exact h2
    · have e' : ¬ q.1 = k := fun z => e (h1.trans z)
      have b : atKey (q :: qs) k = atKey qs k := by simp [atKey, List.find?_cons, e']
      rw [valV_neg e, b]; exact ih
theorem KT.repl {H : Hp} {kvs : List (List Key × V)} {xs : List (List Key × Addr × Value)} (r : KT H kvs xs) (k : List Key) {y : V} {u : Value} (ry : RelV y u) :
    KT H (kvs.map fun kv => if kv.1 = k then (kv.1, y) else kv) (xs.map (putAt k u)) := by
  induction r with
  | nil => exact .nil
  | @cons p q ps qs h t ih =>
    rw [List.map_cons, List.map_cons]
    refine .cons ?_ ih
    obtain ⟨h1, h2, h3⟩ := h
    unfold putAt
    by_cases e : p.1 = k
    · rw [if_pos e, if_pos (h1.symm.trans e)]; exact ⟨h1, h2, ry⟩
    · rw [if_neg e, if_neg (fun z => e (h1.trans z))]; exact ⟨h1, h2, h3⟩
theorem KT.put {H : Hp} {kvs : List (List Key × V)} {xs : List (List Key × Addr × Value)} (r : KT H kvs xs) (k : List Key) {b : Addr} {y : V} {u : Value} (hb : H b = some (.tup (k.map kV))) (ry : RelV y u) :
    KT H (putK kvs k y) (storedH xs k b u) := by
  have e : (kvs.any fun kv => decide (kv.1 = k)) = (atKey xs k).isSome := by
    rw [valV_any, (r.val k).isSome_eq, Option.isSome_map]
  unfold putK storedH
  rw [e]
  by_cases q : (atKey xs k).isSome = true
  · rw [if_pos q, if_pos q]; exact r.repl k ry
  · rw [if_neg q, if_neg q]; exact Paired.snoc r ⟨rfl, hb, ry⟩
theorem KT.keeps {H H' : Hp} {kvs : List (List Key × V)} {xs : List (List Key × Addr × Value)} (r : KT H kvs xs) (ht : ∀ b ys, H b = some (.tup ys) → H' b = some (.tup ys)) : KT H' kvs xs :=
  Paired.mapP r fun _ _ z => ⟨z.1, ht _ _ z.2.1, z.2.2⟩
section
variable {P : Program} {w : World} {H : Hp} {h : Heap} {a : Addr}
theorem rd_of {u : HO} (ok : HOk P w H h) (e : Rd H a u) : ObjOk P w H h a u := e.ok ok
theorem dk_rd {kvs : List (Key × V)} (ok : HOk P w H h) (e : Rd H a (.dK kvs)) : kvs.length ≤ sizeLine ∧ (a == sysModules) = false ∧ ∃ vs, KV kvs vs ∧ h.DictOf (mixKind P w) a vs :=
  show ObjOk P w H h a (.dK kvs) from rd_of ok e
theorem dk_of {kvs : List (Key × V)} (ok : HOk P w H h) (e : H a = some (.dK kvs)) : kvs.length ≤ sizeLine ∧ (a == sysModules) = false ∧ ∃ vs, KV kvs vs ∧ h.DictOf (mixKind P w) a vs := dk_rd ok (.inl e)
theorem key_of {ks : List Key} (ok : HOk P w H h) (e : H a = some (.tup (ks.map kV))) : (tupleKind (mixKind P w)).is h ks a := by
  obtain ⟨_, its, r, o, h1, h2, n, h3⟩ := (show ObjOk P w H h a (.tup (ks.map kV)) from ok a _ e)
  exact ⟨o, its.toArray, n, h1, h2, h3, by simpa using items_are r⟩
theorem dt_rd {kvs : List (List Key × V)} (ok : HOk P w H h) (e : Rd H a (.dT kvs)) : kvs.length ≤ sizeLine ∧ (a == sysModules) = false ∧
    ∃ xs, KT H kvs xs ∧ h.DictOfH (tupleKind (mixKind P w)) a xs := by
  obtain ⟨z, y, xs, r, o, es, ep, h1, h2, h3, h4, h5⟩ := (show ObjOk P w H h a (.dT kvs) from rd_of ok e)
  refine ⟨z, y, xs, r, o, es, ep, h1, h2, h3, h4, fun x hx => ?_, h5⟩
  have all : ∀ {l : List (List Key × V)} {m : List (List Key × Addr × Value)}, KT H l m → ∀ x ∈ m, (tupleKind (mixKind P w)).is h x.1 x.2.1 := by
    intro l m q
    induction q with
    | nil => intro x hx; exact nomatch hx
    | @cons p q ps qs hq t ih =>
      intro x hx
      rcases List.mem_cons.mp hx with e | hx
      · subst e
        exact key_of ok (by rw [← hq.1]; exact hq.2.1)
      · exact ih x hx
  exact all r x hx
theorem dt_of {kvs : List (List Key × V)} (ok : HOk P w H h) (e : H a = some (.dT kvs)) : kvs.length ≤ sizeLine ∧ (a == sysModules) = false ∧
    ∃ xs, KT H kvs xs ∧ h.DictOfH (tupleKind (mixKind P w)) a xs := dt_rd ok (.inl e)
end
def DGet (H : Hp) (a : Addr) (y : V) (r : Option V) : Prop :=
  (∃ kvs k, Rd H a (.dK kvs) ∧ y = kV k ∧ r = valV kvs k) ∨ ∃ kvs k b, Rd H a (.dT kvs) ∧ y = .ref b ∧ H b = some (.tup (k.map kV)) ∧ r = valV kvs k
def DPut (H : Hp) (a : Addr) (y v : V) (H' : Hp) : Prop :=
  (∃ kvs k, H a = some (.dK kvs) ∧ y = kV k ∧ kvs.length < sizeLine ∧ H' = upd H a (.dK (putK kvs k v))) ∨
  ∃ kvs k b, H a = some (.dT kvs) ∧ y = .ref b ∧ H b = some (.tup (k.map kV)) ∧ kvs.length < sizeLine ∧ H' = upd H a (.dT (putK kvs k v))
theorem DGet.k {H : Hp} {a : Addr} {kvs : List (Key × V)} {k : Key} (e : H a = some (.dK kvs)) : DGet H a (kV k) (valV kvs k) := .inl ⟨kvs, k, .inl e, rfl, rfl⟩
theorem DPut.k {H : Hp} {a : Addr} {kvs : List (Key × V)} {k : Key} {v : V} (e : H a = some (.dK kvs)) (hl : kvs.length < sizeLine) : DPut H a (kV k) v (upd H a (.dK (putK kvs k v))) := .inl ⟨kvs, k, e, rfl, hl, rfl⟩
theorem DPut.t {H : Hp} {a b : Addr} {kvs : List (List Key × V)} {k : List Key} {v : V} (e : H a = some (.dT kvs)) (eb : H b = some (.tup (k.map kV))) (hl : kvs.length < sizeLine) :
    DPut H a (.ref b) v (upd H a (.dT (putK kvs k v))) := .inr ⟨kvs, k, b, e, rfl, eb, hl, rfl⟩
section
variable {X : Cx} {pins : List (Addr × Obj)} {σ : St} {H : Hp} {s : Shared} {a : Addr} {y v : V} {u r : Value} {o : Option V} {A : Around} {E : Value → Shared → Prop}
theorem Inv.big (I : Inv X pins σ H s) : sysModules < s.heap.objs.size := by
  have h : mainGlobals < s.heap.objs.size := (I.mod.glob.keeps I.bk).lt
  exact Nat.lt_trans (by decide) h
theorem d_write {h' : Heap} {t' : Nat} {ob : HO} (I : Inv X pins σ H s) (mu : Mut (H a)) (hs : Heap.SameBut a s.heap h') (he : ∃ q, h'.get? a = some q) (new : ObjOk X.prog X.w (upd H a ob) h' a ob) :
    Inv X pins σ (upd H a ob) { s with heap := h', toks := t' } :=
  I.write (x := a) (e := a) mu (.inl rfl) (fun b q hb z => (hs.2 b hb).trans z) he new
theorem dk_new {P : Program} {w : World} {H' : Hp} {h' : Heap} {kvs : List (Key × V)} {vs : List (Key × Value)} (z : kvs.length ≤ sizeLine) (hd : (a == sysModules) = false) (rel : KV kvs vs) (dd : h'.DictOf (mixKind P w) a vs) :
    ObjOk P w H' h' a (.dK kvs) := ⟨z, hd, vs, rel, dd⟩
theorem d_setItem {H' : Hp} {Q : Unit → Shared → Prop} (hu : A.units + 1 < cLine) (I : Inv X pins σ H s) (g : DPut H a y v H') (ry : RelV y u) (rv : RelV v r) (h : ∀ s', Inv X pins σ H' s' → Q () s') :
    wpAny (model X.prog X.w) A (setItem (.ref a) u r) Q E s := by
  rcases g with ⟨kvs, k, e, ey, l, eH⟩ | ⟨kvs, k, b, e, ey, eb, l, eH⟩
  · subst ey eH
    obtain ⟨z, hd, vs, rel, dd⟩ := dk_of I.hok e
    have hz : vs.length ≤ sizeLine := by rw [← rel.length]; exact z
    have hl : (putK kvs k v).length ≤ sizeLine := by have := length_putK kvs k v; omega
    refine wpAny_setItem_pairs (hsz := hz) (kV_is ry) dd fun h' dd' hs => h _ ?_
    have he : ∃ q, h'.get? a = some q := let ⟨q, _, _, hq, _⟩ := dd'; ⟨q, hq⟩
    exact d_write I (by rw [e]; exact True.intro) hs he (dk_new hl hd (rel.put k rv) dd')
  · subst ey eH
    cases (show u = Value.ref b from ry)
    obtain ⟨z, hd, xs, rel, dd⟩ := dt_of I.hok e
    have hz : xs.length ≤ sizeLine := by rw [← Paired.length rel]; exact z
    have hl : (putK kvs k v).length ≤ sizeLine := by have := length_putK kvs k v; omega
    refine wpAny_setItem_heap (hsz := hz) (tupleKind_room_in1 hu) (key_of I.hok eb) dd fun h' dd' hs => h _ ?_
    obtain ⟨q, es, ep, hq, h2, h3, h4, _, h5⟩ := dd'
    refine d_write I (by rw [e]; exact True.intro) hs ⟨q, hq⟩ ⟨hl, hd, _, (rel.put k eb rv).keeps fun c ys ec => ?_, q, es, ep, hq, h2, h3, h4, h5⟩
    rw [upd_ne (ne_of ec e (fun z => nomatch z))]
    exact ec
end
section
variable {X : Cx} {pins : List (Addr × Obj)} {σ : St} {H : Hp} {s : Shared} {a : Addr} {kvs : List (Key × V)} {k : Key} {u : Value} {A : Around} {E : Value → Shared → Prop}
end
def sDPut (td ty tv : TE) : TS := fun D σ H => tv σ H fun v H1 => td σ H1 fun x H2 => ty σ H2 fun y H3 => ∃ a H4, x = .ref a ∧ DPut H3 a y v H4 ∧ D.nx σ H4
section
variable {X : Cx} {o i e value : Expr} {pos pos' tpos : Pos} {td ty tv : TE}
theorem ps_dput (hu : X.A.units + 1 < cLine) (ho : PE X o td) (hi : PE X i ty) (hv : PE X value tv) (hs : swapsWith value (some (.Subscript o i pos')) pos.line X.env = pure false) :
    PS X (.Assign [.Subscript o i pos'] value pos) (sDPut td ty tv) := by
  intro pins s σ H D I h
  refine wpAny_Assign_Subscript (thn (hv pins s σ H _ I h) fun r s1 ⟨v, H1, I1, rv, q1⟩ => thn (ho pins s1 σ H1 _ I1 q1) fun u s2 ⟨x, H2, I2, rx, q2⟩ => thn (hi pins s2 σ H2 _ I2 q2) fun iv s3 ⟨y, H3, I3, ry, a, H4, ex, g, q3⟩ => ?_) hs
  subst ex
  obtain rfl : u = Value.ref a := rx
  exact d_setItem hu I3 g ry rv fun s4 I4 => ⟨σ, H4, I4, q3⟩
end
theorem dk_empty {P : Program} {w : World} {H : Hp} (h : Heap) (hb : sysModules < h.objs.size) : ObjOk P w H (h.push { cls := .type "dict", data := .dict #[] }) h.objs.size (.dK []) :=
  ⟨Nat.zero_le _, beq_eq_false_iff_ne.mpr (Ne.symm (Nat.ne_of_lt hb)), [], .nil, Heap.DictOf.new h⟩
theorem dt_empty {P : Program} {w : World} {H : Hp} (h : Heap) (hb : sysModules < h.objs.size) : ObjOk P w H (h.push { cls := .type "dict", data := .dict #[] }) h.objs.size (.dT []) :=
  ⟨Nat.zero_le _, beq_eq_false_iff_ne.mpr (Ne.symm (Nat.ne_of_lt hb)), [], .nil, _, #[], 0, Heap.get?_push_size _ rfl, ⟨rfl, rfl, rfl⟩, rfl, rfl, List.nodup_nil⟩
def tDNewK : TE := fun _ H Q => ∀ p, H p = none → Q (.ref p) (upd H p (.dK []))
def tDNewT : TE := fun _ H Q => ∀ p, H p = none → Q (.ref p) (upd H p (.dT []))
section
variable {X : Cx} {pos : Pos}
theorem pe_dnewK : PE X (.Dict [] [] pos) tDNewK := fun pins s σ H Q I h =>
  wpAny_Dict_empty ⟨.ref s.heap.objs.size, _, I.laid (a := s.heap.objs.size) (o := .dK []) (t' := s.toks) (fun _ _ q => Heap.get?_push_of_some _ q) (Nat.le_refl _) (dk_empty s.heap I.big), rfl, h _ (I.hok.fresh (Nat.le_refl _))⟩
theorem pe_dnewT : PE X (.Dict [] [] pos) tDNewT := fun pins s σ H Q I h =>
  wpAny_Dict_empty ⟨.ref s.heap.objs.size, _, I.laid (a := s.heap.objs.size) (o := .dT []) (t' := s.toks) (fun _ _ q => Heap.get?_push_of_some _ q) (Nat.le_refl _) (dt_empty s.heap I.big), rfl, h _ (I.hok.fresh (Nat.le_refl _))⟩
end
structure M2 (X : Cx) (o : Expr) (m : Str) (apos : Pos) (e f : Expr) (cpos : Pos) : Prop where
  base : attributeBase o m X.env (eval o X.env) = eval o X.env
  few : ((backTo cpos (starEach [e, f] X.env)).all (fun x => !x.1) && (backToKw cpos (keywordEach [] X.env)).all (fun x => x.1.isSome)
    && decide (([e, f] : List Expr).length + ([] : List Keyword).length + (if ([] : List Keyword).isEmpty then 0 else 1) < 30)) = true
  line : (apos.endLine == cpos.line) = true
  trees : backTo cpos (starEach [e, f] X.env) = [(false, eval e X.env), (false, eval f X.env)]
def IsD (H : Hp) (a : Addr) : Prop := (∃ kvs, Rd H a (.dK kvs)) ∨ ∃ kvs, Rd H a (.dT kvs)
theorem isD_at {X : Cx} {pins : List (Addr × Obj)} {σ : St} {H : Hp} {s : Shared} {a : Addr} (I : Inv X pins σ H s) (d : IsD H a) :
    s.TypeIs (.ref a) "dict" ∧ (∀ b, Value.ref a = .ref b → ∃ ob, s.heap.get? b = some ob ∧ ob.dict = none) ∧ (a == sysModules) = false := by
  rcases d with ⟨kvs, e⟩ | ⟨kvs, e⟩
  · obtain ⟨_, hd, vs, _, dd⟩ := dk_rd I.hok e
    refine ⟨dd.typeIs, fun b q => ?_, hd⟩
    cases q
    obtain ⟨ob, _, _, h1, h2, _⟩ := dd
    exact ⟨ob, h1, h2.2.1⟩
  · obtain ⟨_, hd, xs, _, dd⟩ := dt_rd I.hok e
    refine ⟨dd.typeIs, fun b q => ?_, hd⟩
    cases q
    obtain ⟨ob, _, _, h1, h2, _⟩ := dd
    exact ⟨ob, h1, h2.2.1⟩
section
variable {X : Cx} {pins : List (Addr × Obj)} {σ : St} {H : Hp} {s : Shared} {a : Addr} {y d : V} {u r : Value} {o : Option V} {A : Around} {E : Value → Shared → Prop}
theorem d_get2 {Q : Value → Shared → Prop} (hu : A.units + 1 < cLine) (I : Inv X pins σ H s) (g : DGet H a y o) (ry : RelV y u) (rd : RelV d r) (h : ∀ w' s', Inv X pins σ H s' → RelV (o.getD d) w' → Q w' s') :
    wpAny (model X.prog X.w) A (call (.builtin "dict.get") [.ref a, u, r]) Q E s := by
  rcases g with ⟨kvs, k, e, ey, l⟩ | ⟨kvs, k, b, e, ey, eb, l⟩
  · subst ey
    obtain ⟨z, hd, vs, rel, dd⟩ := dk_rd I.hok e
    refine call_meetsIn PySem.F.slot_dict_get dd.typeIs PySem.F.entry_dict_get (PySem.F.args_dict_get_3 _ _ _) (meets_dict_get_default (mixKind X.prog X.w) a (kV_is ry) hd r) ⟨_, dd.mapOf, h _ _ (I.tok _) ?_⟩
    rw [l]
    exact (rel.val k).getD rd
  · subst ey
    cases (show u = Value.ref b from ry)
    obtain ⟨z, hd, xs, rel, dd⟩ := dt_rd I.hok e
    refine call_meetsIn PySem.F.slot_dict_get dd.typeIs PySem.F.entry_dict_get (PySem.F.args_dict_get_3 _ _ _) (meetsH_dict_get_default (tupleKind (mixKind X.prog X.w)) a b hd r) ⟨tupleKind_room_in1 hu, k, xs, key_of I.hok eb, dd, h _ _ (I.tok _) ?_⟩
    rw [l]
    exact (rel.val k).getD rd
end
def tDGet2 (td ty tx : TE) : TE := fun σ H Q => td σ H fun x H1 => ∃ a, x = .ref a ∧ IsD H1 a ∧ ty σ H1 fun y H2 => tx σ H2 fun z H3 => ∃ o, DGet H3 a y o ∧ Q (o.getD z) H3
section
variable {X : Cx} {o e f : Expr} {apos cpos : Pos} {td ty tx : TE}
theorem pe_dget2 (hu : X.A.units + 1 < cLine) (ho : PE X o td) (he : PE X e ty) (hf : PE X f tx) (m : M2 X o "get" apos e f cpos) : PE X (.Call (.Attribute o "get" apos) [e, f] [] cpos) (tDGet2 td ty tx) := by
  intro pins s σ H Q I h
  refine wpAny_Call_method m.base m.few m.line PySem.F.plainAttrs_dict PySem.F.slot_dict_get PySem.F.type_dict_get (thn (ho pins s σ H _ I h) fun u s1 ⟨x, H1, I1, rx, a, ex, d, q1⟩ => ?_)
  subst ex
  obtain rfl : u = Value.ref a := rx
  obtain ⟨t1, t2, _⟩ := isD_at I1 d
  refine ⟨t1, t2, ?_⟩
  rw [m.trees]
  refine Calls.callWith_builtin rfl (Calls.evalArgs_plain (Calls.spliced_cons (thn (he pins s1 σ H1 _ I1 q1) fun iv s2 ⟨y, H2, I2, ry, q2⟩ =>
    Calls.spliced_cons (thn (hf pins s2 σ H2 _ I2 q2) fun fv s3 ⟨z, H3, I3, rz, ov, g, q3⟩ => Calls.spliced_nil ?_))))
  exact d_get2 hu I3 g ry rz fun w' s4 I4 rw' => ⟨_, H3, I4, rw', q3⟩
end
section
variable {X : Cx} {pins : List (Addr × Obj)} {σ : St} {H : Hp} {s : Shared} {a : Addr} {kvs : List (Key × V)} {A : Around} {E : Value → Shared → Prop}
end
section
variable {X : Cx} {pins : List (Addr × Obj)} {σ : St} {H : Hp} {s : Shared} {a : Addr} {y : V} {u : Value} {A : Around} {E : Value → Shared → Prop}
end
end L2
namespace L2
open PySem PySem.Spec PyProof.Rows
section
variable {X : Cx}
end
end L2
set_option Elab.async false
set_option linter.all false
set_option maxRecDepth 100000
set_option maxHeartbeats 4000000
namespace K22H
open PySem PySem.Spec PyProof.Rows L2
def top (i : Nat) : Stmt := PySem.Challenge.pw_vesselhall_k22_texts_read.main.body.getD i (.Pass ⟨0, 0, 0, 0⟩)
def spLaw (K : PySem.W.Frag) : Sp := fun vs H Q _ => ∃ (a : Addr) (ns : List Int), vs = [.ref a] ∧ SqL K H a (ns.map V.int) ∧ ns.length ≤ 63 ∧ ∀ H', Q (.bl true) H'
theorem walk {l : PySem.W.OpenLaw} {q : Program} {loose : List Str} {XP : (Str → Option Value) → Heap → Prop} {YP : World → Heap → Prop} {d : DefRec} {K : Params → PySem.W.Frag} (hn : l.most = some 63) (hdf : d.params.defaults = [])
    (hY : ∀ (w : World) (h : Heap), YP w h → (K w.params).In h)
    (F : ∀ (w : World) (mg : Str → Option Value) (fa : Addr) (h : Heap), (K w.params).In h → h.Ns mainGlobals mg → mg d.name = some (.ref fa) →
      ∃ fd : FuncData, (∀ (s : Shared) (u : Value), BindsTo s fd ⟨[u], []⟩ [("_law_script", u)]) ∧ ∀ base : Heap, (K w.params).In base → base.Ns mainGlobals mg → FnOk l.prog w (K w.params) mg base CX0 6 fa fd ["_law_script"] (spLaw (K w.params))) :
    PySem.W.WalkO q loose XP YP l.row.toRowW d [] (fun f vs => PySem.call f vs) :=
  L2.walk_of (n := 63) (k := 6) (x := "_law_script") (CX := fun _ => CX0) (sp := fun w => spLaw (K w.params)) hn (by decide) hdf ⟨rfl, by decide, by decide⟩ hY F (fun _ _ a ns hl _ hS => ⟨a, ns, rfl, hS, hl, fun _ => rfl⟩) fun _ _ _ _ _ z => z
open PySem.W in
set_option maxRecDepth 100000 in
set_option maxHeartbeats 0 in
theorem headed (hW : ∀ {w : World} {K : PySem.W.Frag} {h : Heap} {mg : Str → Option Value} {fa f0 f1 f2 f3 f4 f5 f6 f7 f8 f9 f10 f11 f12 f13 f14 f15 f16 f17 f18 f19 f20 f21 f22 f23 f24 f25 f26 f27 f28 f29 f30 f31 f32 f33 f34 f35 : Addr} (X : K.In h) (G : h.Ns mainGlobals mg) (hfa : mg "law" = some (.ref fa))
    {od0 an0 od1 an1 od2 an2 od3 an3 od4 an4 od5 an5 od6 an6 od7 an7 od8 an8 od9 an9 od10 an10 od11 an11 od12 an12 od13 an13 od14 an14 od15 an15 od16 an16 od17 an17 od18 an18 od19 an19 od20 an20 od21 an21 od22 an22 od23 an23 od24 an24 od25 an25 od26 an26 od27 an27 od28 an28 od29 an29 od30 an30 od31 an31 od32 an32 od33 an33 od34 an34 od35 an35 : Option Addr} {sl0 sl1 sl2 sl3 sl4 sl5 sl6 sl7 sl8 sl9 sl10 sl11 sl12 sl13 sl14 sl15 sl16 sl17 sl18 sl19 sl20 sl21 sl22 sl23 sl24 sl25 sl26 sl27 sl28 sl29 sl30 sl31 sl32 sl33 sl34 sl35 : Array (Option Value)} {oc0 kV0 dc0 pm0 cd0 ct0 oc1 kV1 dc1 pm1 cd1 ct1 oc2 kV2 dc2 pm2 cd2 ct2 oc3 kV3 dc3 pm3 cd3 ct3 oc4 kV4 dc4 pm4 cd4 ct4 oc5 kV5 dc5 pm5 cd5 ct5 oc6 kV6 dc6 pm6 cd6 ct6 oc7 kV7 dc7 pm7 cd7 ct7 oc8 kV8 dc8 pm8 cd8 ct8 oc9 kV9 dc9 pm9 cd9 ct9 oc10 kV10 dc10 pm10 cd10 ct10 oc11 kV11 dc11 pm11 cd11 ct11 oc12 kV12 dc12 pm12 cd12 ct12 oc13 kV13 dc13 pm13 cd13 ct13 oc14 kV14 dc14 pm14 cd14 ct14 oc15 kV15 dc15 pm15 cd15 ct15 oc16 kV16 dc16 pm16 cd16 ct16 oc17 kV17 dc17 pm17 cd17 ct17 oc18 kV18 dc18 pm18 cd18 ct18 oc19 kV19 dc19 pm19 cd19 ct19 oc20 kV20 dc20 pm20 cd20 ct20 oc21 kV21 dc21 pm21 cd21 ct21 oc22 kV22 dc22 pm22 cd22 ct22 oc23 kV23 dc23 pm23 cd23 ct23 oc24 kV24 dc24 pm24 cd24 ct24 oc25 kV25 dc25 pm25 cd25 ct25 oc26 kV26 dc26 pm26 cd26 ct26 oc27 kV27 dc27 pm27 cd27 ct27 oc28 kV28 dc28 pm28 cd28 ct28 oc29 kV29 dc29 pm29 cd29 ct29 oc30 kV30 dc30 pm30 cd30 ct30 oc31 kV31 dc31 pm31 cd31 ct31 oc32 kV32 dc32 pm32 cd32 ct32 oc33 kV33 dc33 pm33 cd33 ct33 oc34 kV34 dc34 pm34 cd34 ct34 oc35 kV35 dc35 pm35 cd35 ct35 : Value}
    (a0 : PySem.W.nsIn K mainGlobals "whole" = some (some (.ref f0))) (l0 : K.lookup f0 = some ⟨oc0, od0, .func (PySem.W.fnOf "whole" "whole" (defArgs (top 9)) (defBody (top 9)) (defScope (top 9)) .none kV0 dc0 pm0 an0 cd0 ct0), sl0⟩) (c0 : PySem.W.codeIn K cd0 "whole" = true) (k0 : PySem.W.keepIn K (.ref f0) = true)
    (a1 : PySem.W.nsIn K mainGlobals "greatest_divisor" = some (some (.ref f1))) (l1 : K.lookup f1 = some ⟨oc1, od1, .func (PySem.W.fnOf "greatest_divisor" "greatest_divisor" (defArgs (top 10)) (defBody (top 10)) (defScope (top 10)) .none kV1 dc1 pm1 an1 cd1 ct1), sl1⟩) (c1 : PySem.W.codeIn K cd1 "greatest_divisor" = true) (k1 : PySem.W.keepIn K (.ref f1) = true)
    (a2 : PySem.W.nsIn K mainGlobals "fraction" = some (some (.ref f2))) (l2 : K.lookup f2 = some ⟨oc2, od2, .func (PySem.W.fnOf "fraction" "fraction" (defArgs (top 11)) (defBody (top 11)) (defScope (top 11)) .none kV2 dc2 pm2 an2 cd2 ct2), sl2⟩) (c2 : PySem.W.codeIn K cd2 "fraction" = true) (k2 : PySem.W.keepIn K (.ref f2) = true)
    (a3 : PySem.W.nsIn K mainGlobals "before" = some (some (.ref f3))) (l3 : K.lookup f3 = some ⟨oc3, od3, .func (PySem.W.fnOf "before" "before" (defArgs (top 12)) (defBody (top 12)) (defScope (top 12)) .none kV3 dc3 pm3 an3 cd3 ct3), sl3⟩) (c3 : PySem.W.codeIn K cd3 "before" = true) (k3 : PySem.W.keepIn K (.ref f3) = true)
    (a4 : PySem.W.nsIn K mainGlobals "is_word" = some (some (.ref f4))) (l4 : K.lookup f4 = some ⟨oc4, od4, .func (PySem.W.fnOf "is_word" "is_word" (defArgs (top 20)) (defBody (top 20)) (defScope (top 20)) .none kV4 dc4 pm4 an4 cd4 ct4), sl4⟩) (c4 : PySem.W.codeIn K cd4 "is_word" = true) (k4 : PySem.W.keepIn K (.ref f4) = true)
    (a5 : PySem.W.nsIn K mainGlobals "stuffs_of" = some (some (.ref f5))) (l5 : K.lookup f5 = some ⟨oc5, od5, .func (PySem.W.fnOf "stuffs_of" "stuffs_of" (defArgs (top 21)) (defBody (top 21)) (defScope (top 21)) .none kV5 dc5 pm5 an5 cd5 ct5), sl5⟩) (c5 : PySem.W.codeIn K cd5 "stuffs_of" = true) (k5 : PySem.W.keepIn K (.ref f5) = true)
    (a6 : PySem.W.nsIn K mainGlobals "is_heap" = some (some (.ref f6))) (l6 : K.lookup f6 = some ⟨oc6, od6, .func (PySem.W.fnOf "is_heap" "is_heap" (defArgs (top 22)) (defBody (top 22)) (defScope (top 22)) .none kV6 dc6 pm6 an6 cd6 ct6), sl6⟩) (c6 : PySem.W.codeIn K cd6 "is_heap" = true) (k6 : PySem.W.keepIn K (.ref f6) = true)
    (a7 : PySem.W.nsIn K mainGlobals "turnings_of" = some (some (.ref f7))) (l7 : K.lookup f7 = some ⟨oc7, od7, .func (PySem.W.fnOf "turnings_of" "turnings_of" (defArgs (top 23)) (defBody (top 23)) (defScope (top 23)) .none kV7 dc7 pm7 an7 cd7 ct7), sl7⟩) (c7 : PySem.W.codeIn K cd7 "turnings_of" = true) (k7 : PySem.W.keepIn K (.ref f7) = true)
    (a8 : PySem.W.nsIn K mainGlobals "check_turnings" = some (some (.ref f8))) (l8 : K.lookup f8 = some ⟨oc8, od8, .func (PySem.W.fnOf "check_turnings" "check_turnings" (defArgs (top 24)) (defBody (top 24)) (defScope (top 24)) .none kV8 dc8 pm8 an8 cd8 ct8), sl8⟩) (c8 : PySem.W.codeIn K cd8 "check_turnings" = true) (k8 : PySem.W.keepIn K (.ref f8) = true)
    (a9 : PySem.W.nsIn K mainGlobals "heaps_of" = some (some (.ref f9))) (l9 : K.lookup f9 = some ⟨oc9, od9, .func (PySem.W.fnOf "heaps_of" "heaps_of" (defArgs (top 25)) (defBody (top 25)) (defScope (top 25)) .none kV9 dc9 pm9 an9 cd9 ct9), sl9⟩) (c9 : PySem.W.codeIn K cd9 "heaps_of" = true) (k9 : PySem.W.keepIn K (.ref f9) = true)
    (a10 : PySem.W.nsIn K mainGlobals "made" = some (some (.ref f10))) (l10 : K.lookup f10 = some ⟨oc10, od10, .func (PySem.W.fnOf "made" "made" (defArgs (top 26)) (defBody (top 26)) (defScope (top 26)) .none kV10 dc10 pm10 an10 cd10 ct10), sl10⟩) (c10 : PySem.W.codeIn K cd10 "made" = true) (k10 : PySem.W.keepIn K (.ref f10) = true)
    (a11 : PySem.W.nsIn K mainGlobals "stuff_text" = some (some (.ref f11))) (l11 : K.lookup f11 = some ⟨oc11, od11, .func (PySem.W.fnOf "stuff_text" "stuff_text" (defArgs (top 29)) (defBody (top 29)) (defScope (top 29)) .none kV11 dc11 pm11 an11 cd11 ct11), sl11⟩) (c11 : PySem.W.codeIn K cd11 "stuff_text" = true) (k11 : PySem.W.keepIn K (.ref f11) = true)
    (a12 : PySem.W.nsIn K mainGlobals "heap_text" = some (some (.ref f12))) (l12 : K.lookup f12 = some ⟨oc12, od12, .func (PySem.W.fnOf "heap_text" "heap_text" (defArgs (top 30)) (defBody (top 30)) (defScope (top 30)) .none kV12 dc12 pm12 an12 cd12 ct12), sl12⟩) (c12 : PySem.W.codeIn K cd12 "heap_text" = true) (k12 : PySem.W.keepIn K (.ref f12) = true)
    (a13 : PySem.W.nsIn K mainGlobals "pace_text" = some (some (.ref f13))) (l13 : K.lookup f13 = some ⟨oc13, od13, .func (PySem.W.fnOf "pace_text" "pace_text" (defArgs (top 31)) (defBody (top 31)) (defScope (top 31)) .none kV13 dc13 pm13 an13 cd13 ct13), sl13⟩) (c13 : PySem.W.codeIn K cd13 "pace_text" = true) (k13 : PySem.W.keepIn K (.ref f13) = true)
    (a14 : PySem.W.nsIn K mainGlobals "turning_text" = some (some (.ref f14))) (l14 : K.lookup f14 = some ⟨oc14, od14, .func (PySem.W.fnOf "turning_text" "turning_text" (defArgs (top 32)) (defBody (top 32)) (defScope (top 32)) .none kV14 dc14 pm14 an14 cd14 ct14), sl14⟩) (c14 : PySem.W.codeIn K cd14 "turning_text" = true) (k14 : PySem.W.keepIn K (.ref f14) = true)
    (a15 : PySem.W.nsIn K mainGlobals "heap_guessed" = some (some (.ref f15))) (l15 : K.lookup f15 = some ⟨oc15, od15, .func (PySem.W.fnOf "heap_guessed" "heap_guessed" (defArgs (top 33)) (defBody (top 33)) (defScope (top 33)) .none kV15 dc15 pm15 an15 cd15 ct15), sl15⟩) (c15 : PySem.W.codeIn K cd15 "heap_guessed" = true) (k15 : PySem.W.keepIn K (.ref f15) = true)
    (a16 : PySem.W.nsIn K mainGlobals "number_guessed" = some (some (.ref f16))) (l16 : K.lookup f16 = some ⟨oc16, od16, .func (PySem.W.fnOf "number_guessed" "number_guessed" (defArgs (top 34)) (defBody (top 34)) (defScope (top 34)) .none kV16 dc16 pm16 an16 cd16 ct16), sl16⟩) (c16 : PySem.W.codeIn K cd16 "number_guessed" = true) (k16 : PySem.W.keepIn K (.ref f16) = true)
    (a17 : PySem.W.nsIn K mainGlobals "pace_guessed" = some (some (.ref f17))) (l17 : K.lookup f17 = some ⟨oc17, od17, .func (PySem.W.fnOf "pace_guessed" "pace_guessed" (defArgs (top 35)) (defBody (top 35)) (defScope (top 35)) .none kV17 dc17 pm17 an17 cd17 ct17), sl17⟩) (c17 : PySem.W.codeIn K cd17 "pace_guessed" = true) (k17 : PySem.W.keepIn K (.ref f17) = true)
    (a18 : PySem.W.nsIn K mainGlobals "turning_read" = some (some (.ref f18))) (l18 : K.lookup f18 = some ⟨oc18, od18, .func (PySem.W.fnOf "turning_read" "turning_read" (defArgs (top 36)) (defBody (top 36)) (defScope (top 36)) .none kV18 dc18 pm18 an18 cd18 ct18), sl18⟩) (c18 : PySem.W.codeIn K cd18 "turning_read" = true) (k18 : PySem.W.keepIn K (.ref f18) = true)
    (a19 : PySem.W.nsIn K mainGlobals "read" = some (some (.ref f19))) (l19 : K.lookup f19 = some ⟨oc19, od19, .func (PySem.W.fnOf "read" "read" (defArgs (top 37)) (defBody (top 37)) (defScope (top 37)) .none kV19 dc19 pm19 an19 cd19 ct19), sl19⟩) (c19 : PySem.W.codeIn K cd19 "read" = true) (k19 : PySem.W.keepIn K (.ref f19) = true)
    (a20 : PySem.W.nsIn K mainGlobals "_law_cell_at" = some (some (.ref f20))) (l20 : K.lookup f20 = some ⟨oc20, od20, .func (PySem.W.fnOf "_law_cell_at" "_law_cell_at" (defArgs (top 39)) (defBody (top 39)) (defScope (top 39)) .none kV20 dc20 pm20 an20 cd20 ct20), sl20⟩) (c20 : PySem.W.codeIn K cd20 "_law_cell_at" = true) (k20 : PySem.W.keepIn K (.ref f20) = true)
    (a21 : PySem.W.nsIn K mainGlobals "_law_mixed" = some (some (.ref f21))) (l21 : K.lookup f21 = some ⟨oc21, od21, .func (PySem.W.fnOf "_law_mixed" "_law_mixed" (defArgs (top 40)) (defBody (top 40)) (defScope (top 40)) .none kV21 dc21 pm21 an21 cd21 ct21), sl21⟩) (c21 : PySem.W.codeIn K cd21 "_law_mixed" = true) (k21 : PySem.W.keepIn K (.ref f21) = true)
    (a22 : PySem.W.nsIn K mainGlobals "_law_divisor" = some (some (.ref f22))) (l22 : K.lookup f22 = some ⟨oc22, od22, .func (PySem.W.fnOf "_law_divisor" "_law_divisor" (defArgs (top 41)) (defBody (top 41)) (defScope (top 41)) .none kV22 dc22 pm22 an22 cd22 ct22), sl22⟩) (c22 : PySem.W.codeIn K cd22 "_law_divisor" = true) (k22 : PySem.W.keepIn K (.ref f22) = true)
    (a23 : PySem.W.nsIn K mainGlobals "_law_lowest" = some (some (.ref f23))) (l23 : K.lookup f23 = some ⟨oc23, od23, .func (PySem.W.fnOf "_law_lowest" "_law_lowest" (defArgs (top 42)) (defBody (top 42)) (defScope (top 42)) .none kV23 dc23 pm23 an23 cd23 ct23), sl23⟩) (c23 : PySem.W.codeIn K cd23 "_law_lowest" = true) (k23 : PySem.W.keepIn K (.ref f23) = true)
    (a24 : PySem.W.nsIn K mainGlobals "_law_base" = some (some (.ref f24))) (l24 : K.lookup f24 = some ⟨oc24, od24, .func (PySem.W.fnOf "_law_base" "_law_base" (defArgs (top 43)) (defBody (top 43)) (defScope (top 43)) .none kV24 dc24 pm24 an24 cd24 ct24), sl24⟩) (c24 : PySem.W.codeIn K cd24 "_law_base" = true) (k24 : PySem.W.keepIn K (.ref f24) = true)
    (a25 : PySem.W.nsIn K mainGlobals "_law_word" = some (some (.ref f25))) (l25 : K.lookup f25 = some ⟨oc25, od25, .func (PySem.W.fnOf "_law_word" "_law_word" (defArgs (top 44)) (defBody (top 44)) (defScope (top 44)) .none kV25 dc25 pm25 an25 cd25 ct25), sl25⟩) (c25 : PySem.W.codeIn K cd25 "_law_word" = true) (k25 : PySem.W.keepIn K (.ref f25) = true)
    (a26 : PySem.W.nsIn K mainGlobals "_law_words" = some (some (.ref f26))) (l26 : K.lookup f26 = some ⟨oc26, od26, .func (PySem.W.fnOf "_law_words" "_law_words" (defArgs (top 45)) (defBody (top 45)) (defScope (top 45)) .none kV26 dc26 pm26 an26 cd26 ct26), sl26⟩) (c26 : PySem.W.codeIn K cd26 "_law_words" = true) (k26 : PySem.W.keepIn K (.ref f26) = true)
    (a27 : PySem.W.nsIn K mainGlobals "_law_heap" = some (some (.ref f27))) (l27 : K.lookup f27 = some ⟨oc27, od27, .func (PySem.W.fnOf "_law_heap" "_law_heap" (defArgs (top 46)) (defBody (top 46)) (defScope (top 46)) .none kV27 dc27 pm27 an27 cd27 ct27), sl27⟩) (c27 : PySem.W.codeIn K cd27 "_law_heap" = true) (k27 : PySem.W.keepIn K (.ref f27) = true)
    (a28 : PySem.W.nsIn K mainGlobals "_law_pool" = some (some (.ref f28))) (l28 : K.lookup f28 = some ⟨oc28, od28, .func (PySem.W.fnOf "_law_pool" "_law_pool" (defArgs (top 47)) (defBody (top 47)) (defScope (top 47)) .none kV28 dc28 pm28 an28 cd28 ct28), sl28⟩) (c28 : PySem.W.codeIn K cd28 "_law_pool" = true) (k28 : PySem.W.keepIn K (.ref f28) = true)
    (a29 : PySem.W.nsIn K mainGlobals "_law_pace" = some (some (.ref f29))) (l29 : K.lookup f29 = some ⟨oc29, od29, .func (PySem.W.fnOf "_law_pace" "_law_pace" (defArgs (top 48)) (defBody (top 48)) (defScope (top 48)) .none kV29 dc29 pm29 an29 cd29 ct29), sl29⟩) (c29 : PySem.W.codeIn K cd29 "_law_pace" = true) (k29 : PySem.W.keepIn K (.ref f29) = true)
    (a30 : PySem.W.nsIn K mainGlobals "_law_turnings" = some (some (.ref f30))) (l30 : K.lookup f30 = some ⟨oc30, od30, .func (PySem.W.fnOf "_law_turnings" "_law_turnings" (defArgs (top 49)) (defBody (top 49)) (defScope (top 49)) .none kV30 dc30 pm30 an30 cd30 ct30), sl30⟩) (c30 : PySem.W.codeIn K cd30 "_law_turnings" = true) (k30 : PySem.W.keepIn K (.ref f30) = true)
    (a31 : PySem.W.nsIn K mainGlobals "_law_vessel" = some (some (.ref f31))) (l31 : K.lookup f31 = some ⟨oc31, od31, .func (PySem.W.fnOf "_law_vessel" "_law_vessel" (defArgs (top 50)) (defBody (top 50)) (defScope (top 50)) .none kV31 dc31 pm31 an31 cd31 ct31), sl31⟩) (c31 : PySem.W.codeIn K cd31 "_law_vessel" = true) (k31 : PySem.W.keepIn K (.ref f31) = true)
    (a32 : PySem.W.nsIn K mainGlobals "_law_same" = some (some (.ref f32))) (l32 : K.lookup f32 = some ⟨oc32, od32, .func (PySem.W.fnOf "_law_same" "_law_same" (defArgs (top 51)) (defBody (top 51)) (defScope (top 51)) .none kV32 dc32 pm32 an32 cd32 ct32), sl32⟩) (c32 : PySem.W.codeIn K cd32 "_law_same" = true) (k32 : PySem.W.keepIn K (.ref f32) = true)
    (a33 : PySem.W.nsIn K mainGlobals "_law_heap_text" = some (some (.ref f33))) (l33 : K.lookup f33 = some ⟨oc33, od33, .func (PySem.W.fnOf "_law_heap_text" "_law_heap_text" (defArgs (top 52)) (defBody (top 52)) (defScope (top 52)) .none kV33 dc33 pm33 an33 cd33 ct33), sl33⟩) (c33 : PySem.W.codeIn K cd33 "_law_heap_text" = true) (k33 : PySem.W.keepIn K (.ref f33) = true)
    (a34 : PySem.W.nsIn K mainGlobals "_law_turning_text" = some (some (.ref f34))) (l34 : K.lookup f34 = some ⟨oc34, od34, .func (PySem.W.fnOf "_law_turning_text" "_law_turning_text" (defArgs (top 53)) (defBody (top 53)) (defScope (top 53)) .none kV34 dc34 pm34 an34 cd34 ct34), sl34⟩) (c34 : PySem.W.codeIn K cd34 "_law_turning_text" = true) (k34 : PySem.W.keepIn K (.ref f34) = true)
    (a35 : PySem.W.nsIn K mainGlobals "law" = some (some (.ref f35))) (l35 : K.lookup f35 = some ⟨oc35, od35, .func (PySem.W.fnOf "law" "law" (defArgs (top 54)) (defBody (top 54)) (defScope (top 54)) .none kV35 dc35 pm35 an35 cd35 ct35), sl35⟩) (c35 : PySem.W.codeIn K cd35 "law" = true) (k35 : PySem.W.keepIn K (.ref f35) = true)
    (z_len : PySem.W.nsIn K mainGlobals "len" = some none)
    (z_abs : PySem.W.nsIn K mainGlobals "abs" = some none)
    (z_range : PySem.W.nsIn K mainGlobals "range" = some none)
    (z_isinstance : PySem.W.nsIn K mainGlobals "isinstance" = some none)
    (z_int : PySem.W.nsIn K mainGlobals "int" = some none)
    (z_bool : PySem.W.nsIn K mainGlobals "bool" = some none)
    (z_tuple : PySem.W.nsIn K mainGlobals "tuple" = some none)
    (z_list : PySem.W.nsIn K mainGlobals "list" = some none)
    (z_str : PySem.W.nsIn K mainGlobals "str" = some none)
    (z_zip : PySem.W.nsIn K mainGlobals "zip" = some none)
    (z_set : PySem.W.nsIn K mainGlobals "set" = some none)
    (z_all : PySem.W.nsIn K mainGlobals "all" = some none)
    (z_any : PySem.W.nsIn K mainGlobals "any" = some none)
    (z_min : PySem.W.nsIn K mainGlobals "min" = some none)
    (z_max : PySem.W.nsIn K mainGlobals "max" = some none)
    (z_sum : PySem.W.nsIn K mainGlobals "sum" = some none)
    (z_sorted : PySem.W.nsIn K mainGlobals "sorted" = some none)
    (z_enumerate : PySem.W.nsIn K mainGlobals "enumerate" = some none)
    (z_reversed : PySem.W.nsIn K mainGlobals "reversed" = some none)
    (z_dict : PySem.W.nsIn K mainGlobals "dict" = some none)
    (z_ord : PySem.W.nsIn K mainGlobals "ord" = some none)
    (z_divmod : PySem.W.nsIn K mainGlobals "divmod" = some none)
    {tk0 tk1 tk2 tk3 tk4 tn0 tn1 tp0 tp1 tp2 tq0 tq1 tq2 : Tok} {nq pD : Addr} {nqd : Option Addr} {nqn pDn : Nat} {nqs : Array (Option Value)} {ph0 ph1 ph2 : Int}
    (hcn0 : PySem.W.nsIn K mainGlobals "MOST_STUFFS" = some (some (.int 5 tk0)))
    (hcn1 : PySem.W.nsIn K mainGlobals "MOST_SIGNS" = some (some (.int 8 tk1)))
    (hcn2 : PySem.W.nsIn K mainGlobals "MOST_PIECES" = some (some (.int 3 tk2)))
    (hcn3 : PySem.W.nsIn K mainGlobals "MOST_TURNINGS" = some (some (.int 8 tk3)))
    (hcn4 : PySem.W.nsIn K mainGlobals "MOST_HEAPS" = some (some (.int 8 tk4)))
    (hcnN : PySem.W.nsIn K mainGlobals "NOUGHT" = some (some (.ref nq)))
    (hcnL : K.lookup nq = some ⟨.type "tuple", nqd, .seq #[.int 0 tn0, .int 1 tn1] nqn, nqs⟩)
    (hpwN : PySem.W.nsIn K mainGlobals "PIECES_WRITTEN" = some (some (.ref pD)))
    (hpwL : K.lookup pD = some ⟨.type "dict", none, .dict #[⟨ph0, .str "" tp0, .int 1 tq0⟩, ⟨ph1, .str "2" tp1, .int 2 tq1⟩, ⟨ph2, .str "3" tp2, .int 3 tq2⟩] pDn, #[]⟩)
    (hpw0 : ph0 = PySem.hashStr w "")
    (hpw1 : ph1 = PySem.hashStr w "2")
    (hpw2 : ph2 = PySem.hashStr w "3")
    (hpwS : (pD == PySem.sysModules) = false)
    , ∃ fd : FuncData, (∀ (s : Shared) (v : Value), BindsTo s fd ⟨[v], []⟩ [("_law_script", v)]) ∧ ∀ base : Heap, K.In base → base.Ns mainGlobals mg → FnOk PySem.Challenge.rw_vesselhall_k22_texts_read.prog w K mg base CX0 6 fa fd ["_law_script"] (spLaw K)) : PySem.Challenge.rw_vesselhall_k22_texts_read.Holds := by
  refine said ?_
  w_on
  refine PySem.W.holds_open (q := qv) (loose := ["PIECES_WRITTEN"]) (Xt := fun s => PySem.W.xlAt qv [] s && PySem.W.recOk [] s) (XP := PySem.W.XL qv []) (Yf := PySem.W.Hook.obs (PySem.W.kHook pre.heap_1 asl asl_ok)) (Ya := PySem.W.Hook.val (PySem.W.kHook pre.heap_1 asl asl_ok)) (YP := PySem.W.Hook.says (PySem.W.kHook pre.heap_1 asl asl_ok)) (N := 5628) hooks (PySem.W.Hook.of (PySem.W.kHook pre.heap_1 asl asl_ok)) (PySem.W.Hook.keeps (PySem.W.kHook pre.heap_1 asl asl_ok)) (fun s e => PySem.W.xl_of s (Bool.and_eq_true_iff.mp e).1) PySem.W.XL.keeps (by rfl) (by rfl) (by rfl) (fun s e => PySem.W.recFacts_of (Bool.and_eq_true_iff.mp e).2) (by rfl) (by first | assumption | decide +kernel) (by decide +kernel) ⟨rfl, rfl, rfl, rfl, rfl, by decide +kernel⟩ ?_ ?_
  · clear hW; w_witness2
  k_fill
  refine walk (l := PySem.Challenge.rw_vesselhall_k22_texts_read) rfl rfl (fun w h Y => PySem.W.kIn_of Y) ?F
  case F =>
    intro w mg fa h KX G hmg
    refine' hW KX G hmg ?a0 ?l0 ?c0 ?k0 ?a1 ?l1 ?c1 ?k1 ?a2 ?l2 ?c2 ?k2 ?a3 ?l3 ?c3 ?k3 ?a4 ?l4 ?c4 ?k4 ?a5 ?l5 ?c5 ?k5 ?a6 ?l6 ?c6 ?k6 ?a7 ?l7 ?c7 ?k7 ?a8 ?l8 ?c8 ?k8 ?a9 ?l9 ?c9 ?k9 ?a10 ?l10 ?c10 ?k10 ?a11 ?l11 ?c11 ?k11 ?a12 ?l12 ?c12 ?k12 ?a13 ?l13 ?c13 ?k13 ?a14 ?l14 ?c14 ?k14 ?a15 ?l15 ?c15 ?k15 ?a16 ?l16 ?c16 ?k16 ?a17 ?l17 ?c17 ?k17 ?a18 ?l18 ?c18 ?k18 ?a19 ?l19 ?c19 ?k19 ?a20 ?l20 ?c20 ?k20 ?a21 ?l21 ?c21 ?k21 ?a22 ?l22 ?c22 ?k22 ?a23 ?l23 ?c23 ?k23 ?a24 ?l24 ?c24 ?k24 ?a25 ?l25 ?c25 ?k25 ?a26 ?l26 ?c26 ?k26 ?a27 ?l27 ?c27 ?k27 ?a28 ?l28 ?c28 ?k28 ?a29 ?l29 ?c29 ?k29 ?a30 ?l30 ?c30 ?k30 ?a31 ?l31 ?c31 ?k31 ?a32 ?l32 ?c32 ?k32 ?a33 ?l33 ?c33 ?k33 ?a34 ?l34 ?c34 ?k34 ?a35 ?l35 ?c35 ?k35 ?z_len ?z_abs ?z_range ?z_isinstance ?z_int ?z_bool ?z_tuple ?z_list ?z_str ?z_zip ?z_set ?z_all ?z_any ?z_min ?z_max ?z_sum ?z_sorted ?z_enumerate ?z_reversed ?z_dict ?z_ord ?z_divmod ?hcn0 ?hcn1 ?hcn2 ?hcn3 ?hcn4 ?hcnN ?hcnL ?hpwN ?hpwL ?hpw0 ?hpw1 ?hpw2 ?hpwS
    (case a0 => k_is)
    (case l0 => k_is)
    (case c0 => k_is)
    (case k0 => k_is)
    (case a1 => k_is)
    (case l1 => k_is)
    (case c1 => k_is)
    (case k1 => k_is)
    (case a2 => k_is)
    (case l2 => k_is)
    (case c2 => k_is)
    (case k2 => k_is)
    (case a3 => k_is)
    (case l3 => k_is)
    (case c3 => k_is)
    (case k3 => k_is)
    (case a4 => k_is)
    (case l4 => k_is)
    (case c4 => k_is)
    (case k4 => k_is)
    (case a5 => k_is)
    (case l5 => k_is)
    (case c5 => k_is)
    (case k5 => k_is)
    (case a6 => k_is)
    (case l6 => k_is)
    (case c6 => k_is)
    (case k6 => k_is)
    (case a7 => k_is)
    (case l7 => k_is)
    (case c7 => k_is)
    (case k7 => k_is)
    (case a8 => k_is)
    (case l8 => k_is)
    (case c8 => k_is)
    (case k8 => k_is)
    (case a9 => k_is)
    (case l9 => k_is)
    (case c9 => k_is)
    (case k9 => k_is)
    (case a10 => k_is)
    (case l10 => k_is)
    (case c10 => k_is)
    (case k10 => k_is)
    (case a11 => k_is)
    (case l11 => k_is)
    (case c11 => k_is)
    (case k11 => k_is)
    (case a12 => k_is)
    (case l12 => k_is)
    (case c12 => k_is)
    (case k12 => k_is)
    (case a13 => k_is)
    (case l13 => k_is)
    (case c13 => k_is)
    (case k13 => k_is)
    (case a14 => k_is)
    (case l14 => k_is)
    (case c14 => k_is)
    (case k14 => k_is)
    (case a15 => k_is)
    (case l15 => k_is)
    (case c15 => k_is)
    (case k15 => k_is)
    (case a16 => k_is)
    (case l16 => k_is)
    (case c16 => k_is)
    (case k16 => k_is)
    (case a17 => k_is)
    (case l17 => k_is)
    (case c17 => k_is)
    (case k17 => k_is)
    (case a18 => k_is)
    (case l18 => k_is)
    (case c18 => k_is)
    (case k18 => k_is)
    (case a19 => k_is)
    (case l19 => k_is)
    (case c19 => k_is)
    (case k19 => k_is)
    (case a20 => k_is)
    (case l20 => k_is)
    (case c20 => k_is)
    (case k20 => k_is)
    (case a21 => k_is)
    (case l21 => k_is)
    (case c21 => k_is)
    (case k21 => k_is)
    (case a22 => k_is)
    (case l22 => k_is)
    (case c22 => k_is)
    (case k22 => k_is)
    (case a23 => k_is)
    (case l23 => k_is)
    (case c23 => k_is)
    (case k23 => k_is)
    (case a24 => k_is)
    (case l24 => k_is)
    (case c24 => k_is)
    (case k24 => k_is)
    (case a25 => k_is)
    (case l25 => k_is)
    (case c25 => k_is)
    (case k25 => k_is)
    (case a26 => k_is)
    (case l26 => k_is)
    (case c26 => k_is)
    (case k26 => k_is)
    (case a27 => k_is)
    (case l27 => k_is)
    (case c27 => k_is)
    (case k27 => k_is)
    (case a28 => k_is)
    (case l28 => k_is)
    (case c28 => k_is)
    (case k28 => k_is)
    (case a29 => k_is)
    (case l29 => k_is)
    (case c29 => k_is)
    (case k29 => k_is)
    (case a30 => k_is)
    (case l30 => k_is)
    (case c30 => k_is)
    (case k30 => k_is)
    (case a31 => k_is)
    (case l31 => k_is)
    (case c31 => k_is)
    (case k31 => k_is)
    (case a32 => k_is)
    (case l32 => k_is)
    (case c32 => k_is)
    (case k32 => k_is)
    (case a33 => k_is)
    (case l33 => k_is)
    (case c33 => k_is)
    (case k33 => k_is)
    (case a34 => k_is)
    (case l34 => k_is)
    (case c34 => k_is)
    (case k34 => k_is)
    (case a35 => k_is)
    (case l35 => k_is)
    (case c35 => k_is)
    (case k35 => k_is)
    (case z_len => k_is)
    (case z_abs => k_is)
    (case z_range => k_is)
    (case z_isinstance => k_is)
    (case z_int => k_is)
    (case z_bool => k_is)
    (case z_tuple => k_is)
    (case z_list => k_is)
    (case z_str => k_is)
    (case z_zip => k_is)
    (case z_set => k_is)
    (case z_all => k_is)
    (case z_any => k_is)
    (case z_min => k_is)
    (case z_max => k_is)
    (case z_sum => k_is)
    (case z_sorted => k_is)
    (case z_enumerate => k_is)
    (case z_reversed => k_is)
    (case z_dict => k_is)
    (case z_ord => k_is)
    (case z_divmod => k_is)
    (case hcn0 => k_is)
    (case hcn1 => k_is)
    (case hcn2 => k_is)
    (case hcn3 => k_is)
    (case hcn4 => k_is)
    (case hcnN => k_is)
    (case hcnL => k_is)
    (case hpwN => k_is)
    (case hpwL => k_is)
    (case hpw0 => exact rfl)
    (case hpw1 => exact rfl)
    (case hpw2 => exact rfl)
    (case hpwS => exact rfl)
end K22H
set_option Elab.async false
set_option linter.all false
set_option maxRecDepth 100000
set_option maxHeartbeats 4000000
namespace L2
open PySem PySem.Spec PyProof.Rows
section
variable {X : Cx} {a b c : Expr} {ta tb tc : TE} {pos : Pos}
def CDivW (_ j : Int) : Prop := j ≠ 0 ∧ j.natAbs < 2 ^ 9000
theorem op_fdivW : OpR X (binaryOp .FloorDiv) (rI CDivW fun i j => .int (i.fdiv j)) := opI fun i j _ _ _ _ _ hc q => by
  have h0 : j.natAbs ≠ 0 := by have := hc.1; omega
  exact floordiv_int hc.1 q (.inl (PyProof.noPylong_of_log2 ((Nat.log2_lt h0).mpr hc.2)))
def CMulW (i j : Int) : Prop := i.natAbs < 2 ^ 20000 ∧ j.natAbs < 2 ^ 20000
theorem CMulW.ok {i j : Int} (h : CMulW i j) : IntMulOk i j := by
  have h1 := PyProof.Rows.intBits_le h.1
  have h2 := PyProof.Rows.intBits_le h.2
  unfold IntMulOk
  have e : Builtin.Int.intTooBig ((Builtin.Int.intBits i : Int) + (Builtin.Int.intBits j : Int)) = false := by
    unfold Builtin.Int.intTooBig
    refine decide_eq_false ?_
    have : (40000 : Int) ≤ bitsLine := by decide
    omega
  intro q
  rw [e] at q
  simp at q
theorem op_mulW : OpR X (binaryOp .Mult) (rI CMulW fun i j => .int (i * j)) := opI fun _ _ _ _ _ _ _ hc q => mul_int q hc.ok
theorem call_isi : CallR X (.builtin "isinstance") (fun xs H Q => ∃ x n t b, xs = [x, .ty n] ∧ TyOf X.K H x t ∧ PySem.W.kitOne X.K t (.type n) = some b ∧ Q (.bl b) H) := by
  intro pins s σ H xs us Q I r h
  obtain ⟨x, n, t, b, rfl, ty, e, q⟩ := h
  obtain ⟨u, u', rfl, rx, ry⟩ := vals2 r
  obtain rfl : u' = Value.type n := ry
  exact isinst_ok I rx ty e fun tk => ⟨.bl b, H, I.tok tk, rfl, q⟩
end
structure FnC (P : Program) (w : World) (K : PySem.W.Frag) (mg : Str → Option Value) (base : Heap) (CX : CXT) (k : Nat) (x : Str) (ps : List Str) (sp : Sp) : Prop where
  ex : ∃ (f : Addr) (fd : FuncData), FnOk P w K mg base CX k f fd ps sp ∧ mg x = some (.ref f) ∧ PySem.W.keepIn K (.ref f) = true ∧ Binds K fd ps []
structure FunAt (K : PySem.W.Frag) (mg : Str → Option Value) (x : Str) (st : Stmt) (ps : List Str) : Prop where
  ex : ∃ (f : Addr) (fd : FuncData), Fun K x x st f fd ∧ mg x = some (.ref f) ∧ Binds K fd ps []
section
variable {P : Program} {w : World} {K : PySem.W.Frag} {mg : Str → Option Value} {base : Heap} {CX : CXT}
theorem funAt_mk {h : Heap} {x : Str} {st : Stmt} {f : Addr} {ps : List Str} {oc : Value} {od an : Option Addr} {osl : Array (Option Value)} {kV doc pm cdv ct : Value} (X : K.In h) (G : h.Ns mainGlobals mg)
    (a : PySem.W.nsIn K mainGlobals x = some (some (.ref f))) (l : K.lookup f = some ⟨oc, od, .func (PySem.W.fnOf x x (defArgs st) (defBody st) (defScope st) .none kV doc pm an cdv ct), osl⟩)
    (c : PySem.W.codeIn K cdv x = true) (k : PySem.W.keepIn K (.ref f) = true)
    (hb : ∀ (kV doc pm : Value) (an : Option Addr) (cdv ct : Value) (us : List Value), us.length = ps.length → bindArgs (PySem.W.fnOf x x (defArgs st) (defBody st) (defScope st) .none kV doc pm an cdv ct) ⟨us, []⟩ = pure (ps.zip us)) :
    FunAt K mg x st ps := by
  have F := fun_mk (K := K) (x := x) (qual := x) (st := st) l c k
  exact ⟨f, _, F, PySem.W.mg_of X G a, F.binds hb⟩
theorem FnC.mono {j k : Nat} {x : Str} {ps : List Str} {sp : Sp} (F : FnC P w K mg base CX j x ps sp) (h : j ≤ k) : FnC P w K mg base CX k x ps sp :=
  let ⟨f, fd, G, r⟩ := F.ex
  ⟨f, fd, G.mono h, r⟩
theorem FunAt.ok {x : Str} {st : Stmt} {N ps : List Str} {k : Nat} {sp : Sp} (F : FunAt K mg x st ps) (S : FnScope N ps (defScope st)) (len : ∀ vs H Q E, sp vs H Q E → vs.length = ps.length)
    (hbody : ∀ (f : Addr) (cdv : Value) (A : Around) (outer : List Env) (s : Shared) (H : Hp) (vs : List V) (Q : VK) (E : XK), Room k (A.deeper (envOfC x (defScope st) s.heap.objs.size f cdv)) → sp vs H Q E →
      ∃ t, PSs (cxOf CX0 P w K mg base N x (defScope st) f cdv A outer s H E).nox (defBody st) t ∧ t { nx := fun _ H' => Q .non H', rt := Q } (start N vs) H) : FnC P w K mg base CX0 (k + 1) x ps sp := by
  obtain ⟨f, fd, G, hm, hb⟩ := F.ex
  exact ⟨f, fd, G.ok S len (hbody f), hm, G.kp, hb⟩
end
section
variable {X : Cx} {CX : CXT} {k : Nat} {ps : List Str} {sp : Sp} {E : XK} {x : Str} {p pos : Pos} {e : Expr} {es : List Expr} {t : TA}
theorem pe_callX (F : FnC X.prog X.w X.K X.mg X.base CX k x ps sp) (hr : Room k X.A) (hg : Gl X x) (hx : Passes CX X E) (ha : PA X (e :: es) t)
    (hdb : (x == ("__debug__" : Str)) = false := by decide) (he : starEach (e :: es) X.env = (false, eval e X.env) :: starEach es X.env := by rfl) (hpl : (backTo pos (starEach es X.env)).any (·.1) = false := by rfl) :
    PE X (.Call (.Name x p) (e :: es) [] pos) (tCall sp [] E t) := by
  obtain ⟨f, fd, G, hm, kp, hb⟩ := F.ex
  exact pe_call G hr hg hm kp hb .nil hx ha hdb he hpl
theorem pe_callF (F : FnC X.prog X.w X.K X.mg X.base CX0 k x ps sp) (hr : Room k X.A) (hg : Gl X x) (ha : PA X (e :: es) t)
    (hdb : (x == ("__debug__" : Str)) = false := by decide) (he : starEach (e :: es) X.env = (false, eval e X.env) :: starEach es X.env := by rfl) (hpl : (backTo pos (starEach es X.env)).any (·.1) = false := by rfl) :
    PE X (.Call (.Name x p) (e :: es) [] pos) (tCall sp [] E0 t) := pe_callX F hr hg pass0 ha hdb he hpl
end
theorem same_new {H : Hp} {p : Addr} (h : H p = none) (o : HO) : Same H (upd H p o) := fun b u q => by rw [upd_ne (ne_of_none q h)]; exact q
theorem Same.seqT {K : PySem.W.Frag} {H H' : Hp} {a : Addr} {xs : List V} (e : Same H H') (h : SqT K H a xs) : SqT K H' a xs := by
  rcases h with (h | ⟨o, h⟩) | h
  · exact .inl (.inl (e _ _ h))
  · exact .inl (.inr ⟨o, e _ _ h⟩)
  · exact .inr h
end L2
namespace L2
open PySem PySem.Spec PyProof.Rows
structure Blt (mg : Str → Option Value) : Prop where
  len : mg "len" = none
  abs : mg "abs" = none
  range : mg "range" = none
  isinstance : mg "isinstance" = none
  int : mg "int" = none
  bool : mg "bool" = none
  tuple : mg "tuple" = none
  list : mg "list" = none
  str : mg "str" = none
  zip : mg "zip" = none
  set : mg "set" = none
  all : mg "all" = none
  any : mg "any" = none
  min : mg "min" = none
  max : mg "max" = none
  sum : mg "sum" = none
  sorted : mg "sorted" = none
  enumerate : mg "enumerate" = none
  reversed : mg "reversed" = none
  dict : mg "dict" = none
  ord : mg "ord" = none
  divmod : mg "divmod" = none
theorem bb_len : bootBuiltins "len" = some (.builtin "len") := by decide +kernel
theorem bb_abs : bootBuiltins "abs" = some (.builtin "abs") := by decide +kernel
theorem bb_isinstance : bootBuiltins "isinstance" = some (.builtin "isinstance") := by decide +kernel
theorem bb_int : bootBuiltins "int" = some (.type "int") := by decide +kernel
theorem bb_bool : bootBuiltins "bool" = some (.type "bool") := by decide +kernel
theorem bb_tuple : bootBuiltins "tuple" = some (.type "tuple") := by decide +kernel
theorem bb_list : bootBuiltins "list" = some (.type "list") := by decide +kernel
theorem bb_str : bootBuiltins "str" = some (.type "str") := by decide +kernel
theorem iteNE {y z : Int} {A B : Prop} (h1 : y ≠ z → A) (h2 : y = z → B) : if (!decide (V.int y = V.int z)) = true then A else B := by
  by_cases h : y = z
  · subst h
    rw [decide_eq_true rfl]
    exact iteF (h2 rfl)
  · rw [decide_eq_false (fun q => h (V.int.inj q))]
    exact iteT (h1 h)
theorem iteD {c : Prop} [Decidable c] {A B : Prop} (h1 : c → A) (h2 : ¬ c → B) : if decide c = true then A else B := by
  by_cases h : c
  · rw [decide_eq_true h]
    exact iteT (h1 h)
  · rw [decide_eq_false h]
    exact iteF (h2 h)
end L2
namespace L2
open PySem PySem.Spec PyProof.Rows
abbrev qAdd : R2 := rI0 fun i j => .int (i + j)
abbrev qSub : R2 := rI0 fun i j => .int (i - j)
abbrev rMulW : R2 := rI CMulW fun i j => .int (i * j)
abbrev rDiv : R2 := rI CDiv fun i j => .int (i / j)
abbrev rDivW : R2 := rI CDivW fun i j => .int (i.fdiv j)
abbrev rMod : R2 := rI (fun _ j => 0 < j) fun i j => .int (i % j)
abbrev rModN : R2 := rI (fun _ j => j ≠ 0) fun i j => .int (i.fmod j)
abbrev rPow : R2 := rI CPow fun i j => .int (i ^ j.toNat)
abbrev rLt : R2 := rI0 fun i j => .bl (decide (i < j))
abbrev rLe : R2 := rI0 fun i j => .bl (decide (i ≤ j))
abbrev rGt : R2 := rI0 fun i j => .bl (decide (j < i))
abbrev rIsN : R2 := fun x y H Q => y = .non ∧ Q (.bl (decide (x = .non))) H
abbrev rAddS : R2 := fun x y H Q => ∃ i j, x = .str i ∧ y = .str j ∧ i.length + j.length ≤ sizeLine ∧ Q (.str (i ++ j)) H
abbrev rAbs : List V → Hp → VK → Prop := fun xs H Q => ∃ i, xs = [.int i] ∧ Q (.int (if i < 0 then -i else i)) H
abbrev rLenQ (K : PySem.W.Frag) : List V → Hp → VK → Prop := fun xs H Q => ∃ p ys, xs = [.ref p] ∧ (SqL K H p ys ∨ SqT K H p ys) ∧ Q (.int ys.length) H
abbrev rLenS : List V → Hp → VK → Prop := fun xs H Q => ∃ z, xs = [.str z] ∧ z.length ≤ sizeLine ∧ Q (.int z.length) H
abbrev rIsi (K : PySem.W.Frag) : List V → Hp → VK → Prop := fun xs H Q => ∃ x n t b, xs = [x, .ty n] ∧ TyOf K H x t ∧ PySem.W.kitOne K t (.type n) = some b ∧ Q (.bl b) H
abbrev rInt1 : List V → Hp → VK → Prop := fun xs H Q => (∃ i, xs = [.int i] ∧ Q (.int i) H) ∨ ∃ k, xs = [.bl k] ∧ Q (.int (if k then 1 else 0)) H
abbrev rTupOf (K : PySem.W.Frag) : List V → Hp → VK → Prop := fun xs H Q => ∃ p ys, xs = [.ref p] ∧ ((SqL K H p ys ∧ ∀ l, H l = none → Q (.ref l) (upd H l (.tup ys))) ∨ (SqT K H p ys ∧ Q (.ref p) H))
abbrev rListOf (K : PySem.W.Frag) : List V → Hp → VK → Prop := fun xs H Q => ∃ p ys, xs = [.ref p] ∧ (SqL K H p ys ∨ SqT K H p ys) ∧ ∀ l, H l = none → Q (.ref l) (upd H l (.lst ys))
end L2
namespace L2
open PySem PySem.Spec PyProof.Rows
theorem kit_ii {K : PySem.W.Frag} : PySem.W.kitOne K (.type "int") (.type "int") = some true := by rfl
theorem kit_ib {K : PySem.W.Frag} : PySem.W.kitOne K (.type "int") (.type "bool") = some false := by
  show PySem.W.kitCls K (.type "int") (.type "bool") = some false
  unfold PySem.W.kitCls
  kernel_rfl
end L2
namespace L2
open PySem PySem.Spec PyProof.Rows
section
variable {M : Model} {A : Around} {E : Value → Shared → Prop} {s : Shared} {φ : Obj → Prop} {base : Heap} {env : Env} {outer : List Env} {L e : Addr} {cls a0 : Value} {Q : Unit → Shared → Prop}
end
end L2
namespace L2
open PySem PySem.Spec PyProof.Rows
structure OwnFr (X : Cx) : Prop where
  stk : X.stack = X.env :: X.outer
  frm : X.env.frame = some X.env.locals
  exs : X.ex = []
section
variable {X : Cx} {pins : List (Addr × Obj)} {σ : St} {H : Hp} {s : Shared}
end
end L2
namespace L2
open PySem PySem.Spec PyProof.Rows
section
variable {M : Model} {A : Around} {E : Value → Shared → Prop} {h : Heap} {g : Array GenState} {d : Drawn} {t : Nat} {os : OsState}
end
end L2
namespace L2
open PySem PySem.Spec PyProof.Rows
section
variable {X : Cx} {pins : List (Addr × Obj)} {σ : St} {H H' : Hp} {s s' : Shared}
end
section
variable {X : Cx} {pins : List (Addr × Obj)} {σ : St} {H : Hp} {s s' : Shared}
end
end L2
namespace L2
open PySem PySem.Spec PyProof.Rows
section
variable {X : Cx} {es : List Expr} {t : TA}
end
section
variable {X : Cx} {k : Nat} {ps : List Str} {sp : Sp} {fx v xn xy xa : Str} {Dv : Addr} {n y i : Nat} {fp cp ap vp p0 p1 p2 p3 hp pos ep : Pos} {e : Expr} {es : List Expr} {t : TA}
end
end L2
namespace L2
open PySem PySem.Spec PyProof.Rows
end L2
namespace L2
open PySem PySem.Spec PyProof.Rows PySem.W Builtin Builtin.ObjectAttr Builtin.Getset_descriptor
section
variable {prog : Program} {w : World} {A : Around} {E : Value → Shared → Prop} {s : Shared} {K : Frag} {x C : Addr} {R : Result → Shared → Prop}
end
end L2
namespace L2
open PySem PySem.Spec PyProof.Rows PySem.W Builtin Builtin.ObjectAttr Builtin.Getset_descriptor
section
variable {prog : Program} {w : World} {A : Around} {E : Value → Shared → Prop} {s : Shared} {K : Frag} {x C : Addr}
end
end L2
namespace L2
open PySem PySem.Spec PyProof.Rows
section
variable {prog : Program} {w : World} {A : Around} {E : Value → Shared → Prop} {h : Heap} {g : Array GenState} {d : Drawn} {t : Nat} {os : OsState}
variable {nm q : Str} {C N : Addr} {bs bm bmB : List Value} {hdct : Bool} {sn : List Str} {sub : List Value} {ab : Bool} {col : Option Bool} {dd : Option Addr} {k0 k1 k2 k3 k5 : Option Value} {B newId initId : String}
end
end L2
namespace L2
open PySem PySem.Spec PyProof.Rows PySem.W
section
variable {prog : Program} {w : World} {A : Around} {E : Value → Shared → Prop} {h : Heap} {g : Array GenState} {d : Drawn} {t : Nat} {os : OsState}
variable {nm q : Str} {C N : Addr} {bs bm bmB : List Value} {hdct : Bool} {sn : List Str} {sub : List Value} {ab : Bool} {col : Option Bool} {dd : Option Addr} {k0 k1 k2 k3 k5 : Option Value} {B newId initId : String}
end
section
variable {prog : Program} {w : World} {A : Around} {E : Value → Shared → Prop} {s : Shared} {K : Frag} {x C : Addr} {R : Result → Shared → Prop} {name : Str} {v : Value}
end
end L2
namespace L2
open PySem PySem.Spec PyProof.Rows PySem.W
section
variable {X : Cx} {pins : List (Addr × Obj)} {σ : St} {H : Hp} {s : Shared}
end
section
variable {M : Model} {A : Around} {E : Value → Shared → Prop} {env : Env} {s : Shared} {Q : Flow → Shared → Prop}
end
end L2
namespace L2
open PySem PySem.Spec PyProof.Rows PySem.W
section
variable {X : Cx} {o a value : Expr} {es : List Expr} {ta tv : TE} {t : TA} {f v : Str} {V : Addr} {vp apos pos pos' : Pos}
end
end L2
namespace L2
open PySem PySem.Spec PyProof.Rows PySem.W
end L2
namespace L2
open PySem PySem.Spec PyProof.Rows
open PySem.W (Dat kqdP kqdPs kqdOk)
mutual
inductive Rep (K : PySem.W.Frag) (H : Hp) : V → Dat → Prop
  | non : Rep K H .non .none
  | bl (b : Bool) : Rep K H (.bl b) (.bool b)
  | int (i : Int) : Rep K H (.int i) (.int i)
  | str (x : Str) : Rep K H (.str x) (.str x)
  | tup {a : Addr} {xs : List V} {ds : List Dat} : SqT K H a xs → RepL K H xs ds → Rep K H (.ref a) (.tuple ds)
  | lst {a : Addr} {xs : List V} {ds : List Dat} : SqL K H a xs → RepL K H xs ds → Rep K H (.ref a) (.list ds)
inductive RepL (K : PySem.W.Frag) (H : Hp) : List V → List Dat → Prop
  | nil : RepL K H [] []
  | cons {v : V} {d : Dat} {vs : List V} {ds : List Dat} : Rep K H v d → RepL K H vs ds → RepL K H (v :: vs) (d :: ds)
end
section
variable {K : PySem.W.Frag} {H H' : Hp}
theorem RepL.length : ∀ {vs : List V} {ds : List Dat}, RepL K H vs ds → vs.length = ds.length
  | _, _, .nil => rfl
  | _, _, .cons _ r => congrArg (· + 1) (RepL.length r)
theorem RepL.get : ∀ {vs : List V} {ds : List Dat} {i : Nat} {v : V}, RepL K H vs ds → vs[i]? = some v → ∃ d, ds[i]? = some d ∧ Rep K H v d
  | _, _, _, _, .nil, e => by simp at e
  | _, _, 0, _, .cons h _, e => by simp at e; subst e; exact ⟨_, rfl, h⟩
  | _, _, i + 1, v, .cons _ r, e => by
    obtain ⟨d, h1, h2⟩ := RepL.get (i := i) (v := v) r (by simpa using e)
    exact ⟨d, by simpa using h1, h2⟩
end
section
variable {X : Cx} {pins : List (Addr × Obj)} {σ : St} {H : Hp} {s : Shared}
mutual
theorem Rep.reads (I : Inv X pins σ H s) : ∀ {v : V} {d : Dat} {u : Value}, Rep X.K H v d → RelV v u → ∃ as, Reads s.heap u (kqdP d) as
  | _, _, u, .non, r => by
    cases (show u = Value.none from r)
    exact ⟨_, Reads.none⟩
  | _, _, u, .bl b, r => by
    cases (show u = Value.bool b from r)
    exact ⟨_, Reads.bool b⟩
  | _, _, u, .int i, r => by
    obtain ⟨t, e⟩ := (show ∃ t, u = Value.int i t from r)
    cases e
    exact ⟨_, Reads.int i t⟩
  | _, _, u, .str x, r => by
    obtain ⟨t, e⟩ := (show ∃ t, u = Value.str x t from r)
    cases e
    exact ⟨_, Reads.str x t⟩
  | _, _, u, @Rep.tup _ _ a xs ds h q, r => by
    cases (show u = Value.ref a from r)
    obtain ⟨its, rv, ⟨o, e, c, n, dd⟩, _⟩ := I.tuple h
    obtain ⟨as, p⟩ := RepL.reads I q rv
    rw [kqdP]
    exact ⟨_, Reads.tuple e c dd (by simpa using p)⟩
  | _, _, u, @Rep.lst _ _ a xs ds h q, r => by
    cases (show u = Value.ref a from r)
    obtain ⟨its, rv, ⟨o, n, e, c, _, dd⟩, _⟩ := I.list h
    obtain ⟨as, p⟩ := RepL.reads I q rv
    rw [kqdP]
    exact ⟨_, Reads.list e c dd (by simpa using p)⟩
theorem RepL.reads (I : Inv X pins σ H s) : ∀ {vs : List V} {ds : List Dat} {us : List Value}, RepL X.K H vs ds → Vals vs us → ∃ as, ReadsAll s.heap us (kqdPs ds) as
  | _, _, _, .nil, .nil => by
    rw [kqdPs]
    exact ⟨_, ReadsAll.nil⟩
  | _, _, _, .cons h q, .cons r rr => by
    obtain ⟨as, p⟩ := Rep.reads I h r
    obtain ⟨bs, p'⟩ := RepL.reads I q rr
    rw [kqdPs]
    exact ⟨_, ReadsAll.cons p p'⟩
end
open Classical in
theorem eqv_dec {d e : Dat} (hd : kqdOk 8 d = true) (he : kqdOk 8 e = true) : PyData.eqv (kqdP d) (kqdP e) = decide (d = e) := by
  have q := PySem.W.kqd_eqv 8 d e 8 hd he
  by_cases z : d = e
  · rw [decide_eq_true z]
    exact q.mpr z
  · rw [decide_eq_false z]
    exact Bool.eq_false_iff.mpr fun y => z (q.mp y)
theorem shaped_of {d : Dat} (h : kqdOk 8 d = true) : SeqAt.shaped (kqdP d) = true := by
  have l := PySem.W.kqd_lay 8 d h
  unfold SeqAt.shaped
  rw [l.1, Bool.true_and]
  exact decide_eq_true (Nat.le_trans l.2 (by decide))
open Classical in
def rEqD (K : PySem.W.Frag) : R2 := fun x y H Q => ∃ d e, Rep K H x d ∧ Rep K H y e ∧ kqdOk 8 d = true ∧ kqdOk 8 e = true ∧ Q (.bl (decide (d = e))) H
theorem op_eqD (hu : X.A.units + 64 < cLine) : OpR X (compareOp .Eq) (rEqD X.K) := by
  intro pins s σ H x y v u Q I rx ry h
  obtain ⟨d, e, hd, he, kd, ke, q⟩ := h
  obtain ⟨as, ra⟩ := Rep.reads I hd rx
  obtain ⟨bs, rb⟩ := Rep.reads I he ry
  exact eq_dataH ra rb (shaped_of kd) (shaped_of ke) hu ⟨_, H, I, (by rw [eqv_dec kd ke]; rfl), q⟩
open Classical in
theorem any_dec {ds : List Dat} {d : Dat} (ha : ∀ e ∈ ds, kqdOk 8 e = true) (hd : kqdOk 8 d = true) : ((kqdPs ds).any fun y => PyData.eqv y (kqdP d)) = decide (d ∈ ds) := by
  by_cases z : d ∈ ds
  · rw [decide_eq_true z]
    exact (PySem.W.kqd_any ds d ha hd).mpr z
  · rw [decide_eq_false z]
    exact Bool.eq_false_iff.mpr fun y => z ((PySem.W.kqd_any ds d ha hd).mp y)
open Classical in
def rInD (K : PySem.W.Frag) (neg : Bool) : R2 := fun x y H Q => ∃ d ds, Rep K H x d ∧ Rep K H y (.list ds) ∧ (∀ e ∈ ds, kqdOk 8 e = true) ∧ kqdOk 8 d = true ∧ Q (.bl (if neg then !decide (d ∈ ds) else decide (d ∈ ds))) H
theorem in_room {A : Around} {ds : List Dat} {d : Dat} (hd : kqdOk 8 d = true) (hu : A.units + 64 < cLine) : A.units + 1 + min (PyData.depthAll (kqdPs ds)) (kqdP d).depth < cLine := by
  have l := (PySem.W.kqd_lay 8 d hd).2
  have := Nat.min_le_right (PyData.depthAll (kqdPs ds)) (kqdP d).depth
  omega
theorem op_notInD (hu : X.A.units + 64 < cLine) : OpR X (compareOp .NotIn) (rInD X.K true) := by
  intro pins s σ H x y v u Q I rx ry h
  obtain ⟨d, ds, hd, he, ka, kd, q⟩ := h
  obtain ⟨as, ra⟩ := Rep.reads I hd rx
  obtain ⟨bs, rb⟩ := Rep.reads I he ry
  rw [kqdP] at rb
  exact SeqAt.notIn_list_reads rb ra (PySem.W.kqd_layL ka).1 (PySem.W.kqd_lay 8 d kd).1 (in_room kd hu) ⟨_, H, I, (by rw [any_dec ka kd]; rfl), q⟩
end
end L2
namespace L2
open PySem PySem.Spec PyProof.Rows
def compCx (X : Cx) (ys M : List Str) (scope : Scope) (cl : List (Str × Addr)) (C : Addr) (s : Shared) (H : Hp) (fp : List Addr) (pins : List (Addr × Obj)) : Cx where
  prog := X.prog
  w := X.w
  K := X.K
  mg := X.mg
  base := X.base
  A := X.A
  N := ys ++ M
  s₀ := s
  H₀ := H
  env := compEnvC scope cl C X.env
  outer := X.stack
  stack := X.stack
  ex := fp
  fn := fun _ => false
  calm := X.calm
  pn := X.pn ++ pins
  xe := fun _ _ => False
structure CompSc (X : Cx) (ys M : List Str) (scope : Scope) (cl : List (Str × Addr)) : Prop where
  kind : scope.kind = .function
  nocell : ∀ y ∈ scope.names, y.2 ≠ .cell
  names : ∀ y ∈ scope.names, y.2 = .local → scope.names.lookup y.1 = some .local
  own : ∀ y ∈ ys, scope.names.lookup y = some .local
  clos : closureFor scope X.env = pure cl
  nd : (ys ++ M).Nodup
  len : M.length = X.N.length
  same : ∀ p ∈ M.zip X.N, p.1 = p.2 ∨ (relabel scope X.env).names.lookup p.1 = none
  apart : ∀ y ∈ M, (relabel scope X.env).names.lookup y ≠ some .local
  cells : ∀ y c, cl.lookup y = some c → X.env.cells.lookup y = some c ∧ (X.env.scope.names.lookup y = some .cell ∨ X.env.scope.names.lookup y = some .free)
  has : ∀ y, ((relabel scope X.env).names.lookup y = some .cell ∨ (relabel scope X.env).names.lookup y = some .free) → ∃ c, cl.lookup y = some c
section
variable {X : Cx} {ys M : List Str} {scope : Scope} {cl : List (Str × Addr)} {C : Addr} {s : Shared} {H : Hp} {fp : List Addr} {pins : List (Addr × Obj)} {σ : St}
theorem inv_comp {h1 : Heap} {tk : Nat} {o : Obj} (I : Inv X pins σ H s) (c : CompSc X ys M scope cl) (eC : C = s.heap.objs.size) (hns : h1.Ns C (fun _ => none)) (hsb : Heap.SameBut C (s.heap.push o) h1)
    (fk : ∀ b ∈ fp, FpOk X pins H b ∧ ∃ o, s.heap.get? b = some o) : Inv (compCx X ys M scope cl C s H fp pins) [] (List.replicate ys.length none ++ σ) H { s with heap := h1, toks := tk } := by
  have keep : ∀ b u, s.heap.get? b = some u → h1.get? b = some u := fun b u e => hsb.extBut b u (by rw [eC]; exact Nat.ne_of_lt (Heap.lt_size e)) (Heap.get?_push_of_some _ e)
  have neC : ∀ b u, s.heap.get? b = some u → b ≠ C := fun b u e => by rw [eC]; exact Nat.ne_of_lt (Heap.lt_size e)
  have out : ∀ {b : Addr}, b ≠ X.env.locals → b ∉ X.fs → b ∉ frs X.stack := fun h1 h2 z => (List.mem_cons.mp (I.stkSub _ z)).elim h1 h2
  refine ⟨⟨I.ok.mod, c.kind, I.ok.glob, I.ok.blt, by rw [eC]; exact Nat.le_refl _, fun y z a h1 h2 => I.ok.inj y z a (c.cells y a h1).1 (c.cells z a h2).1, c.has, fun y a z _ => Bool.noConfusion z, I.ok.hd, I.ok.frames, .inl rfl, fun b hb => ?_, I.bs, Nat.le_trans I.ok.bsz I.sz, fun b u e hb => ?_, fun b hb => ?_, I.stack, I.stkFree⟩,
    rfl, I.bare, Un.kept keep, ⟨_, hns, fun i y v e1 e2 e3 => ?_⟩, fun y a e => ?_, I.hok.fresh (by rw [eC]; exact Nat.le_refl _), fun y a e => I.freeC y a (c.cells y a e).1, fun p hp => ?_, I.hok.kept keep, ?_⟩
  · obtain ⟨⟨_, _, _, _, f5, _⟩, u, e⟩ := fk b hb
    exact ⟨neC b u e, fun y a q => f5 y a (c.cells y a q).1⟩
  · obtain ⟨⟨_, _, _, f4, _, _⟩, _⟩ := fk b hb
    rcases f4 with z | z
    · exact I.ok.noex b u e z
    · exact absurd (Nat.lt_of_lt_of_le (Heap.lt_size (I.ok.bs b u e).1) z) (Nat.lt_irrefl _)
  · obtain ⟨⟨_, f2, f3, _, _, _⟩, _⟩ := fk b hb
    exact out f2 f3
  · by_cases lt : i < ys.length
    · have e2' : (List.replicate ys.length (none : Option V) ++ σ)[i]? = some (some v) := e2
      rw [List.getElem?_append_left (by simpa using lt), List.getElem?_replicate_of_lt lt] at e2'
      cases e2'
    · have e0 : M[i - ys.length]? = some y := by
        have e1' : (ys ++ M)[i]? = some y := e1
        rwa [List.getElem?_append_right (by omega)] at e1'
      have e2' : σ[i - ys.length]? = some (some v) := by
        have e2' : (List.replicate ys.length (none : Option V) ++ σ)[i]? = some (some v) := e2
        rwa [List.getElem?_append_right (by simpa using lt), List.length_replicate] at e2'
      have hy : y ∈ M := List.mem_of_getElem? e0
      have vis0 : (relabel scope X.env).names.lookup y ≠ none := by
        rcases e3 with z | z | z <;> (intro q; have q' := (show (relabel scope X.env).names.lookup y = some _ from z).symm.trans q; cases q')
      have e1' : X.N[i - ys.length]? = some y := by
        have hlt : i - ys.length < X.N.length := by rw [← c.len]; exact (List.getElem?_eq_some_iff.mp e0).1
        have hz : (y, X.N[i - ys.length]) ∈ M.zip X.N := by
          refine List.mem_of_getElem? (i := i - ys.length) ?_
          rw [List.getElem?_zip_eq_some]
          exact ⟨e0, List.getElem?_eq_getElem hlt⟩
        rcases c.same _ hz with q | q
        · rw [List.getElem?_eq_getElem hlt]
          exact congrArg some q.symm
        · exact absurd q vis0
      have e3' : (relabel scope X.env).names.lookup y = some .cell ∨ (relabel scope X.env).names.lookup y = some .free := by
        rcases e3 with z | z | z
        · exact absurd z (c.apart y hy)
        · exact .inl z
        · exact .inr z
      obtain ⟨a, ea⟩ := c.has y e3'
      obtain ⟨q1, q2⟩ := c.cells y a ea
      obtain ⟨m, _, hl⟩ := I.loc
      have vis : Vis X.env.scope y := .inr q2
      obtain ⟨u, ru, lu⟩ := hl (i - ys.length) y v e1' e2' vis
      refine ⟨u, ru, .inr ⟨e3', a, ea, ?_⟩⟩
      rcases lu with ⟨z, _⟩ | ⟨_, a', ea', ⟨oc, hoc, hd⟩⟩
      · have z' : X.env.scope.names.lookup y = some .local := z
        rcases q2 with q2 | q2 <;> (rw [z'] at q2; cases q2)
      · rw [q1] at ea'
        cases ea'
        exact ⟨oc, keep _ _ hoc, hd⟩
  · obtain ⟨v, oc, hoc, hd⟩ := I.cell y a (c.cells y a e).1
    exact ⟨v, oc, keep _ _ hoc, hd⟩
  · have hp' : p ∈ X.pn ++ pins := by simpa [compCx] using hp
    obtain ⟨q1, q2, q3, q4, q5⟩ := I.pin p hp'
    exact ⟨keep _ _ q1, q2, neC _ _ q1, out q3 q4, q5⟩
  · show (List.replicate ys.length none ++ σ).length = (ys ++ M).length
    rw [List.length_append, List.length_append, List.length_replicate, I.len, c.len]
theorem inv_uncomp {pins' : List (Addr × Obj)} {σ' : St} {H' : Hp} {s1 : Shared} (I : Inv X pins σ H s) (fk : ∀ b ∈ fp, FpOk X pins H b ∧ ∃ o, s.heap.get? b = some o) (I' : Inv (compCx X ys M scope cl C s H fp pins) pins' σ' H' s1) : Inv X pins σ H' s1 :=
  I.call' (ch := fp) I'.os I'.base I'.hok I'.bare fun b hb => let ⟨⟨_, f2, _, f4, f5, f6⟩, _⟩ := fk b hb; ⟨f4, f2, f5, f6⟩
def CompG (J : It) (n : Nat) (g : TG) (te : TE) (σ : St) (Q : VK) (H1 : Hp) : Prop := ∀ D, H1 D = none → ∃ W : Nat → Nat → Hp → Prop, (∃ m, W 0 m (upd H1 D (.lst []))) ∧ ∀ i m H, W i m H →
  (J.stop i H ∧ Q (.ref D) H) ∨ (J.go i H ∧ ∀ v H', J.yld i H v H' → ∀ us : St, us.length = n → g v (us ++ σ) H' fun σ2 H2 => (∃ us' : St, us'.length = n ∧ σ2 = us' ++ σ) ∧ te σ2 H2 fun y H3 => ∃ xs, H3 D = some (.lst xs) ∧ xs.length < sizeLine ∧ ∃ m', m' < m ∧ W (i + 1) m' (upd H3 D (.lst (xs ++ [y]))))
def tCompG (wi : TI) (n : Nat) (g : TG) (te : TE) : TE := fun σ H Q => wi σ H fun J H1 => CompG J n g te σ Q H1
def CompAt (J : It) (te : TE) (σ : St) (Q : VK) (H1 : Hp) : Prop := ∀ D, H1 D = none → ∃ W : Nat → Nat → Hp → Prop, (∃ m, W 0 m (upd H1 D (.lst []))) ∧ ∀ i m H, W i m H →
  (J.stop i H ∧ Q (.ref D) H) ∨ (J.go i H ∧ ∀ v H', J.yld i H v H' → te (some v :: σ) H' fun y H2 => ∃ xs, H2 D = some (.lst xs) ∧ xs.length < sizeLine ∧ ∃ m', m' < m ∧ W (i + 1) m' (upd H2 D (.lst (xs ++ [y]))))
def tComp (wi : TI) (te : TE) : TE := fun σ H Q => wi σ H fun J H1 => CompAt J te σ Q H1
theorem compG_of {J : It} {te : TE} {σ : St} {Q : VK} {H1 : Hp} (h : CompAt J te σ Q H1) : CompG J 1 (gName 0) te σ Q H1 := by
  intro D nD
  obtain ⟨W, h0, hs⟩ := h D nD
  refine ⟨W, h0, fun i m H w => ?_⟩
  rcases hs i m H w with q | ⟨go, st⟩
  · exact .inl q
  · refine .inr ⟨go, fun v H' y us hu => ?_⟩
    obtain ⟨u, rfl⟩ : ∃ u, us = [u] := List.length_eq_one_iff.mp hu
    exact ⟨⟨[some v], rfl, rfl⟩, st v H' y⟩
theorem comp_loop {prog : Program} {w : World} {A : Around} {R : Result → Shared → Prop} {s : Shared} {elt target iter : Expr} {scope : Scope} {pos : Pos} {it acc : Value} {env : Env} (I : Nat → Shared → Prop)
    (turn : ∀ n s, I n s → wpAny (model prog w) A (pyNext it) (fun r s1 => match r with
      | none => R (.ok .next) s1
      | some v => wpAny (model prog w) A (letOwnedTupleGo target it v) (fun _ s2 => wpAny (model prog w) A (assign target env v) (fun _ s3 => wpAny (model prog w) A (eval elt env) (fun x s4 =>
          wpAny (model prog w) A (call (.builtin "list.append") [acc, x]) (fun _ s5 => ∃ m, m < n ∧ I m s5) (fun _ _ => False) s4) (fun _ _ => False) s3) (fun _ _ => False) s2) (fun _ _ => False) s1) (fun _ _ => False) s) (n : Nat) (h : I n s) :
    codeAny (model prog w) A (.compLoop (.ListComp elt [⟨target, iter, [], 0⟩] scope pos) 0 it acc env) R s := by
  refine codeAny_loop rfl I (fun k s1 hI => ?_) n h
  have no : ∀ {α : Type} {t : Sem α} {P : α → Shared → Prop} {E : Value → Shared → Prop} {z : Shared}, wpAny (model prog w) A t P (fun _ _ => False) z → wpAny (model prog w) A t P E z := fun q => wpAny_mono q (fun _ _ z => z) fun _ _ z => z.elim
  show wpAny _ _ ((compTurn (.ListComp elt [⟨target, iter, [], 0⟩] scope pos) 0 it acc env).onRaise _) _ _ s1
  refine wpAny_noted ?_
  rw [compTurn_list1]
  refine wpAny_bind (wpAny_standAt (wpAny_bind (no (wpAny_mono (turn k s1 hI) (fun r s2 h2 => ?_) fun _ _ z => z))))
  cases r with
  | none => exact wpAny_pure h2
  | some v =>
    refine wpAny_bind (no (wpAny_mono h2 (fun _ s3 h3 => ?_) fun _ _ z => z))
    refine wpAny_bind (no (wpAny_mono h3 (fun _ s4 h4 => ?_) fun _ _ z => z))
    refine wpAny_bind (wpAny_bind (no (wpAny_mono h4 (fun x s5 h5 => ?_) fun _ _ z => z)))
    exact wpAny_bind (no (wpAny_mono h5 (fun _ s6 h6 => wpAny_pure (wpAny_pure ⟨rfl, h6⟩)) fun _ _ z => z))
theorem comp_core {elt iter tg : Expr} {pos : Pos} {g : TG} {te : TE} {tn : Nat → Heap → Prop} {it : Addr} {J : It} {E : Value → Shared → Prop} {QQ : Addr → Hp → Prop} {RR : Value → Addr → Result → Shared → Prop} (I : Inv X pins σ H s) (c : CompSc X ys M scope cl) (hc : X.calm = true)
    (hg : ∀ C s₀ H₀ fp pins, PG (compCx X ys M scope cl C s₀ H₀ fp pins) tg g) (he : ∀ C s₀ H₀ fp pins, PE (compCx X ys M scope cl C s₀ H₀ fp pins) elt te) (T : Turn X.prog X.w X.K tg J fp it tn) (st : tn 0 s.heap) (fk : ∀ b ∈ fp, FpOk X pins H b)
    (h : ∀ D, H D = none → ∃ W : Nat → Nat → Hp → Prop, (∃ m, W 0 m (upd H D (.lst []))) ∧ ∀ i m H, W i m H →
      (J.stop i H ∧ QQ D H) ∨ (J.go i H ∧ ∀ v H', J.yld i H v H' → ∀ us : St, us.length = ys.length → g v (us ++ σ) H' fun σ2 H2 => (∃ us' : St, us'.length = ys.length ∧ σ2 = us' ++ σ) ∧ te σ2 H2 fun y H3 => ∃ xs, H3 D = some (.lst xs) ∧ xs.length < sizeLine ∧ ∃ m', m' < m ∧ W (i + 1) m' (upd H3 D (.lst (xs ++ [y])))))
    (fin : ∀ D C H' s', s.heap.objs.size ≤ C → s'.heap.get? C ≠ none → (∃ m, s'.heap.Ns C m) → H' C = none → Inv X pins σ H' s' → QQ D H' → RR (.ref D) C (.ok .next) s') :
    wpAny (model X.prog X.w) X.A (newList []) (fun acc s₃ => wpAny (model X.prog X.w) X.A (newFunctionEnv scope X.env.globals cl [] X.env.qual none .none (some X.env)) (fun cenv s₄ =>
      codeAny (model X.prog X.w) X.A (.compStart (.ListComp elt [⟨tg, iter, [], 0⟩] scope pos) 0 (.ref it) acc { cenv with scope := relabel scope X.env }) (RR acc cenv.locals) s₄) E s₃) E s := by
  refine wpAny_newObj_type (wpAny_newFunctionEnv c.nocell (by intro y hy; simp at hy) (fun h1 hns hsb => ?_) c.kind)
  dsimp only at hns hsb ⊢
  have hf : H s.heap.objs.size = none := I.hok.fresh (Nat.le_refl _)
  have I3 : Inv X pins σ (upd H s.heap.objs.size (.lst [])) { s with heap := s.heap.push { cls := .type "list", dict := none, data := .seq ([] : List Value).toArray } } :=
    I.laid (t' := s.toks) (fun b u e => Heap.get?_push_of_some _ e) (Nat.le_refl _) ⟨by decide, [], _, .nil, Heap.get?_push_size _ rfl⟩
  have eD : ∀ b u, s.heap.get? b = some u → b ≠ s.heap.objs.size := fun b u e => Nat.ne_of_lt (Heap.lt_size e)
  have fk3 : ∀ b ∈ fp, FpOk X pins (upd H s.heap.objs.size (.lst [])) b ∧ ∃ o, (s.heap.push { cls := .type "list", dict := none, data := .seq ([] : List Value).toArray }).get? b = some o := fun b hb => by
    obtain ⟨o, eo, _⟩ := T.obj 0 _ st b hb
    obtain ⟨f1, f2⟩ := fk b hb
    exact ⟨⟨by rw [upd_ne (eD b o eo)]; exact f1, f2⟩, o, Heap.get?_push_of_some _ eo⟩
  have I4 := inv_comp (tk := s.toks + ([] : List (Str × Value)).length) I3 c rfl hns hsb fk3
  obtain ⟨W, ⟨m0, w0⟩, turn⟩ := h _ hf
  have st4 : tn 0 h1 := T.keep 0 _ _ st fun b hb o e => by
    have e2 := Heap.get?_push_of_some { cls := .type "list", dict := none, data := .seq ([] : List Value).toArray } e
    exact hsb.extBut b o (Nat.ne_of_lt (Heap.lt_size e2)) (Heap.get?_push_of_some _ e2)
  have stat : ∀ {H' : Hp}, (∀ b ∈ fp, H' b = none) → ∀ b ∈ fp, FpOk (compCx X ys M scope cl (s.heap.push { cls := .type "list", dict := none, data := .seq ([] : List Value).toArray }).objs.size { s with heap := s.heap.push { cls := .type "list", dict := none, data := .seq ([] : List Value).toArray } } (upd H s.heap.objs.size (.lst [])) fp pins) [] H' b :=
    fun hn b hb => ⟨hn b hb, (I4.ok.exf b hb).1, I4.ok.exfs b hb, .inl hb, (I4.ok.exf b hb).2, fun p hp => (fk3 b hb).1.2.2.2.2.2 p (by simpa [compCx] using hp)⟩
  have loop : ∀ s4 : Shared, s4 = { s with heap := h1, toks := s.toks + ([] : List (Str × Value)).length } →
      codeAny (model X.prog X.w) X.A (.compLoop (.ListComp elt [⟨tg, iter, [], 0⟩] scope pos) 0 (.ref it) (.ref s.heap.objs.size) (compEnvC scope cl (s.heap.push { cls := .type "list", dict := none, data := .seq ([] : List Value).toArray }).objs.size X.env))
        (RR (.ref s.heap.objs.size) (s.heap.push { cls := .type "list", dict := none, data := .seq ([] : List Value).toArray }).objs.size) s4 := by
    rintro s4 rfl
    refine comp_loop (fun n s' => ∃ (i : Nat) (us : St) (H' : Hp), us.length = ys.length ∧ Inv (compCx X ys M scope cl (s.heap.push { cls := .type "list", dict := none, data := .seq ([] : List Value).toArray }).objs.size { s with heap := s.heap.push { cls := .type "list", dict := none, data := .seq ([] : List Value).toArray } } (upd H s.heap.objs.size (.lst [])) fp pins) [] (us ++ σ) H' s' ∧ tn i s'.heap ∧ (∀ b ∈ fp, H' b = none) ∧ W i n H')
      ?_ m0 ⟨0, _, _, List.length_replicate, I4, st4, fun b hb => (fk3 b hb).1.1, w0⟩
    rintro n s5 ⟨i, us, H5, lu, I5, st5, fr5, w5⟩
    rcases turn i n H5 w5 with ⟨stop, q⟩ | ⟨go, step⟩
    · refine thn (T.done (compCx X ys M scope cl _ _ _ _ _) rfl rfl rfl hc i [] s5 _ H5 _ I5 (stat fr5) st5 stop) fun r s6 ⟨er, I6⟩ => ?_
      subst er
      obtain ⟨m, hn6, _⟩ := id I6.loc
      obtain ⟨o6, _, _, ho6, _⟩ := id hn6
      exact fin _ _ H5 s6 (by rw [Heap.size_push]; exact Nat.le_succ _) (fun z => by have z' := ho6.symm.trans z; cases z') ⟨m, hn6⟩ I6.free (inv_uncomp I3 fk3 I6) q
    · refine thn (T.item (compCx X ys M scope cl _ _ _ _ _) rfl rfl rfl hc i [] s5 _ H5 _ I5 (stat fr5) st5 go) fun r s6 ⟨u, er, h6⟩ => ?_
      subst er
      refine thn h6 fun _ s7 ⟨v', H7, I7, r7, y7, st7, fr7⟩ => ?_
      have I7' := I7.pinned (stat fr7) (T.obj _ _ st7)
      refine wpAny_mono (hg _ _ _ _ _ _ s7 _ H7 v' u _ I7' r7 (step v' H7 y7 us lu)) (fun _ s8 ⟨σ8, H8, I8, ⟨us', lu', e8⟩, q8⟩ => ?_) fun _ _ z => z.elim
      refine wpAny_mono (he _ _ _ _ _ _ s8 _ H8 _ I8 q8) (fun y s9 ⟨yv, H9, I9, ry, xs, hxs, hlen, m', hm, w9⟩ => ?_) fun _ _ z => z.elim
      refine wpAny_mono (mt_append (X := compCx X ys M scope cl _ _ _ _ _) _ s9 _ H9 (.ref s.heap.objs.size) [yv] (.ref s.heap.objs.size) [y] (fun _ H10 => H10 = upd H9 s.heap.objs.size (.lst (xs ++ [yv]))) I9 rfl (.cons ry .nil) ⟨_, xs, yv, rfl, rfl, hxs, hlen, rfl⟩) (fun _ s10 ⟨z, H10, I10, rz, q10⟩ => ?_) fun _ _ z => z.elim
      subst q10
      subst e8
      refine ⟨m', hm, i + 1, us', _, lu', I10.unpinned (pins := []), T.keep _ _ _ st7 fun b hb o e => (I10.pin (b, o) (List.mem_append_right _ (List.mem_append_right _ (mem_pinsAt hb e)))).1, fun b hb => ?_, w9⟩
      obtain ⟨o, e, _⟩ := T.obj _ _ st7 b hb
      exact (I10.pin (b, o) (List.mem_append_right _ (List.mem_append_right _ (mem_pinsAt hb e)))).2.1
  exact codeAny_compStart_list (loop _ rfl) (T.self _ 0 _ _ _ st4 (loop _ rfl))
end
section
variable {X : Cx} {ys M : List Str} {x : Str} {scope : Scope} {cl : List (Str × Addr)}
theorem pe_compG {elt iter tg : Expr} {pos : Pos} {wi : TI} {g : TG} {te : TE} (c : CompSc X ys M scope cl) (hc : X.calm = true) (hi : PI X tg iter wi) (hg : ∀ C s₀ H₀ fp pins, PG (compCx X ys M scope cl C s₀ H₀ fp pins) tg g) (he : ∀ C s₀ H₀ fp pins, PE (compCx X ys M scope cl C s₀ H₀ fp pins) elt te)
    (hs : ∀ v, foldedSetIterable iter X.env v = pure v := by intro _; rfl) : PE X (.ListComp elt [⟨tg, iter, [], 0⟩] scope pos) (tCompG wi ys.length g te) := by
  intro pins s σ H Q I h
  rw [eval_ListComp]
  refine wpAny_comprehension_free (use := none) rfl hs c.clos c.kind c.names (thn (hi pins s σ H _ I h) fun v s1 h1 => thn h1 fun itv s2 h2 => ?_)
  obtain ⟨it, fp, tn, J, H2, rfl, I2, T, st2, fk2, h3⟩ := h2
  refine comp_core (E := X.xe) (QQ := fun D H' => Q (.ref D) H') I2 c hc hg he T st2 fk2 h3 fun D C H' s' hC hl ns fr I' q => ?_
  obtain ⟨m, hn⟩ := ns
  refine ⟨m, hn, fun h' hs' => ?_⟩
  have sz := I2.sz
  exact ⟨.ref D, H', I'.turned (t' := s'.toks) (fun b o hb e => (hs'.2 b hb).trans e) fr (I2.fpOk hC fr).2.1 (I2.fpOk hC fr).2.2.2.1 (I2.fpOk hC fr).2.2.2.2.1 (I2.fpOk hC fr).2.2.2.2.2, rfl, q⟩
theorem ps_setCG {elt iter tg : Expr} {pos py sp : Pos} {wi : TI} {g : TG} {te : TE} {i : Nat} {y : Str} (hy : X.N[i]? = some y) (ly : X.env.scope.names.lookup y = some .local) (c : CompSc X ys M scope cl) (hN : X.N.Nodup) (hc : X.calm = true) (hi : PI X tg iter wi)
    (hg : ∀ C s₀ H₀ fp pins, PG (compCx X ys M scope cl C s₀ H₀ fp pins) tg g) (he : ∀ C s₀ H₀ fp pins, PE (compCx X ys M scope cl C s₀ H₀ fp pins) elt te)
    (hsw : swapsWith (.ListComp elt [⟨tg, iter, [], 0⟩] scope pos) (some (.Name y py)) sp.line X.env = pure true := by rfl) (hs : ∀ v, foldedSetIterable iter X.env v = pure v := by intro _; rfl) :
    PS X (.Assign [.Name y py] (.ListComp elt [⟨tg, iter, [], 0⟩] scope pos) sp) (tAsg (tCompG wi ys.length g te) (gName i)) := by
  intro pins s σ H D I h
  rw [exec_Assign_Name_used _ _ _ _ hsw]
  refine wpAny_bind (wpAny_standAt (wpAny_bind ?_))
  show wpAny _ X.A (do let _ ← comprehension (.ListComp elt [⟨tg, iter, [], 0⟩] scope pos) scope X.env _ (newList []) false (eval iter X.env) (some (assign (.Name y py) X.env))) _ _ s
  refine wpAny_bind (wpAny_mono (wpAny_comprehension_free (use := some (assign (.Name y py) X.env)) (Q := fun _ s' => SP X pins D .next s') rfl hs c.clos c.kind c.names (thn (hi pins s σ H _ I h) fun v s1 h1 => thn h1 fun itv s2 h2 => ?_)) (fun _ s' hq => wpAny_pure (wpAny_pure hq)) fun _ _ z => z)
  obtain ⟨it, fp, tn, J, H2, rfl, I2, T, st2, fk2, h3⟩ := h2
  refine comp_core (E := X.xe) (QQ := fun Da H' => D.nx (σ.set i (some (.ref Da))) H') I2 c hc hg he T st2 fk2 h3 fun Da C H' s' hC hl ns fr I' q => ?_
  obtain ⟨m, hn⟩ := ns
  refine wpAny_assign_Name (store_ok2 I' hN hy (.inl ly) (v := .ref Da) rfl (fun s3 I3 ⟨a, hsa, ha⟩ => ?_) (.inr ly))
  have nC : C ≠ a := by
    rcases ha with z | z
    · rw [z]; exact (I2.fpOk hC fr).2.1
    · exact fun w' => (I2.fpOk hC fr).2.2.2.2.1 y a z w'.symm
  refine ⟨m, hn.sameBut hsa nC, fun h' hs' => ⟨_, H', I3.turned (t' := s3.toks) (fun b o hb e => (hs'.2 b hb).trans e) fr (I2.fpOk hC fr).2.1 (I2.fpOk hC fr).2.2.2.1 (I2.fpOk hC fr).2.2.2.2.1 (I2.fpOk hC fr).2.2.2.2.2, q⟩⟩
theorem own_pg {px : Pos} (c : CompSc X [x] M scope cl) (C : Addr) (s₀ : Shared) (H₀ : Hp) (fp : List Addr) (pins : List (Addr × Obj)) : PG (compCx X [x] M scope cl C s₀ H₀ fp pins) (.Name x px) (gName 0) := by
  have hx : (relabel scope X.env).names.lookup x = some .local := lookup_relabel_local (c.own x (by simp))
  exact pg_name (X := compCx X [x] M scope cl C s₀ H₀ fp pins) (i := 0) c.nd rfl (.inl hx) (.inr hx)
end
end L2
namespace L2
open PySem PySem.Spec PyProof.Rows
def relS (scope sc : Scope) : List (Str × NameKind) := scope.names.map fun (n, k) => if (k == .free && sc.kind == .function && sc.names.lookup n == some .cell) then (n, .cell) else (n, k)
def clOf (scope : Scope) (cells : List (Str × Addr)) : List (Str × Addr) := ((scope.names.filter fun n => n.2 == .free).map fun n => (n.1, (cells.lookup n.1).getD 0)).reverse
structure CompS (sc : Scope) (N M ys : List Str) (scope : Scope) : Prop where
  kind : scope.kind = .function
  nocell : ∀ y ∈ scope.names, y.2 ≠ .cell
  names : ∀ y ∈ scope.names, y.2 = .local → scope.names.lookup y.1 = some .local
  own : ∀ y ∈ ys, scope.names.lookup y = some .local
  nd : (ys ++ M).Nodup
  len : M.length = N.length
  same : ∀ p ∈ M.zip N, p.1 = p.2 ∨ (relS scope sc).lookup p.1 = none
  apart : ∀ y ∈ M, (relS scope sc).lookup y ≠ some .local
  free : ∀ n ∈ scope.names, n.2 = .free → sc.names.lookup n.1 = some .cell
theorem lookup_const {g : Str → Addr} : ∀ {l : List (Str × Addr)} {y : Str}, (∀ n ∈ l, n.2 = g n.1) → ∀ {c : Addr}, l.lookup y = some c → c = g y ∧ ∃ n ∈ l, n.1 = y
  | [], _, _, _, h => by simp at h
  | (n, a) :: r, y, hg, c, h => by
    by_cases e : y = n
    · subst e
      rw [List.lookup_cons, beq_self_eq_true] at h
      have h' : a = c := Option.some.inj h
      exact ⟨by rw [← h']; exact hg (y, a) List.mem_cons_self, _, List.mem_cons_self, rfl⟩
    · have e' : (y == n) = false := beq_eq_false_iff_ne.mpr e
      rw [List.lookup_cons, e'] at h
      obtain ⟨h1, m, hm, h2⟩ := lookup_const (fun n hn => hg n (List.mem_cons_of_mem _ hn)) h
      exact ⟨h1, m, List.mem_cons_of_mem _ hm, h2⟩
theorem lookup_mem {l : List (Str × Addr)} {y : Str} : (∃ n ∈ l, n.1 = y) → ∃ c, l.lookup y = some c := by
  induction l with
  | nil => rintro ⟨n, hn, _⟩; cases hn
  | cons a r ih =>
    rintro ⟨n, hn, e⟩
    obtain ⟨m, b⟩ := a
    by_cases e' : y = m
    · subst e'
      exact ⟨b, by rw [List.lookup_cons, beq_self_eq_true]⟩
    · have e2 : (y == m) = false := beq_eq_false_iff_ne.mpr e'
      rw [List.lookup_cons, e2]
      refine ih ?_
      rcases List.mem_cons.mp hn with z | z
      · rw [z] at e
        exact absurd e.symm e'
      · exact ⟨n, z, e⟩
theorem clOf_mem {scope : Scope} {cells : List (Str × Addr)} {n : Str × Addr} : n ∈ clOf scope cells ↔ ∃ m ∈ scope.names, m.2 = .free ∧ n = (m.1, (cells.lookup m.1).getD 0) := by
  unfold clOf
  rw [List.mem_reverse, List.mem_map]
  constructor
  · rintro ⟨m, hm, rfl⟩
    rw [List.mem_filter] at hm
    exact ⟨m, hm.1, beq_iff_eq.mp hm.2, rfl⟩
  · rintro ⟨m, hm, hk, rfl⟩
    exact ⟨m, List.mem_filter.mpr ⟨hm, beq_iff_eq.mpr hk⟩, rfl⟩
theorem closure_eq {env : Env} : ∀ (names : List (Str × NameKind)) (acc : List (Str × Addr)), (∀ n ∈ names, n.2 = .free → ∃ c, env.cells.lookup n.1 = some c) →
    (forIn names acc fun x r => do
      let (name, kind) := x
      if kind == .free then do
        let c ← cellOf env name
        pure (ForInStep.yield ((name, c) :: r))
      else pure (ForInStep.yield r) : Sem (List (Str × Addr))) = pure (((names.filter fun n => n.2 == .free).map fun n => (n.1, (env.cells.lookup n.1).getD 0)).reverse ++ acc)
  | [], acc, _ => rfl
  | (n, k) :: r, acc, h => by
    have ih := fun acc => closure_eq r acc fun m hm => h m (List.mem_cons_of_mem _ hm)
    rw [List.forIn_cons]
    by_cases hk : k = .free
    · subst hk
      obtain ⟨c, hc⟩ := h (n, .free) List.mem_cons_self rfl
      have e1 : cellOf env n = pure c := by unfold cellOf; rw [hc]
      simp only [beq_self_eq_true, if_true, e1, pure_bind, List.filter_cons, List.map_cons, List.reverse_cons, List.append_assoc, List.singleton_append]
      rw [hc]
      exact ih _
    · have hb : (k == NameKind.free) = false := beq_eq_false_iff_ne.mpr hk
      simp only [hb, Bool.false_eq_true, if_false, pure_bind, List.filter_cons]
      exact ih _
theorem CompS.sc {X : Cx} {ys M : List Str} {scope : Scope} (c : CompS X.env.scope X.N M ys scope) (ok : X.Ok) : CompSc X ys M scope (clOf scope X.env.cells) := by
  have hfc : ∀ n ∈ scope.names, n.2 = .free → ∃ a, X.env.cells.lookup n.1 = some a := fun n hn hk => ok.has n.1 (.inl (c.free n hn hk))
  refine ⟨c.kind, c.nocell, c.names, c.own, ?_, c.nd, c.len, c.same, c.apart, fun y a h => ?_, fun y h => ?_⟩
  · have z := closure_eq (env := X.env) scope.names [] hfc
    rw [List.append_nil] at z
    exact (congrArg (fun m : Sem (List (Str × Addr)) => m >>= fun cs => pure cs) z).trans rfl
  · obtain ⟨h1, n, hn, e⟩ := lookup_const (g := fun z => (X.env.cells.lookup z).getD 0) (fun n hn => by obtain ⟨m, _, _, rfl⟩ := clOf_mem.mp hn; rfl) h
    obtain ⟨m, hm, hk, e2⟩ := clOf_mem.mp hn
    have ey : m.1 = y := by rw [← e, e2]
    obtain ⟨a', ha'⟩ := hfc m hm hk
    rw [ey] at ha'
    refine ⟨?_, .inl (by rw [← ey]; exact c.free m hm hk)⟩
    rw [h1, ha']
    rfl
  · have hm : ∃ m ∈ scope.names, m.1 = y ∧ m.2 = .free := by
      have go : ∀ names : List (Str × NameKind), (∀ z ∈ names, z.2 ≠ .cell) → ((names.map fun (n, k) => if (k == .free && X.env.scope.kind == .function && X.env.kindOf n == some .cell) then (n, NameKind.cell) else (n, k)).lookup y = some .cell ∨ (names.map fun (n, k) => if (k == .free && X.env.scope.kind == .function && X.env.kindOf n == some .cell) then (n, NameKind.cell) else (n, k)).lookup y = some .free) → ∃ m ∈ names, m.1 = y ∧ m.2 = .free := by
        intro names
        induction names with
        | nil => intro _ h; simp at h
        | cons a r ih =>
          intro nc h
          obtain ⟨n, k⟩ := a
          by_cases e : y = n
          · subst e
            refine ⟨_, List.mem_cons_self, rfl, ?_⟩
            have nk : k ≠ .cell := nc (y, k) List.mem_cons_self
            by_cases hk : k = .free
            · exact hk
            · have hb : (k == NameKind.free) = false := beq_eq_false_iff_ne.mpr hk
              simp only [List.map_cons, hb, Bool.false_and, Bool.false_eq_true, if_false, List.lookup_cons, beq_self_eq_true] at h
              rcases h with z | z
              · exact absurd (Option.some.inj z) nk
              · exact absurd (Option.some.inj z) hk
          · have e' : (y == n) = false := beq_eq_false_iff_ne.mpr e
            have h' : (r.map fun (n, k) => if (k == .free && X.env.scope.kind == .function && X.env.kindOf n == some .cell) then (n, NameKind.cell) else (n, k)).lookup y = some .cell ∨ (r.map fun (n, k) => if (k == .free && X.env.scope.kind == .function && X.env.kindOf n == some .cell) then (n, NameKind.cell) else (n, k)).lookup y = some .free := by
              by_cases hb : (k == .free && X.env.scope.kind == .function && X.env.kindOf n == some .cell) = true
              · simpa only [List.map_cons, hb, if_true, List.lookup_cons, e'] using h
              · simpa only [List.map_cons, hb, Bool.false_eq_true, if_false, List.lookup_cons, e'] using h
            obtain ⟨m, hm, r1⟩ := ih (fun z hz => nc z (List.mem_cons_of_mem _ hz)) h'
            exact ⟨m, List.mem_cons_of_mem _ hm, r1⟩
      exact go scope.names c.nocell h
    obtain ⟨m, hm, e, hk⟩ := hm
    exact lookup_mem ⟨_, clOf_mem.mpr ⟨m, hm, hk, rfl⟩, e⟩
section
variable {X : Cx} {x : Str} {ys M : List Str} {scope : Scope}
theorem pe_lc {elt iter : Expr} {px pos : Pos} {wi : TI} {te : TE} (c : CompS X.env.scope X.N M [x] scope) (hN : X.N.Nodup) (hc : X.calm = true) (hi : PI X (.Name x px) iter wi) (he : ∀ C s₀ H₀ fp pins, PE (compCx X [x] M scope (clOf scope X.env.cells) C s₀ H₀ fp pins) elt te)
    (hs : ∀ v, foldedSetIterable iter X.env v = pure v := by intro _; rfl) : PE X (.ListComp elt [⟨.Name x px, iter, [], 0⟩] scope pos) (tComp wi te) := by
  intro pins s σ H Q I h
  have hi' : PI X (.Name x px) iter (fun σ H R => ∃ R', (∀ J H1, R' J H1 → R J H1) ∧ wi σ H R') := by
    intro pins s σ H R I ⟨R', hR, hw⟩
    refine thn (hi pins s σ H R' I hw) fun v s1 h1 => thn h1 fun itv s2 ⟨it, fp, tn, J, H', e, I', T, t0, fk, r⟩ => ⟨it, fp, tn, J, H', e, I', T, t0, fk, hR J H' r⟩
  exact pe_compG (c.sc I.ok) hc hi' (fun C s₀ H₀ fp pins => own_pg (c.sc I.ok) C s₀ H₀ fp pins) he hs pins s σ H Q I ⟨_, fun J H1 q => compG_of q, h⟩
theorem ps_lc {elt iter : Expr} {px pos py sp : Pos} {wi : TI} {te : TE} {i : Nat} {y : Str} (hN : X.N.Nodup) (hy : X.N[i]? = some y) (ly : X.env.scope.names.lookup y = some .local) (c : CompS X.env.scope X.N M [x] scope) (hc : X.calm = true) (hi : PI X (.Name x px) iter wi) (he : ∀ C s₀ H₀ fp pins, PE (compCx X [x] M scope (clOf scope X.env.cells) C s₀ H₀ fp pins) elt te)
    (hsw : swapsWith (.ListComp elt [⟨.Name x px, iter, [], 0⟩] scope pos) (some (.Name y py)) sp.line X.env = pure true := by rfl) (hs : ∀ v, foldedSetIterable iter X.env v = pure v := by intro _; rfl) :
    PS X (.Assign [.Name y py] (.ListComp elt [⟨.Name x px, iter, [], 0⟩] scope pos) sp) (tAsg (tComp wi te) (gName i)) := by
  intro pins s σ H D I h
  have hi' : PI X (.Name x px) iter (fun σ H R => ∃ R', (∀ J H1, R' J H1 → R J H1) ∧ wi σ H R') := by
    intro pins s σ H R I ⟨R', hR, hw⟩
    refine thn (hi pins s σ H R' I hw) fun v s1 h1 => thn h1 fun itv s2 ⟨it, fp, tn, J, H', e, I', T, t0, fk, r⟩ => ⟨it, fp, tn, J, H', e, I', T, t0, fk, hR J H' r⟩
  exact ps_setCG hy ly (c.sc I.ok) hN hc hi' (fun C s₀ H₀ fp pins => own_pg (c.sc I.ok) C s₀ H₀ fp pins) he hsw hs pins s σ H D I ⟨_, fun J H1 q => compG_of q, h⟩
end
end L2
namespace L2
open PySem PySem.Spec PyProof.Rows
def Push (D : Addr) (Pv : Hp → Prop) : VK := fun y H2 => ∃ xs, H2 D = some (.lst xs) ∧ xs.length < sizeLine ∧ Pv (upd H2 D (.lst (xs ++ [y])))
section
variable {K : PySem.W.Frag} {te : TE} {σ : St} {Q : VK} {H : Hp}
def EltK (D : Addr) (n i : Nat) (Pv : Nat → Hp → Prop) : VK := fun y H2 => ∃ xs, H2 D = some (.lst xs) ∧ xs.length < sizeLine ∧ ∃ m', m' < n - i ∧ m' = n - (i + 1) ∧ i + 1 ≤ n ∧ Pv (i + 1) (upd H2 D (.lst (xs ++ [y])))
def Elt (te : TE) (σ : St) (v : V) (H : Hp) (D : Addr) (n i : Nat) (Pv : Nat → Hp → Prop) : Prop := te (some v :: σ) H (EltK D n i Pv)
theorem pushed {D : Addr} {n i : Nat} {Pv : Nat → Hp → Prop} {y : V} {H2 : Hp} (hi : i < n) (h : Push D (Pv (i + 1)) y H2) : EltK D n i Pv y H2 := by
  obtain ⟨xs, h1, h2, h3⟩ := h
  exact ⟨xs, h1, h2, n - (i + 1), by omega, rfl, hi, h3⟩
theorem comp_range {lo : Int} {n : Nat} (h : ∀ D, H D = none → ∃ Pv : Nat → Hp → Prop, Pv 0 (upd H D (.lst [])) ∧ (∀ i H2, i < n → Pv i H2 → Elt te σ (.int (lo + i)) H2 D n i Pv) ∧ ∀ H2, Pv n H2 → Q (.ref D) H2) : CompAt (Itr lo n) te σ Q H := by
  intro D nD
  obtain ⟨Pv, h0, hs, hd⟩ := h D nD
  refine ⟨fun i m H => m = n - i ∧ i ≤ n ∧ Pv i H, ⟨n, by simp, Nat.zero_le _, h0⟩, ?_⟩
  rintro i m H ⟨rfl, hi, p⟩
  by_cases hlt : i < n
  · refine .inr ⟨hlt, fun v H' y => ?_⟩
    obtain ⟨e, y⟩ := y
    subst e y
    exact hs i _ hlt p
  · have e : i = n := by omega
    subst e
    exact .inl ⟨Nat.le_refl _, hd H p⟩
theorem comp_list {a : Addr} {xs : List V} (h : ∀ D, H D = none → ∃ Pv : Nat → Hp → Prop, Pv 0 (upd H D (.lst [])) ∧ (∀ i H2, i ≤ xs.length → Pv i H2 → SqL K H2 a xs) ∧ (∀ i x H2, xs[i]? = some x → Pv i H2 → Elt te σ x H2 D xs.length i Pv) ∧ ∀ H2, Pv xs.length H2 → Q (.ref D) H2) : CompAt (Itl K a) te σ Q H := by
  intro D nD
  obtain ⟨Pv, h0, hl, hs, hd⟩ := h D nD
  refine ⟨fun i m H => m = xs.length - i ∧ i ≤ xs.length ∧ Pv i H, ⟨xs.length, by simp, Nat.zero_le _, h0⟩, ?_⟩
  rintro i m H ⟨rfl, hi, p⟩
  have q := hl i H hi p
  by_cases hlt : i < xs.length
  · refine .inr ⟨⟨xs, xs[i], q, by simp [hlt]⟩, fun v H' y => ?_⟩
    obtain ⟨e, y⟩ := y
    subst e
    exact hs i v _ (y xs q) p
  · have e : i = xs.length := by omega
    subst e
    exact .inl ⟨⟨xs, q, Nat.le_refl _⟩, hd H p⟩
theorem comp_tup {a : Addr} {xs : List V} (h : ∀ D, H D = none → ∃ Pv : Nat → Hp → Prop, Pv 0 (upd H D (.lst [])) ∧ (∀ i H2, i ≤ xs.length → Pv i H2 → SqT K H2 a xs) ∧ (∀ i x H2, xs[i]? = some x → Pv i H2 → Elt te σ x H2 D xs.length i Pv) ∧ ∀ H2, Pv xs.length H2 → Q (.ref D) H2) : CompAt (Itt K a) te σ Q H := by
  intro D nD
  obtain ⟨Pv, h0, hl, hs, hd⟩ := h D nD
  refine ⟨fun i m H => m = xs.length - i ∧ i ≤ xs.length ∧ Pv i H, ⟨xs.length, by simp, Nat.zero_le _, h0⟩, ?_⟩
  rintro i m H ⟨rfl, hi, p⟩
  have q := hl i H hi p
  by_cases hlt : i < xs.length
  · refine .inr ⟨⟨xs, xs[i], q, by simp [hlt]⟩, fun v H' y => ?_⟩
    obtain ⟨e, y⟩ := y
    subst e
    exact hs i v _ (y xs q) p
  · have e : i = xs.length := by omega
    subst e
    exact .inl ⟨⟨xs, q, Nat.le_refl _⟩, hd H p⟩
end
end L2
namespace L2
open PySem PySem.Spec PyProof.Rows
open PySem.W (Dat kqdOk)
section
variable {K : PySem.W.Frag} {σ : St} {H : Hp} {Q : VK} {D : Ends} {ta tb tc te : TE} {t u : TS} {c : TT} {QB : Bool → Hp → Prop} {QA : List V → Hp → Prop} {QS : St → Hp → Prop}
theorem k_seq (h : t { D with nx := u D } σ H) : tSeq t u D σ H := h
theorem k_next (h : D.nx σ H) : tNext D σ H := h
theorem k_drop (h : te σ H fun _ H1 => D.nx σ H1) : tDrop te D σ H := h
theorem k_ret (h : te σ H D.rt) : tRet te D σ H := h
theorem k_ifS (h : c σ H fun b H1 => if b = true then t D σ H1 else u D σ H1) : tIfS c t u D σ H := h
theorem k_asg {g : TG} (h : te σ H fun x H1 => g x σ H1 D.nx) : tAsg te g D σ H := h
theorem k_gName {i : Nat} {v : V} (h : QS (σ.set i (some v)) H) : gName i v σ H QS := h
theorem k_var {i : Nat} {v : V} (e : σ[i]? = some (some v)) (h : Q v H) : tVar i σ H Q := ⟨v, e, h⟩
theorem k_c {v : V} (h : Q v H) : tC v σ H Q := h
theorem k_op {r : R2} (h : ta σ H fun x H1 => tb σ H1 fun y H2 => r x y H2 Q) : tOp r ta tb σ H Q := h
theorem k_un {r : V → Hp → VK → Prop} (h : ta σ H fun x H1 => r x H1 Q) : tUn r ta σ H Q := h
theorem k_rU {g : Int → V} {i : Int} (h : Q (g i) H) : rU g (.int i) H Q := ⟨i, rfl, h⟩
theorem k_rI0 {g : Int → Int → V} {i j : Int} (h : Q (g i j) H) : rI0 g (.int i) (.int j) H Q := ⟨i, j, rfl, rfl, h⟩
theorem k_rI {C : Int → Int → Prop} {g : Int → Int → V} {i j : Int} (hc : C i j) (h : Q (g i j) H) : rI C g (.int i) (.int j) H Q := ⟨i, j, rfl, rfl, hc, h⟩
theorem k_eqI {i j : Int} (h : Q (.bl (decide (i = j))) H) : rEq (.int i) (.int j) H Q := ⟨rfl, by
  have e : decide (V.int i = V.int j) = decide (i = j) := by
    by_cases z : i = j
    · subst z; simp
    · simp [z]
  rw [e]; exact h⟩
theorem k_neI {i j : Int} (h : Q (.bl (!decide (i = j))) H) : rNe (.int i) (.int j) H Q := ⟨rfl, by
  have e : decide (V.int i = V.int j) = decide (i = j) := by
    by_cases z : i = j
    · subst z; simp
    · simp [z]
  rw [e]; exact h⟩
theorem k_eqS {i j : Str} (h : Q (.bl (decide (i = j))) H) : rEq (.str i) (.str j) H Q := ⟨rfl, by
  have e : decide (V.str i = V.str j) = decide (i = j) := by
    by_cases z : i = j
    · subst z; simp
    · simp [z]
  rw [e]; exact h⟩
theorem k_eqB {i j : Bool} (h : Q (.bl (decide (i = j))) H) : rEq (.bl i) (.bl j) H Q := ⟨rfl, by
  have e : decide (V.bl i = V.bl j) = decide (i = j) := by
    by_cases z : i = j
    · subst z; simp
    · simp [z]
  rw [e]; exact h⟩
theorem k_neB {i j : Bool} (h : Q (.bl (!decide (i = j))) H) : rNe (.bl i) (.bl j) H Q := ⟨rfl, by
  have e : decide (V.bl i = V.bl j) = decide (i = j) := by
    by_cases z : i = j
    · subst z; simp
    · simp [z]
  rw [e]; exact h⟩
theorem k_isN {x : V} (h : Q (.bl (decide (x = .non))) H) : rIsN x .non H Q := ⟨rfl, h⟩
theorem k_test (h : te σ H fun x H' => ∃ k, x = .bl k ∧ QB k H') : tTest te σ H QB := h
theorem k_tB (h : te σ H fun x H' => ∃ k, x = .bl k ∧ QB k H') : tB te σ H QB := h
theorem k_bl {P : Bool → Prop} {b : Bool} (h : P b) : ∃ k, V.bl b = .bl k ∧ P k := ⟨b, rfl, h⟩
theorem k_not (h : c σ H fun b H1 => QB (!b) H1) : tNot c σ H QB := h
theorem k_and {c' : TT} (h : c σ H fun b H1 => if b = true then c' σ H1 QB else QB false H1) : tAnd c c' σ H QB := h
theorem k_or {c' : TT} (h : c σ H fun b H1 => if b = true then QB true H1 else c' σ H1 QB) : tOr c c' σ H QB := h
theorem k_andV (h : ta σ H fun x H1 => ∃ k, x = .bl k ∧ if k = true then tb σ H1 Q else Q (.bl false) H1) : tAndV ta tb σ H Q := h
theorem k_notV (h : ta σ H fun x H1 => ∃ k, x = .bl k ∧ Q (.bl (!k)) H1) : tNotV ta σ H Q := h
theorem k_if (h : c σ H fun b H1 => if b = true then ta σ H1 Q else tb σ H1 Q) : tIf c ta tb σ H Q := h
theorem k_chain {r r' : R2} (h : ta σ H fun x H1 => tb σ H1 fun y H2 => r x y H2 fun z H3 => ∃ k, z = .bl k ∧ (if k = true then tc σ H3 fun w' H4 => r' y w' H4 Q else Q (.bl false) H3)) : tChain r r' ta tb tc σ H Q := h
theorem k_nil (h : QA [] H) : tNil σ H QA := h
theorem k_cons {tr : TA} (h : ta σ H fun x H1 => tr σ H1 fun xs H2 => QA (x :: xs) H2) : tCons ta tr σ H QA := h
theorem k_call {sp : Sp} {dvs : List V} {E : XK} {ts : TA} (h : ts σ H fun vs H1 => sp (vs ++ dvs) H1 Q E) : tCall sp dvs E ts σ H Q := h
theorem k_cB {r : List V → Hp → VK → Prop} {ts : TA} (h : ts σ H fun vs H1 => r vs H1 Q) : tCB r ts σ H Q := h
theorem k_tup {ts : TA} (h : ts σ H fun xs H1 => xs.length ≤ sizeLine ∧ ∀ p, H1 p = none → Q (.ref p) (upd H1 p (.tup xs))) : tTup ts σ H Q := h
theorem k_lst {ts : TA} (h : ts σ H fun xs H1 => xs.length ≤ sizeLine ∧ ∀ p, H1 p = none → Q (.ref p) (upd H1 p (.lst xs))) : tLst ts σ H Q := h
theorem k_sl {r : V → Option Int → Option Int → Hp → VK → Prop} {tl th : TO} (h : te σ H fun x H1 => tl σ H1 fun l H2 => th σ H2 fun u H3 => r x l u H3 Q) : tSl r te tl th σ H Q := h
theorem k_noPart {QO : Option Int → Hp → Prop} (h : QO none H) : tNoPart σ H QO := h
theorem k_part {QO : Option Int → Hp → Prop} (h : te σ H fun x H1 => ∃ i, x = .int i ∧ QO (some i) H1) : tPart te σ H QO := h
theorem k_int {P : Int → Prop} {i : Int} (h : P i) : ∃ j, V.int i = .int j ∧ P j := ⟨i, rfl, h⟩
theorem k_ite {p : Prop} [Decidable p] {A B : Prop} (h1 : p → A) (h2 : ¬ p → B) : if decide p = true then A else B := iteD h1 h2
theorem k_iteN {p : Prop} [Decidable p] {A B : Prop} (h1 : ¬ p → A) (h2 : p → B) : if (!decide p) = true then A else B := by
  by_cases h : p
  · rw [decide_eq_true h]; exact iteF (h2 h)
  · rw [decide_eq_false h]; exact iteT (h1 h)
theorem k_iteNF {A B : Prop} (h : A) : if (!false) = true then A else B := iteT h
theorem k_iteNT {A B : Prop} (h : B) : if (!true) = true then A else B := iteF h
def FAt (J : It) (g : TG) (tb : TS) (D : Ends) (σ : St) (H1 : Hp) : Prop := ∃ W : Nat → Nat → St → Hp → Prop, (∃ m, W 0 m σ H1) ∧ ∀ i m σ H, W i m σ H →
  (J.stop i H ∧ D.nx σ H) ∨ (J.go i H ∧ ∃ N : St → Hp → Prop, (∀ σ' H', N σ' H' → ∃ m', m' < m ∧ W (i + 1) m' σ' H') ∧ ∀ x H', J.yld i H x H' → g x σ H' fun σ2 H2 => tb { D with nx := N, ct := N, bk := D.nx } σ2 H2)
theorem k_for {wi : TI} {g : TG} {tb : TS} (h : wi σ H fun J H1 => FAt J g tb D σ H1) : tFor wi g tb D σ H := h
theorem k_comp {wi : TI} (h : wi σ H fun J H1 => CompAt J te σ Q H1) : tComp wi te σ H Q := h
theorem k_rng1 {ts : TA} {R : It → Hp → Prop} (h : ts σ H fun vs H1 => ∃ j : Int, vs = [.int j] ∧ -(2 ^ 62) ≤ j ∧ j < 2 ^ 62 ∧ R (Itr 0 j.toNat) H1) : iRng1 ts σ H R := h
theorem k_r1F {g : TG} {tb : TS} {j : Int} (h0 : -(2 ^ 62) ≤ j ∧ j < 2 ^ 62) (h : FAt (Itr 0 j.toNat) g tb D σ H) : ∃ i : Int, [V.int j] = [.int i] ∧ -(2 ^ 62) ≤ i ∧ i < 2 ^ 62 ∧ FAt (Itr 0 i.toNat) g tb D σ H := ⟨j, rfl, h0.1, h0.2, h⟩
theorem k_r1C {j : Int} (h0 : -(2 ^ 62) ≤ j ∧ j < 2 ^ 62) (h : CompAt (Itr 0 j.toNat) te σ Q H) : ∃ i : Int, [V.int j] = [.int i] ∧ -(2 ^ 62) ≤ i ∧ i < 2 ^ 62 ∧ CompAt (Itr 0 i.toNat) te σ Q H := ⟨j, rfl, h0.1, h0.2, h⟩
theorem k_iList {R : It → Hp → Prop} (h : te σ H fun x H1 => ∃ a, x = .ref a ∧ (∃ xs, SqL K H1 a xs) ∧ R (Itl K a) H1) : iList K te σ H R := h
theorem k_iTup {R : It → Hp → Prop} (h : te σ H fun x H1 => ∃ a, x = .ref a ∧ (∃ xs, SqT K H1 a xs) ∧ R (Itt K a) H1) : iTup K te σ H R := h
theorem k_rlF {g : TG} {tb : TS} {a : Addr} {xs : List V} (e : SqL K H a xs) (h : FAt (Itl K a) g tb D σ H) : ∃ b, V.ref a = .ref b ∧ (∃ xs, SqL K H b xs) ∧ FAt (Itl K b) g tb D σ H := ⟨a, rfl, ⟨xs, e⟩, h⟩
theorem k_rlC {a : Addr} {xs : List V} (e : SqL K H a xs) (h : CompAt (Itl K a) te σ Q H) : ∃ b, V.ref a = .ref b ∧ (∃ xs, SqL K H b xs) ∧ CompAt (Itl K b) te σ Q H := ⟨a, rfl, ⟨xs, e⟩, h⟩
theorem k_rtF {g : TG} {tb : TS} {a : Addr} {xs : List V} (e : SqT K H a xs) (h : FAt (Itt K a) g tb D σ H) : ∃ b, V.ref a = .ref b ∧ (∃ xs, SqT K H b xs) ∧ FAt (Itt K b) g tb D σ H := ⟨a, rfl, ⟨xs, e⟩, h⟩
theorem k_rtC {a : Addr} {xs : List V} (e : SqT K H a xs) (h : CompAt (Itt K a) te σ Q H) : ∃ b, V.ref a = .ref b ∧ (∃ xs, SqT K H b xs) ∧ CompAt (Itt K b) te σ Q H := ⟨a, rfl, ⟨xs, e⟩, h⟩
theorem fat_range {lo : Int} {n : Nat} {g : TG} {tb : TS} (Pv : Nat → St → Hp → Prop) (h0 : Pv 0 σ H)
    (hs : ∀ i σ H, i < n → Pv i σ H → g (.int (lo + i)) σ H fun σ2 H2 => tb { D with nx := Pv (i + 1), ct := Pv (i + 1), bk := D.nx } σ2 H2) (hd : ∀ σ H, Pv n σ H → D.nx σ H) : FAt (Itr lo n) g tb D σ H := for_range Pv h0 hs hd
theorem fat_list {a : Addr} {xs : List V} {g : TG} {tb : TS} (Pv : Nat → St → Hp → Prop) (h0 : Pv 0 σ H) (hl : ∀ i σ H, i ≤ xs.length → Pv i σ H → SqL K H a xs)
    (hs : ∀ i x σ H, xs[i]? = some x → Pv i σ H → g x σ H fun σ2 H2 => tb { D with nx := Pv (i + 1), ct := Pv (i + 1), bk := D.nx } σ2 H2) (hd : ∀ σ H, Pv xs.length σ H → D.nx σ H) : FAt (Itl K a) g tb D σ H := for_list Pv h0 hl hs hd
theorem fat_tup {a : Addr} {xs : List V} {g : TG} {tb : TS} (Pv : Nat → St → Hp → Prop) (h0 : Pv 0 σ H) (hl : ∀ i σ H, i ≤ xs.length → Pv i σ H → SqT K H a xs)
    (hs : ∀ i x σ H, xs[i]? = some x → Pv i σ H → g x σ H fun σ2 H2 => tb { D with nx := Pv (i + 1), ct := Pv (i + 1), bk := D.nx } σ2 H2) (hd : ∀ σ H, Pv xs.length σ H → D.nx σ H) : FAt (Itt K a) g tb D σ H := for_tup Pv h0 hl hs hd
theorem k_elt {v : V} {D : Addr} {n i : Nat} {Pv : Nat → Hp → Prop} (h : te (some v :: σ) H (EltK D n i Pv)) : Elt te σ v H D n i Pv := h
theorem k_gTup {n : Nat} {ts : TGs} {a : Addr} {xs : List V} (e : SqT K H a xs) (l : xs.length = n) (h : ts xs σ H QS) : gTup K n ts (.ref a) σ H QS := ⟨a, xs, rfl, e, l, h⟩
theorem k_gCons {tg : TG} {ts : TGs} {v : V} {r : List V} (h : tg v σ H fun σ' H' => ts r σ' H' QS) : gCons tg ts (v :: r) σ H QS := ⟨v, r, rfl, h⟩
theorem k_gNil (h : QS σ H) : gNil [] σ H QS := ⟨rfl, h⟩
theorem k_lenL {p : Addr} {xs : List V} (e : SqL K H p xs) (h : Q (.int xs.length) H) : rLenQ K [.ref p] H Q := ⟨p, xs, rfl, .inl e, h⟩
theorem k_lenT {p : Addr} {xs : List V} (e : SqT K H p xs) (h : Q (.int xs.length) H) : rLenQ K [.ref p] H Q := ⟨p, xs, rfl, .inr e, h⟩
theorem k_lenS {z : Str} (e : z.length ≤ sizeLine) (h : Q (.int z.length) H) : rLenS [.str z] H Q := ⟨z, rfl, e, h⟩
theorem k_ixL {p : Addr} {xs : List V} {i : Int} {v : V} (e : SqL K H p xs) (a : atI xs i = some v) (h : Q v H) : rIxL K (.ref p) (.int i) H Q := ⟨p, xs, i, v, rfl, rfl, e, a, h⟩
theorem k_ixT {p : Addr} {xs : List V} {i : Int} {v : V} (e : SqT K H p xs) (a : atI xs i = some v) (h : Q v H) : rIxT K (.ref p) (.int i) H Q := ⟨p, xs, i, v, rfl, rfl, e, a, h⟩
theorem k_ixS {z : Str} {i : Int} {c : Nat} (e : z.length ≤ sizeLine) (a : atI z.cps.toList i = some c) (h : Q (.str ⟨#[c]⟩) H) : rIxS (.str z) (.int i) H Q := ⟨z, i, c, rfl, rfl, e, a, h⟩
theorem k_tupL {p : Addr} {xs : List V} (e : SqL K H p xs) (h : ∀ l, H l = none → Q (.ref l) (upd H l (.tup xs))) : rTupOf K [.ref p] H Q := ⟨p, xs, rfl, .inl ⟨e, h⟩⟩
theorem k_tupT {p : Addr} {xs : List V} (e : SqT K H p xs) (h : Q (.ref p) H) : rTupOf K [.ref p] H Q := ⟨p, xs, rfl, .inr ⟨e, h⟩⟩
theorem k_listL {p : Addr} {xs : List V} (e : SqL K H p xs) (h : ∀ l, H l = none → Q (.ref l) (upd H l (.lst xs))) : rListOf K [.ref p] H Q := ⟨p, xs, rfl, .inl e, h⟩
theorem k_listT {p : Addr} {xs : List V} (e : SqT K H p xs) (h : ∀ l, H l = none → Q (.ref l) (upd H l (.lst xs))) : rListOf K [.ref p] H Q := ⟨p, xs, rfl, .inr e, h⟩
theorem k_bm {T : String} {r : V → List V → Hp → VK → Prop} {to : TE} {ts : TA} (h : to σ H fun x H1 => tyV K T x H1 ∧ ts σ H1 fun xs H2 => r x xs H2 Q) : tBM K T r to ts σ H Q := h
theorem k_tyL {p : Addr} {xs : List V} (e : H p = some (.lst xs)) : tyV K "list" (.ref p) H := .inl ⟨rfl, xs, SqL.of e⟩
theorem k_intB {b : Bool} (h : Q (.int (if b then 1 else 0)) H) : rInt1 [.bl b] H Q := .inr ⟨b, rfl, h⟩
theorem k_isi {x : V} {n : String} {ty : Value} {b : Bool} (e : TyOf K H x ty) (k : PySem.W.kitOne K ty (.type n) = some b) (h : Q (.bl b) H) : rIsi K [x, .ty n] H Q := ⟨x, n, ty, b, rfl, e, k, h⟩
theorem k_addS {i j : Str} (n : i.length + j.length ≤ sizeLine) (h : Q (.str (i ++ j)) H) : rAddS (.str i) (.str j) H Q := ⟨i, j, rfl, rfl, n, h⟩
end
mutual
inductive Rp (K : PySem.W.Frag) (S : Addr → Prop) (H : Hp) : V → Dat → Prop
  | non : Rp K S H .non .none
  | bl (b : Bool) : Rp K S H (.bl b) (.bool b)
  | int (i : Int) : Rp K S H (.int i) (.int i)
  | str (x : Str) : Rp K S H (.str x) (.str x)
  | tup {a : Addr} {xs : List V} {ds : List Dat} : H a = some (.tup xs) → RpL K S H xs ds → Rp K S H (.ref a) (.tuple ds)
  | lst {a : Addr} {xs : List V} {ds : List Dat} : S a → H a = some (.lst xs) → RpL K S H xs ds → Rp K S H (.ref a) (.list ds)
inductive RpL (K : PySem.W.Frag) (S : Addr → Prop) (H : Hp) : List V → List Dat → Prop
  | nil : RpL K S H [] []
  | cons {v : V} {d : Dat} {vs : List V} {ds : List Dat} : Rp K S H v d → RpL K S H vs ds → RpL K S H (v :: vs) (d :: ds)
end
structure Agr (S : Addr → Prop) (H H' : Hp) : Prop where
  tup : ∀ a xs, H a = some (.tup xs) → H' a = some (.tup xs)
  lst : ∀ a xs, S a → H a = some (.lst xs) → H' a = some (.lst xs)
section
variable {K : PySem.W.Frag} {S S' : Addr → Prop} {H H' : Hp}
theorem Agr.of_same (e : Same H H') : Agr S H H' := ⟨fun a xs h => e _ _ h, fun a xs _ h => e _ _ h⟩
theorem Agr.of_upd {l : Addr} {ys : List V} {o : HO} (hl : H l = some (.lst ys)) (ns : ¬ S l) : Agr S H (upd H l o) := by
  refine ⟨fun a xs h => ?_, fun a xs s h => ?_⟩
  · have ne : a ≠ l := by
      rintro rfl
      rw [hl] at h
      cases h
    rw [upd_ne ne]; exact h
  · have ne : a ≠ l := by
      rintro rfl
      exact ns s
    rw [upd_ne ne]; exact h
mutual
theorem Rp.agr (e : Agr S H H') : ∀ {v : V} {d : Dat}, Rp K S H v d → Rp K S H' v d
  | _, _, .non => .non
  | _, _, .bl b => .bl b
  | _, _, .int i => .int i
  | _, _, .str x => .str x
  | _, _, .tup h r => .tup (e.tup _ _ h) (RpL.agr e r)
  | _, _, .lst s h r => .lst s (e.lst _ _ s h) (RpL.agr e r)
theorem RpL.agr (e : Agr S H H') : ∀ {vs : List V} {ds : List Dat}, RpL K S H vs ds → RpL K S H' vs ds
  | _, _, .nil => .nil
  | _, _, .cons h r => .cons (Rp.agr e h) (RpL.agr e r)
end
mutual
theorem Rp.mono (e : ∀ a, S a → S' a) : ∀ {v : V} {d : Dat}, Rp K S H v d → Rp K S' H v d
  | _, _, .non => .non
  | _, _, .bl b => .bl b
  | _, _, .int i => .int i
  | _, _, .str x => .str x
  | _, _, .tup h r => .tup h (RpL.mono e r)
  | _, _, .lst s h r => .lst (e _ s) h (RpL.mono e r)
theorem RpL.mono (e : ∀ a, S a → S' a) : ∀ {vs : List V} {ds : List Dat}, RpL K S H vs ds → RpL K S' H vs ds
  | _, _, .nil => .nil
  | _, _, .cons h r => .cons (Rp.mono e h) (RpL.mono e r)
end
mutual
theorem Rp.rep : ∀ {v : V} {d : Dat}, Rp K S H v d → Rep K H v d
  | _, _, .non => .non
  | _, _, .bl b => .bl b
  | _, _, .int i => .int i
  | _, _, .str x => .str x
  | _, _, .tup h r => .tup (SqT.of h) (RpL.rep r)
  | _, _, .lst _ h r => .lst (SqL.of h) (RpL.rep r)
theorem RpL.rep : ∀ {vs : List V} {ds : List Dat}, RpL K S H vs ds → RepL K H vs ds
  | _, _, .nil => .nil
  | _, _, .cons h r => .cons (Rp.rep h) (RpL.rep r)
end
theorem Rp.same (e : Same H H') {v : V} {d : Dat} (h : Rp K S H v d) : Rp K S H' v d := h.agr (Agr.of_same e)
theorem RpL.same (e : Same H H') {vs : List V} {ds : List Dat} (h : RpL K S H vs ds) : RpL K S H' vs ds := h.agr (Agr.of_same e)
theorem RpL.length : ∀ {vs : List V} {ds : List Dat}, RpL K S H vs ds → vs.length = ds.length
  | _, _, .nil => rfl
  | _, _, .cons _ r => congrArg (· + 1) (RpL.length r)
theorem RpL.get : ∀ {vs : List V} {ds : List Dat} {i : Nat} {v : V}, RpL K S H vs ds → vs[i]? = some v → ∃ d, ds[i]? = some d ∧ Rp K S H v d
  | _, _, _, _, .nil, e => by simp at e
  | _, _, 0, _, .cons h _, e => by simp at e; subst e; exact ⟨_, rfl, h⟩
  | _, _, i + 1, v, .cons _ r, e => by
    obtain ⟨d, h1, h2⟩ := RpL.get (i := i) (v := v) r (by simpa using e)
    exact ⟨d, by simpa using h1, h2⟩
theorem RpL.get' : ∀ {vs : List V} {ds : List Dat} {i : Nat} {d : Dat}, RpL K S H vs ds → ds[i]? = some d → ∃ v, vs[i]? = some v ∧ Rp K S H v d
  | _, _, _, _, .nil, e => by simp at e
  | _, _, 0, _, .cons h _, e => by simp at e; subst e; exact ⟨_, rfl, h⟩
  | _, _, i + 1, v, .cons _ r, e => by
    obtain ⟨d, h1, h2⟩ := RpL.get' (i := i) (d := v) r (by simpa using e)
    exact ⟨d, by simpa using h1, h2⟩
theorem RpL.append : ∀ {vs ws : List V} {ds es : List Dat}, RpL K S H vs ds → RpL K S H ws es → RpL K S H (vs ++ ws) (ds ++ es)
  | _, _, _, _, .nil, s => s
  | _, _, _, _, .cons h r, s => .cons h (RpL.append r s)
theorem RpL.reverse {vs : List V} {ds : List Dat} (h : RpL K S H vs ds) : RpL K S H vs.reverse ds.reverse := by
  induction vs generalizing ds with
  | nil => cases h; exact .nil
  | cons v vs ih =>
    cases h with
    | cons h r =>
      rw [List.reverse_cons, List.reverse_cons]
      exact (ih r).append (.cons h .nil)
theorem RpL.ints : ∀ ns : List Int, RpL K S H (ns.map V.int) (ns.map Dat.int)
  | [] => .nil
  | n :: ns => .cons (.int n) (RpL.ints ns)
theorem RpL.strs : ∀ ns : List Str, RpL K S H (ns.map V.str) (ns.map Dat.str)
  | [] => .nil
  | n :: ns => .cons (.str n) (RpL.strs ns)
theorem RpL.ints_of : ∀ {vs : List V} {ns : List Int}, RpL K S H vs (ns.map Dat.int) → vs = ns.map V.int
  | _, [], .nil => rfl
  | _, n :: ns, .cons h r => by cases h; rw [RpL.ints_of r]; rfl
theorem RpL.strs_of : ∀ {vs : List V} {ns : List Str}, RpL K S H vs (ns.map Dat.str) → vs = ns.map V.str
  | _, [], .nil => rfl
  | _, n :: ns, .cons h r => by cases h; rw [RpL.strs_of r]; rfl
theorem Rp.tup_of {v : V} {ds : List Dat} (h : Rp K S H v (.tuple ds)) : ∃ a xs, v = .ref a ∧ SqT K H a xs ∧ RpL K S H xs ds := by
  cases h with
  | tup h r => exact ⟨_, _, rfl, SqT.of h, r⟩
theorem Rp.tup_at {v : V} {ds : List Dat} (h : Rp K S H v (.tuple ds)) : ∃ a xs, v = .ref a ∧ H a = some (.tup xs) ∧ RpL K S H xs ds := by
  cases h with
  | tup h r => exact ⟨_, _, rfl, h, r⟩
theorem Rp.lst_of {v : V} {ds : List Dat} (h : Rp K S H v (.list ds)) : ∃ a xs, v = .ref a ∧ S a ∧ SqL K H a xs ∧ RpL K S H xs ds := by
  cases h with
  | lst s h r => exact ⟨_, _, rfl, s, SqL.of h, r⟩
theorem Rp.lst_at {v : V} {ds : List Dat} (h : Rp K S H v (.list ds)) : ∃ a xs, v = .ref a ∧ S a ∧ H a = some (.lst xs) ∧ RpL K S H xs ds := by
  cases h with
  | lst s h r => exact ⟨_, _, rfl, s, h, r⟩
end
def F0 : Addr → Prop := fun _ => False
abbrev Rz (K : PySem.W.Frag) (H : Hp) : V → Dat → Prop := Rp K F0 H
abbrev RzL (K : PySem.W.Frag) (H : Hp) : List V → List Dat → Prop := RpL K F0 H
section
variable {K : PySem.W.Frag} {S : Addr → Prop} {H H' : Hp}
theorem RpL.z {vs : List V} {ds : List Dat} (h : RzL K H vs ds) : RpL K S H vs ds := h.mono fun _ z => z.elim
theorem Rz.upd {l : Addr} {ys : List V} {o : HO} {v : V} {d : Dat} (h : Rz K H v d) (hl : H l = some (.lst ys)) : Rz K (L2.upd H l o) v d := h.agr (Agr.of_upd hl fun z => z)
theorem RzL.upd {l : Addr} {ys : List V} {o : HO} {v : List V} {d : List Dat} (h : RzL K H v d) (hl : H l = some (.lst ys)) : RzL K (L2.upd H l o) v d := h.agr (Agr.of_upd hl fun z => z)
end
section
variable {K : PySem.W.Frag} {H0 H H' : Hp} {l : Addr} {ds : List Dat}
end
structure AccZ (K : PySem.W.Frag) (H0 : Hp) (l : Addr) (H : Hp) (ds : List Dat) : Prop where
  same : Same H0 H
  new : H0 l = none
  at_ : ∃ xs, H l = some (.lst xs) ∧ RzL K H xs ds
section
variable {K : PySem.W.Frag} {H0 H H' : Hp} {l m : Addr} {ds : List Dat}
theorem AccZ.start (e : Same H0 H) (n : H l = none) : AccZ K H0 l (upd H l (.lst [])) [] := ⟨e.trans (same_new n _), e.free n, [], upd_same, .nil⟩
theorem AccZ.on (A : AccZ K H0 l H ds) (e : Same H H') : AccZ K H0 l H' ds := by
  obtain ⟨xs, h1, h2⟩ := A.at_
  exact ⟨A.same.trans e, A.new, xs, e _ _ h1, h2.same e⟩
theorem AccZ.ref (A : AccZ K H0 l H ds) : Rp K (fun a => H0 a = none) H (.ref l) (.list ds) := by
  obtain ⟨xs, h1, h2⟩ := A.at_
  exact .lst A.new h1 h2.z
theorem AccZ.rep (A : AccZ K H0 l H ds) : Rep K H (.ref l) (.list ds) := A.ref.rep
theorem AccZ.ty (A : AccZ K H0 l H ds) : tyV K "list" (.ref l) H := by
  obtain ⟨xs, h1, _⟩ := A.at_
  exact k_tyL h1
theorem AccZ.sq (A : AccZ K H0 l H ds) : ∃ xs, SqL K H l xs ∧ xs.length = ds.length ∧ RzL K H xs ds := by
  obtain ⟨xs, h1, h2⟩ := A.at_
  exact ⟨xs, SqL.of h1, h2.length, h2⟩
theorem AccZ.upd_same (A : AccZ K H0 l H ds) {o : HO} : Same H0 (L2.upd H l o) := fun b u q => by
  rw [L2.upd_ne (ne_of_none q A.new)]
  exact A.same b u q
theorem AccZ.other (A : AccZ K H0 l H ds) {ys : List V} {o : HO} (ne : l ≠ m) (n : H0 m = none) (h : H m = some (.lst ys)) : AccZ K H0 l (upd H m o) ds := by
  obtain ⟨xs, h1, h2⟩ := A.at_
  refine ⟨fun b u q => ?_, A.new, xs, by rw [upd_ne ne]; exact h1, h2.upd h⟩
  rw [upd_ne (ne_of_none q n)]
  exact A.same b u q
end
theorem k_appZ {K : PySem.W.Frag} {H0 H : Hp} {l : Addr} {ds : List Dat} {Q : VK} (A : AccZ K H0 l H ds) {y : V} {d : Dat} (r : Rz K H y d) (n : ds.length < sizeLine)
    (h : ∀ H2, AccZ K H0 l H2 (ds ++ [d]) → (∀ {v : V} {e : Dat}, Rz K H v e → Rz K H2 v e) → (∀ b, b ≠ l → H2 b = H b) → (∀ {m : Addr} {es : List Dat}, m ≠ l → AccZ K H0 m H es → AccZ K H0 m H2 es) → Q .non H2) : rAppend (.ref l) [y] H Q := by
  obtain ⟨xs, h1, h2⟩ := A.at_
  refine ⟨l, xs, y, rfl, rfl, h1, by rw [h2.length]; exact n, h _ ⟨A.upd_same, A.new, xs ++ [y], upd_same, ?_⟩ (fun q => Rz.upd q h1) (fun b nb => upd_ne nb) fun ne B => B.other ne A.new h1⟩
  exact RzL.upd (h2.append (.cons r .nil)) h1
section
variable {K : PySem.W.Frag} {H : Hp} {Q : VK} {x y : V} {d e : Dat} {ds : List Dat}
open Classical in
theorem k_notInD (hd : Rep K H x d) (he : Rep K H y (.list ds)) (ka : ∀ e ∈ ds, kqdOk 8 e = true) (kd : kqdOk 8 d = true) (h1 : d ∉ ds → Q (.bl true) H) (h2 : d ∈ ds → Q (.bl false) H) : rInD K true x y H Q := by
  refine ⟨d, ds, hd, he, ka, kd, ?_⟩
  by_cases z : d ∈ ds
  · have q := h2 z
    simpa [z] using q
  · have q := h1 z
    simpa [z] using q
open Classical in
theorem k_eqD (hd : Rep K H x d) (he : Rep K H y e) (kd : kqdOk 8 d = true) (ke : kqdOk 8 e = true) (h1 : d = e → Q (.bl true) H) (h2 : d ≠ e → Q (.bl false) H) : rEqD K x y H Q := by
  refine ⟨d, e, hd, he, kd, ke, ?_⟩
  by_cases z : d = e
  · have q := h1 z
    rw [decide_eq_true z]
    exact q
  · have q := h2 z
    rw [decide_eq_false z]
    exact q
end
end L2
namespace L2
open PySem PySem.Spec PyProof.Rows
def hiN (n : Nat) : Option Int → Nat
  | none => n
  | some j => min j.toNat n
def hiL (l : List Nat) : Option Int → List Nat
  | none => l
  | some j => l.take j.toNat
theorem hiN_le (n : Nat) (hi : Option Int) : hiN n hi ≤ n := by
  cases hi with
  | none => exact Nat.le_refl _
  | some j => exact Nat.min_le_right _ _
def scut (z : Str) (lo hi : Option Int) : Str := ⟨((hiL z.cps.toList hi).drop (lo.getD 0).toNat).toArray⟩
def NN : Option Int → Prop
  | none => True
  | some i => 0 ≤ i
theorem sidx {lo hi : Option Int} (n : Nat) (hl : NN lo) (hh : NN hi) : Builtin.Str.strSliceIndices lo hi 1 n = (List.range (hiN n hi - min (lo.getD 0).toNat n)).map (fun k => min (lo.getD 0).toNat n + k) := by
  have core : ∀ (a b : Nat), a ≤ n → b ≤ n → sliceRange (a : Int) (b : Int) 1 = (List.range (b - a)).map (fun k => a + k) := by
    intro a b ha hb
    simp only [sliceRange, show ((1 : Int) > 0) = True from by simp, if_true]
    by_cases hlt : (a : Int) < b
    · have e3 : (((b : Int) - a + 1 - 1) / 1).toNat = b - a := by rw [Int.ediv_one]; omega
      simp only [hlt, if_true, e3]
      refine List.map_congr_left fun k _ => ?_
      omega
    · have : b - a = 0 := by omega
      simp [hlt, this]
  have clip : ∀ i : Int, 0 ≤ i → max (0 : Int) (min (if i < 0 then i + n else i) n) = ((min i.toNat n : Nat) : Int) := by
    intro i hi
    rw [if_neg (by omega)]
    omega
  cases lo with
  | none =>
    cases hi with
    | none =>
      have := core 0 n (by omega) (by omega)
      simpa [Builtin.Str.strSliceIndices, hiN] using this
    | some j =>
      have := core 0 (min j.toNat n) (by omega) (by omega)
      simp only [Builtin.Str.strSliceIndices, show ((1 : Int) > 0) = True from by simp, if_true]
      rw [clip j hh]
      simpa [hiN] using this
  | some i =>
    cases hi with
    | none =>
      have := core (min i.toNat n) n (by omega) (by omega)
      simp only [Builtin.Str.strSliceIndices, show ((1 : Int) > 0) = True from by simp, if_true]
      rw [clip i hl]
      simpa [hiN] using this
    | some j =>
      have := core (min i.toNat n) (min j.toNat n) (by omega) (by omega)
      simp only [Builtin.Str.strSliceIndices, show ((1 : Int) > 0) = True from by simp, if_true]
      rw [clip i hl, clip j hh]
      simpa [hiN] using this
theorem scut_txt (z : Str) {lo hi : Option Int} (hl : NN lo) (hh : NN hi) : Txt.slice z lo hi = scut z lo hi := by
  have len : z.cps.toList.length = z.length := by simp [Str.length]
  have e := sidx z.length hl hh
  have p := StrLaws.picks z.cps.toList (hiN z.length hi - min (lo.getD 0).toNat z.length) (min (lo.getD 0).toNat z.length) (by have := hiN_le z.length hi; rw [len]; omega)
  have q : (z.cps.toList.drop (min (lo.getD 0).toNat z.length)).take (hiN z.length hi - min (lo.getD 0).toNat z.length) = (hiL z.cps.toList hi).drop (lo.getD 0).toNat := by
    generalize (lo.getD 0).toNat = a
    cases hi with
    | none =>
      show List.take (z.length - min a z.length) (List.drop (min a z.length) z.cps.toList) = List.drop a z.cps.toList
      by_cases ha : a ≤ z.length
      · rw [Nat.min_eq_left ha, List.take_of_length_le (by rw [List.length_drop, len]; exact Nat.le_refl _)]
      · rw [Nat.min_eq_right (by omega), List.drop_of_length_le (by rw [len]; exact Nat.le_refl _), List.drop_of_length_le (by rw [len]; omega)]
        simp
    | some j =>
      show List.take (min j.toNat z.length - min a z.length) (List.drop (min a z.length) z.cps.toList) = List.drop a (z.cps.toList.take j.toNat)
      rw [List.drop_take]
      generalize j.toNat = b
      by_cases ha : a ≤ z.length
      · rw [Nat.min_eq_left ha]
        by_cases hb : b ≤ z.length
        · rw [Nat.min_eq_left hb]
        · rw [Nat.min_eq_right (by omega), List.take_of_length_le (by rw [List.length_drop, len]; exact Nat.le_refl _), List.take_of_length_le (by rw [List.length_drop, len]; omega)]
      · rw [Nat.min_eq_right (by omega : z.length ≤ a), List.drop_of_length_le (by rw [len]; exact Nat.le_refl _), List.drop_of_length_le (by rw [len]; omega)]
        simp
  have r : (Builtin.Str.strSliceIndices lo hi 1 z.length).filterMap (z.cps[·]?) = (hiL z.cps.toList hi).drop (lo.getD 0).toNat := by
    rw [← q, ← p, e]
    simp
  unfold Txt.slice scut
  split
  · rename_i c
    have c' : (Builtin.Str.strSliceIndices lo hi 1 z.length).length = z.length := by simpa using c
    rw [e, List.length_map, List.length_range] at c'
    have w : (z.cps.toList.drop (min (lo.getD 0).toNat z.length)).take (hiN z.length hi - min (lo.getD 0).toNat z.length) = z.cps.toList := by
      have b := hiN_le z.length hi
      by_cases h0 : z.length = 0
      · have : z.cps.toList = [] := List.length_eq_zero_iff.mp (by rw [len]; exact h0)
        rw [this]; simp
      · have a0 : min (lo.getD 0).toNat z.length = 0 := by omega
        rw [a0, List.drop_zero, List.take_of_length_le (by rw [len]; omega)]
    rw [← q, w]
  · rw [r]
def rSlS : V → Option Int → Option Int → Hp → VK → Prop := fun x lo hi H Q => ∃ z, x = .str z ∧ z.length ≤ sizeLine ∧ NN lo ∧ NN hi ∧ Q (.str (scut z lo hi)) H
def rFind : V → List V → Hp → VK → Prop := fun x xs H Q => ∃ z y, x = .str z ∧ xs = [.str y] ∧ Q (.int (Txt.find z y)) H
def rLeS : R2 := fun x y H Q => ∃ i j, x = .str i ∧ y = .str j ∧ Q (.bl (!decide (j.cps.toList < i.cps.toList))) H
section
variable {X : Cx}
theorem sl_str : SlR X rSlS := by
  intro pins s σ H x v vl vu lo hi sl Q I rx hs pl pu h
  obtain ⟨z, rfl, hz, hl, hh, q⟩ := h
  obtain ⟨t, rfl⟩ := rx
  refine ⟨"str", _, F.slot_str_getitem.lookup, typeIs_str _ _ _, ?_⟩
  have fin : ∀ (l u : Option (Int × Tok)), l.map (·.1) = lo → u.map (·.1) = hi → (sliceMade z t l u none).post (EP X pins σ Q) s := by
    intro l u el eu
    have e : sliceMade z t l u none = if ((1 : Int) == 1 && (Builtin.Str.strSliceIndices lo hi 1 z.length).length == z.length) = true then Made.val (.str z t) else .str ⟨((Builtin.Str.strSliceIndices lo hi 1 z.length).filterMap (z.cps[·]?)).toArray⟩ := by
      unfold sliceMade slicePicked
      rw [el, eu]
      rfl
    rw [e]
    have lt := Txt.slice_le z lo hi
    have eq := scut_txt z hl hh
    unfold Txt.slice at lt eq
    refine post_val_or_str ⟨Nat.le_trans lt hz, fun t' k => ⟨.str (scut z lo hi), H, I.tok k, ⟨t', ?_⟩, q⟩⟩
    rw [eq]
  cases pl with
  | none =>
    cases pu with
    | none => exact wpAny_getItem_str_slice (l := none) (u := none) (st := none) hs rfl (fin none none rfl rfl)
    | int j tj => exact wpAny_getItem_str_slice (l := none) (u := some (j, tj)) (st := none) hs rfl (fin none (some (j, tj)) rfl rfl)
  | int i ti =>
    cases pu with
    | none => exact wpAny_getItem_str_slice (l := some (i, ti)) (u := none) (st := none) hs rfl (fin (some (i, ti)) none rfl rfl)
    | int j tj => exact wpAny_getItem_str_slice (l := some (i, ti)) (u := some (j, tj)) (st := none) hs rfl (fin (some (i, ti)) (some (j, tj)) rfl rfl)
theorem mt_find : MtR X "str.find" rFind := by
  intro pins s σ H x xs v us Q I rx rv h
  obtain ⟨z, y, rfl, rfl, q⟩ := h
  obtain ⟨t, rfl⟩ := rx
  obtain ⟨u, rfl, t', rfl⟩ := vals1 rv
  exact SC.find ⟨.int _, H, I.tok _, ⟨_, rfl⟩, q⟩
theorem op_le_str : OpR X (compareOp .LtE) rLeS := by
  intro pins s σ H x y v u Q I rx ry h
  obtain ⟨i, j, rfl, rfl, q⟩ := h
  obtain ⟨t, rfl⟩ := rx
  obtain ⟨t', rfl⟩ := ry
  exact PySem.P.le_str (fin_bl I q rfl)
end
end L2
namespace L2
open PySem PySem.Spec PyProof.Rows
def RawD (h : Heap) (d : Addr) (es : Array DictEntry) (ep : Nat) : Prop := ∃ o, h.get? d = some o ∧ o.ExactDict ∧ o.data = .dict es ep
section
variable {prog : Program} {w : World} {A : Around} {E : Value → Shared → Prop} {s : Shared} {d it : Addr} {es : Array DictEntry} {ep i : Nat}
theorem RawD.ty (m : RawD s.heap d es ep) : s.TypeIs (.ref d) "dict" := by
  obtain ⟨o, a, b, _⟩ := m
  exact ⟨o, a, b.1⟩
theorem RawD.at {h h' : Heap} (m : RawD h d es ep) (k : ∀ o, h.get? d = some o → h'.get? d = some o) : RawD h' d es ep := by
  obtain ⟨o, a, b⟩ := m
  exact ⟨o, k o a, b⟩
theorem raw_iter {Q : Value → Shared → Prop} (lo : (d == sysModules) = false) (m : RawD s.heap d es ep) (q : Q (.ref s.heap.objs.size) { s with heap := s.heap.push { cls := .type "dict_keyiterator", data := .fields #[.ref d, .int 0 0, .int es.size 0, .int ep 0] } }) :
    wpAny (model prog w) A (pyIter (.ref d)) Q E s := by
  have ty := m.ty
  obtain ⟨o, ho, _, dt⟩ := m
  refine wpAny_pyIter_slot ty F.slot_dict_iter (wpAny_call_entry F.slot_dict_iter ty F.entry_dict_iter ?_ (F.args_dict_iter_1 _))
  unfold Builtin.«dict.__iter__» Builtin.Dict.dictSlotNone
  refine wpAny_bind (wpAny_bind (wpAny_notOrdered_dict ty ?_)); show wpAny _ _ (pure (Value.ref d)) _ _ s
  refine wpAny_pure ?_; show wpAny _ _ (Builtin.Dict.showsAll d >>= _) _ _ s; unfold Builtin.Dict.showsAll
  rw [if_neg (fun z => by rw [lo] at z; cases z)]; refine wpAny_bind (wpAny_pure (wpAny_bind (wpAny_dictEntries ho dt (wpAny_bind (wpAny_dictEpoch ho dt ?_)))))
  refine wpAny_bind (wpAny_newObj_type (wpAny_pure ⟨_, rfl, "dict_keyiterator", _, ⟨_, Heap.get?_push_size _ rfl, rfl⟩, F.slot_dict_keyiterator_next.lookup, ?_⟩)); simpa [rawInt] using q
theorem raw_next {Q : Option Value → Shared → Prop} (ki : s.heap.IsKeyIter it d i es.size ep) (m : RawD s.heap d es ep) :
    (∀ e, es[i]? = some e → (∀ h', h'.IsKeyIter it d (i + 1) es.size ep → Heap.SameBut it s.heap h' → Q (some e.key) { s with heap := h' }) → wpAny (model prog w) A (pyNext (.ref it)) Q E s) ∧
    (A.handled = none → es[i]? = none → (∀ h', Heap.ExtBut it s.heap h' → Q none { s with heap := h' }) → wpAny (model prog w) A (pyNext (.ref it)) Q E s) := by
  obtain ⟨o, ho, oc, od⟩ := id ki
  obtain ⟨dd, hd, _, dt⟩ := id m
  have own : Builtin.Dict_items.ownsTuple "dict_keyiterator" = false := by decide
  have nn : ¬ ((Value.ref d == Value.none) = true) := Bool.false_ne_true
  constructor
  · intro e he hq
    unfold pyNext; refine wpAny_bind (wpAny_attempt (wpAny_callSpecial?_slot (name := Str.ofString "__next__") ki.typeIs F.slot_dict_keyiterator_next (wpAny_call_entry F.slot_dict_keyiterator_next ki.typeIs F.entry_dict_keyiterator_next ?_ (F.args_dict_keyiterator_next_1 _))))
    refine wpAny_bind (wpAny_pure (wpAny_bind (wpAny_bind (wpAny_bind (wpAny_typeNameOfWhole_keyiter ki.typeIs (wpAny_pure (wpAny_bind (wpAny_fieldsOf ho od ?_))))))))
    simp only [own, Bool.false_eq_true, if_false]; show wpAny _ _ (if (Value.ref d == Value.none) = true then _ else _) _ _ s; rw [if_neg nn]
    refine wpAny_bind (wpAny_pure (wpAny_bind (wpAny_dictEntries hd dt ?_))); rw [if_neg (by simp)]; refine wpAny_bind (wpAny_pure (wpAny_bind (wpAny_dictEpoch hd dt ?_))); rw [if_neg (by simp)]
    refine wpAny_pure ?_; simp only [show ¬ ((i : Int) < 0) from by omega, if_false, Int.toNat_natCast, he]
    refine wpAny_bind (wpAny_bind (wpAny_typeNameOfWhole_keyiter ki.typeIs (wpAny_pure (wpAny_bind (wpAny_isOneOf_keyiter ki.typeIs ?_))))); show wpAny _ _ (setField (.ref it) 1 (rawInt ((i : Int) + 1)) >>= _) _ _ s
    refine wpAny_bind (wpAny_setField ho od (by simp) ?_)
    have k2 : (s.heap.update it (Obj.mapFields (·.setIfInBounds 1 (rawInt ((i : Int) + 1))))).IsKeyIter it d (i + 1) es.size ep := ⟨_, Heap.get?_update_self _ ho (Obj.isFreed_of_fields (Obj.data_mapFields od _)), (Obj.cls_mapFields ..).trans oc, by rw [Obj.data_mapFields od]; simp [rawInt]⟩
    refine wpAny_bind (wpAny_holding (wpAny_bind (wpAny_isOneOf_keyiter (s := { s with heap := s.heap.update it (Obj.mapFields (·.setIfInBounds 1 (rawInt ((i : Int) + 1)))) }) k2.typeIs ?_))); show wpAny _ _ (pure e.key) _ _ _
    exact wpAny_pure (wpAny_pure ⟨_, rfl, wpAny_pure (hq _ k2 (Heap.SameBut.update ..))⟩)
  · intro hh he hq
    unfold pyNext; refine wpAny_bind (wpAny_attempt (wpAny_callSpecial?_slot (name := Str.ofString "__next__") ki.typeIs F.slot_dict_keyiterator_next (wpAny_call_entry F.slot_dict_keyiterator_next ki.typeIs F.entry_dict_keyiterator_next ?_ (F.args_dict_keyiterator_next_1 _))))
    refine wpAny_bind (wpAny_pure (wpAny_bind (wpAny_bind (wpAny_bind (wpAny_typeNameOfWhole_keyiter ki.typeIs (wpAny_pure (wpAny_bind (wpAny_fieldsOf ho od ?_))))))))
    simp only [own, Bool.false_eq_true, if_false]; show wpAny _ _ (if (Value.ref d == Value.none) = true then _ else _) _ _ s; rw [if_neg nn]
    refine wpAny_bind (wpAny_pure (wpAny_bind (wpAny_dictEntries hd dt ?_))); rw [if_neg (by simp)]; refine wpAny_bind (wpAny_pure (wpAny_bind (wpAny_dictEpoch hd dt ?_))); rw [if_neg (by simp)]
    refine wpAny_pure ?_; simp only [show ¬ ((i : Int) < 0) from by omega, if_false, Int.toNat_natCast, he]
    refine wpAny_bind (wpAny_bind (wpAny_typeNameOfWhole_keyiter ki.typeIs (wpAny_pure ?_))); show wpAny _ _ (setField (.ref it) 0 .none >>= _) _ _ s
    refine wpAny_bind (wpAny_setField ho od (by simp) ?_); show wpAny _ _ (newExc (.type "StopIteration") [] >>= _) _ _ _
    refine wpAny_bind ?_; simp only [newExc, newTuple]; refine wpAny_bind (wpAny_newObj_type ?_ (by size_fits))
    refine wpAny_bind (m := firstArgMember _ _) (wpAny_of_eq (a := Value.none) (by simp only [firstArgMember]; rfl) (wpAny_newObj_type ?_ (by size_fits))); simp only [raiseNew]; refine wpAny_bind (wpAny_handled ?_)
    rw [show A.in1.handled = none from hh]; refine wpAny_bind (wpAny_pure (wpAny_throw ?_)); refine wpAny_bind (wpAny_isInstance (T := "StopIteration") (b := true) ⟨_, Heap.get?_push_size _ rfl, rfl⟩ isSubtype_stop ?_)
    exact wpAny_pure (hq _ (((Heap.SameBut.update ..).extBut.push _).push _))
theorem raw_walks (hh : A.handled = none) (I d : Addr) (ne : d ≠ I) (es : Array DictEntry) (ep : Nat) : Walks prog w A I [I, d] [I] es.size (fun i v => ∃ e, es[i]? = some e ∧ v = e.key) (fun i h => h.IsKeyIter I d i es.size ep ∧ RawD h d es ep) where
  sub := fun b hb => by rw [List.mem_singleton.mp hb]; simp
  frame := fun _ _ _ st hk => ⟨st.1.at fun o e => hk I (by simp) o e, st.2.at fun o e => hk d (by simp) o e⟩
  item := fun i s Q E hi st hq => by
    refine (raw_next st.1 st.2).1 es[i] (by simp [hi]) fun h' k1 k2 => ?_
    exact hq _ h' s.toks ⟨es[i], by simp [hi], rfl⟩ ⟨k1, st.2.at fun o e => k2.extBut d o ne e⟩ fun b o hb e => k2.extBut b o (fun z => hb (by simp [z])) e
  done := fun s Q E st hq => (raw_next st.1 st.2).2 hh (by simp) fun h' k => hq h' s.toks fun b o hb e => k b o (fun z => hb (by simp [z])) e
  self := fun _ _ _ _ st hq => wpAny_pyIter_keyiter st.1 hq
theorem raw_src (lo : (d == sysModules) = false) : PySem.W.KdlSrc prog w "dict" d d es.size (fun i v => ∃ e, es[i]? = some e ∧ v = e.key) (fun h => RawD h d es ep) where
  type := fun _ m => m.ty
  there := fun _ ⟨_, e, _⟩ => ⟨Heap.lt_size e, Heap.lt_size e⟩
  keep := fun _ _ m hk => m.at fun o e => hk d (.inl rfl) o e
  notList := by decide
  notTuple := by decide
  hint := fun _ _ _ _ m q => PySem.W.kdl_hint_dict m.ty q
  iter := fun _ _ hh m => ⟨_, _, (fun _ _ q => raw_iter lo m q), raw_walks hh _ d (by obtain ⟨_, e, _⟩ := m; exact Nat.ne_of_lt (Heap.lt_size e)) es ep, ⟨⟨_, Heap.get?_push_size _ rfl, rfl, rfl⟩, m.at fun _ e => Heap.get?_push_of_some _ e⟩⟩
end
theorem refs_vals : ∀ ys : List (List Key × Addr × Value), Vals (ys.map (V.ref ∘ fun y => y.2.1)) (ys.map fun y => Value.ref y.2.1)
  | [] => .nil
  | _ :: ys => .cons rfl (refs_vals ys)
theorem kt_refs {H : Hp} {kvs : List (List Key × V)} {ys : List (List Key × Addr × Value)} (r : KT H kvs ys) : Paired (fun (p : List Key × V) b => H b = some (.tup (p.1.map kV))) kvs (ys.map fun y => y.2.1) := by
  induction r with
  | nil => exact .nil
  | cons h t ih => exact .cons h.2.1 ih
def rListD : List V → Hp → VK → Prop := fun xs H Q => ∃ a kvs, xs = [.ref a] ∧ H a = some (.dT kvs) ∧ ∀ (l : Addr) (bs : List Addr), H l = none → Paired (fun (p : List Key × V) b => H b = some (.tup (p.1.map kV))) kvs bs → Q (.ref l) (upd H l (.lst (bs.map V.ref)))
theorem call_listD {X : Cx} (hc : X.calm = true) : CallR X (.type "list") rListD := by
  intro pins s σ H xs us Q I r h
  obtain ⟨a, kvs, rfl, ha, q⟩ := h
  obtain ⟨u, rfl, ru⟩ := vals1 r
  cases ru
  obtain ⟨z, lo, ys, kt, o, es, ep, ho, ex, dt, he, _, _⟩ := dt_of I.hok ha
  have sz : es.size = kvs.length := by rw [← Array.length_toList, he, List.length_map]; exact (Paired.length kt).symm
  refine PySem.W.kdl_call (raw_src (es := es) (ep := ep) lo) (I.ok.hd hc) ⟨o, ho, ex, dt⟩ (by rw [sz]; exact z) fun h' tk acc c kp hl hit => ?_
  have acc_eq : acc.toList = ys.map fun y => Value.ref y.2.1 := by
    refine List.ext_getElem? fun j => ?_
    by_cases lt : j < es.size
    · have hj : j < acc.toList.length := by rw [Array.length_toList]; rw [hit.1]; exact lt
      have e1 : acc.toList[j]? = some acc.toList[j] := List.getElem?_eq_getElem hj
      obtain ⟨e, ee, ev⟩ := hit.2 j acc.toList[j] (by rw [← Array.getElem?_toList]; exact e1)
      rw [e1, ev]
      rw [← Array.getElem?_toList, he, List.getElem?_map] at ee
      obtain ⟨y, hy1, hy2⟩ := Option.map_eq_some_iff.mp ee
      rw [List.getElem?_map, hy1, ← hy2]
      rfl
    · rw [List.getElem?_eq_none (by rw [Array.length_toList, hit.1]; omega), List.getElem?_eq_none]
      rw [List.length_map]
      have := Paired.length kt
      omega
  have vals : Vals ((ys.map fun y => y.2.1).map V.ref) acc.toList := by
    rw [acc_eq, List.map_map]
    exact refs_vals ys
  have prd : Paired (fun (p : List Key × V) b => H b = some (.tup (p.1.map kV))) kvs (ys.map fun y => y.2.1) := by
    exact kt_refs kt
  refine ⟨.ref s.heap.objs.size, _, I.laid (t' := tk) kp (Nat.le_refl _) (show ObjOk X.prog X.w _ h' _ (.lst ((ys.map fun y => y.2.1).map V.ref)) from ⟨?_, acc.toList, c, vals, by rw [Array.toArray_toList]; exact hl⟩), rfl, q _ _ (I.hok.fresh (Nat.le_refl _)) prd⟩
  rw [List.length_map, List.length_map, ← Paired.length kt]
  exact z
end L2
namespace L2
open PySem PySem.Spec PyProof.Rows
section
variable {X : Cx} {pins : List (Addr × Obj)} {σ : St} {H : Hp} {s : Shared} {h' : Heap}
theorem Inv.turnedL {t' : Nat} {fp : List Addr} (I : Inv X pins σ H s) (k : ∀ b o, b ∉ fp → s.heap.get? b = some o → h'.get? b = some o) (hf : ∀ b ∈ fp, FpOk X pins H b) : Inv X pins σ H { s with heap := h', toks := t' } := by
  have nit : ∀ b u, H b = some u → b ∉ fp := fun b u e z => by
    have q := (hf b z).1
    rw [q] at e
    cases e
  refine I.step (g' := s.gens) (d' := s.drawn) (ch := fp) (fun b hb => ⟨(hf b hb).2.2.2.1, (hf b hb).2.1, (hf b hb).2.2.2.2.1, (hf b hb).2.2.2.2.2⟩) (fun b o _ _ hc e _ => k b o hc e) (fun b o _ _ hc e _ => ⟨o.slots, k b o hc e⟩) (fun _ _ _ _ n => n)
    (fun b o hc e => ⟨o, k b o hc e⟩) (fun _ _ e => e) (fun _ _ _ e => e) (fun b ps e => ⟨#[], by rw [e, Array.append_empty]⟩) (fun m hm => ?_) (fun b u e => ?_) I.bare
  · obtain ⟨o, es, ep, ho, r⟩ := hm
    exact ⟨o, es, ep, k _ o (fun z => (hf _ z).2.1 rfl) ho, r⟩
  · refine (I.hok b u e).stay (fun c v hc q => k c v ?_ q) (fun _ q => q) fun _ _ q => q
    rcases hc with z | z
    · rw [z]; exact nit b u e
    · exact nit c _ z
end
structure Drw (prog : Program) (w : World) (it l : Addr) (xs : Array Value) (St : Nat → Heap → Prop) : Prop where
  keep : ∀ k h h', St k h → (∀ b, b = it ∨ b = l → ∀ o, h.get? b = some o → h'.get? b = some o) → St k h'
  there : ∀ k h, St k h → it < h.objs.size ∧ ∃ o, h.get? it = some o ∧ ∀ v, o.data ≠ .cell v
  item : ∀ (A : Around) (E : Value → Shared → Prop) (s : Shared) (k : Nat) (x : Value) (Q : Value → Shared → Prop), St k s.heap → xs[k]? = some x → (∀ h', St (k + 1) h' → Heap.SameBut it s.heap h' → Q x { s with heap := h' }) → wpAny (model prog w) A (Builtin.SmallTypes.nextOf (.ref it)) Q E s
  fin : ∀ (A : Around) (E : Value → Shared → Prop) (s : Shared) (k : Nat) (Q : Value → Shared → Prop), A.handled = none → St k s.heap → xs[k]? = none →
    (∀ h' e, Heap.ExtBut it s.heap h' → (∃ o, h'.get? e = some o ∧ o.cls = .type "StopIteration") → E (.ref e) { s with heap := h' }) → wpAny (model prog w) A (Builtin.SmallTypes.nextOf (.ref it)) Q E s
section
variable {prog : Program} {w : World} {A : Around} {E : Value → Shared → Prop} {s : Shared}
theorem drw_list (it l : Addr) (ne : l ≠ it) (xs : Array Value) : Drw prog w it l xs (fun k h => h.IsListIter it l k ∧ h.IsList l xs) where
  keep := fun k h h' st hk => ⟨st.1.at fun o e => hk it (.inl rfl) o e, st.2.at fun o e => hk l (.inr rfl) o e⟩
  there := fun k h ⟨⟨o, e, _, d⟩, _⟩ => ⟨Heap.lt_size e, o, e, fun v z => by rw [d] at z; cases z⟩
  item := fun A E s k x Q st hx q => wpAny_nextOf_list_item st.1 st.2 hx fun h' a b => q h' ⟨a, st.2.at fun o e => b.extBut l o ne e⟩ b
  fin := fun A E s k Q hh st hx q => wpAny_nextOf_list_end hh st.1 st.2 hx q
theorem drw_tup (it l : Addr) (ne : l ≠ it) (xs : Array Value) : Drw prog w it l xs (fun k h => h.IsTupleIter it l k ∧ h.IsTuple l xs) where
  keep := fun k h h' st hk => ⟨st.1.at fun o e => hk it (.inl rfl) o e, by obtain ⟨o, e, r⟩ := st.2; exact ⟨o, hk l (.inr rfl) o e, r⟩⟩
  there := fun k h ⟨⟨o, e, _, d⟩, _⟩ => ⟨Heap.lt_size e, o, e, fun v z => by rw [d] at z; cases z⟩
  item := fun A E s k x Q st hx q => by
    obtain ⟨o, ho, oc, od⟩ := id st.1
    obtain ⟨ol, hl, _, nl, dl⟩ := id st.2
    unfold Builtin.SmallTypes.nextOf
    refine wpAny_bind (wpAny_callSpecial?_slot (name := Str.ofString "__next__") st.1.typeIs F.slot_tuple_iterator_next (wpAny_call_entry F.slot_tuple_iterator_next st.1.typeIs F.entry_tuple_iterator_next ?_ (F.args_tuple_iterator_next_1 _)))
    show wpAny _ _ (field (.ref it) 0 >>= _) _ _ s; refine wpAny_bind (wpAny_field ho od (x := .ref l) rfl ?_); show wpAny _ _ (if (Value.ref l == Value.none) = true then _ else _) _ _ s
    rw [if_neg (show ¬ ((Value.ref l == Value.none) = true) from Bool.false_ne_true)]; show wpAny _ _ (field (.ref it) 1 >>= _) _ _ s; refine wpAny_bind (wpAny_field ho od (x := .int k 0) rfl ?_)
    show wpAny _ _ (seqItems? (.ref l) >>= _) _ _ s; refine wpAny_bind (wpAny_seqItems hl dl ?_); simp only [Int.toNat_natCast, hx]
    have k2 : (s.heap.update it (Obj.mapFields (·.setIfInBounds 1 (rawInt ((k : Int) + 1))))).IsTupleIter it l (k + 1) := ⟨_, Heap.get?_update_self _ ho (Obj.isFreed_of_fields (Obj.data_mapFields od _)), (Obj.cls_mapFields ..).trans oc, by rw [Obj.data_mapFields od]; simp [rawInt]⟩
    exact wpAny_bind (wpAny_setField ho od (by simp) (wpAny_pure ⟨x, rfl, wpAny_pure (q _ ⟨k2, ⟨ol, (Heap.SameBut.update ..).extBut l ol ne hl, by assumption, nl, dl⟩⟩ (Heap.SameBut.update ..))⟩))
  fin := fun A E s k Q hh st hx q => by
    obtain ⟨o, ho, oc, od⟩ := id st.1
    obtain ⟨ol, hl, _, nl, dl⟩ := id st.2
    unfold Builtin.SmallTypes.nextOf
    refine wpAny_bind (wpAny_callSpecial?_slot (name := Str.ofString "__next__") st.1.typeIs F.slot_tuple_iterator_next (wpAny_call_entry F.slot_tuple_iterator_next st.1.typeIs F.entry_tuple_iterator_next ?_ (F.args_tuple_iterator_next_1 _)))
    show wpAny _ _ (field (.ref it) 0 >>= _) _ _ s; refine wpAny_bind (wpAny_field ho od (x := .ref l) rfl ?_); show wpAny _ _ (if (Value.ref l == Value.none) = true then _ else _) _ _ s
    rw [if_neg (show ¬ ((Value.ref l == Value.none) = true) from Bool.false_ne_true)]; show wpAny _ _ (field (.ref it) 1 >>= _) _ _ s; refine wpAny_bind (wpAny_field ho od (x := .int k 0) rfl ?_)
    show wpAny _ _ (seqItems? (.ref l) >>= _) _ _ s; refine wpAny_bind (wpAny_seqItems hl dl ?_); simp only [Int.toNat_natCast, hx]
    refine wpAny_bind (wpAny_rule (wpAny_bind (wpAny_setField ho od (by simp) ?_))); show wpAny _ _ (newExc (.type "StopIteration") [] >>= _) _ _ _; refine wpAny_bind ?_; simp only [newExc, newTuple]
    refine wpAny_bind (wpAny_newObj_type ?_ (by size_fits)); refine wpAny_bind (m := firstArgMember _ _) (wpAny_of_eq (a := Value.none) (by simp only [firstArgMember]; rfl) ?_); refine wpAny_newObj_type ?_ (by size_fits); simp only [raiseNew]
    refine wpAny_bind (wpAny_handled ?_); rw [show A.in1.handled = none from hh]
    exact wpAny_bind (wpAny_pure (wpAny_throw (q _ _ (((Heap.SameBut.update ..).extBut.push _).push _) ⟨_, Heap.get?_push_size _ rfl, rfl⟩)))
end
end L2
namespace L2
open PySem PySem.Spec PyProof.Rows
structure ZAp (z TI TO i1 i2 l1 l2 : Addr) : Prop where
  a : i1 < i2
  b : i2 < TI
  c : TI < TO
  d : TO < z
  e : l1 < i1
  f : l2 < i1
theorem zap_nat {z TI TO i1 i2 l1 l2 : Nat} (a : i1 < i2) (b : i2 < TI) (c : TI < TO) (d : TO < z) (e : l1 < i1) (f : l2 < i1) :
    i1 ≠ z ∧ i2 ≠ z ∧ TO ≠ i1 ∧ TO ≠ i2 ∧ TO ≠ z ∧ TI ≠ z ∧ TI ≠ TO ∧ TI ≠ i1 ∧ TI ≠ i2 ∧ i1 ≠ i2 ∧ l1 ≠ z ∧ l1 ≠ TO ∧ l1 ≠ i2 ∧ l2 ≠ z ∧ l2 ≠ TO ∧ l2 ≠ i1 := by
  have iT := Nat.lt_trans b c; have iz := Nat.lt_trans iT d; have jI := Nat.lt_trans a b; have jT := Nat.lt_trans a iT; have jz := Nat.lt_trans a iz; have tz := Nat.lt_trans c d
  exact ⟨Nat.ne_of_lt jz, Nat.ne_of_lt iz, Nat.ne_of_gt jT, Nat.ne_of_gt iT, Nat.ne_of_lt d, Nat.ne_of_lt tz, Nat.ne_of_lt c, Nat.ne_of_gt jI, Nat.ne_of_gt b, Nat.ne_of_lt a, Nat.ne_of_lt (Nat.lt_trans e jz), Nat.ne_of_lt (Nat.lt_trans e jT), Nat.ne_of_lt (Nat.lt_trans e a), Nat.ne_of_lt (Nat.lt_trans f jz), Nat.ne_of_lt (Nat.lt_trans f jT), Nat.ne_of_lt f⟩
section
variable {prog : Program} {w : World} {A : Around} {E : Value → Shared → Prop} {s : Shared} {z TI TO i1 i2 l1 l2 : Addr} {xs ys : Array Value} {S1 S2 : Nat → Heap → Prop} {k : Nat}
structure ZAt (z TI TO i1 i2 : Addr) (S1 S2 : Nat → Heap → Prop) (k : Nat) (h : Heap) : Prop where
  z : IsZip h z TI TO .none
  i : IsPair h TI (.ref i1) (.ref i2)
  o : ∃ a b, IsPair h TO a b
  s1 : S1 k h
  s2 : S2 k h
theorem up_pair {T : Addr} {a b x : Value} {j : Nat} {Q : Unit → Shared → Prop} (hT : IsPair s.heap T a b) (q : ∀ h', h'.get? T = some { cls := .type "tuple", data := .seq ((#[a, b] : Array Value).setIfInBounds j x) } → Heap.SameBut T s.heap h' → Q () { s with heap := h' }) :
    wpAny (model prog w) A (updateSeq T (·.setIfInBounds j x)) Q E s := wpAny_updateSeq_pair hT q
theorem z_next (D : ZAp z TI TO i1 i2 l1 l2) (W1 : Drw prog w i1 l1 xs S1) (W2 : Drw prog w i2 l2 ys S2) (st : ZAt z TI TO i1 i2 S1 S2 k s.heap) {Q : Option Value → Shared → Prop} :
    (∀ x y, xs[k]? = some x → ys[k]? = some y → (∀ h', IsZip h' z TI TO (rawInt s.heap.objs.size) → IsPair h' TI (.ref i1) (.ref i2) → (∃ a b, IsPair h' TO a b) → S1 (k + 1) h' → S2 (k + 1) h' → IsPair h' s.heap.objs.size x y →
      (∀ c o, c ∉ [z, TI, TO, i1, i2] → s.heap.get? c = some o → h'.get? c = some o) → Q (some (.ref s.heap.objs.size)) { s with heap := h' }) → wpAny (model prog w) A (pyNext (.ref z)) Q E s) ∧
    (A.handled = none → (xs[k]? = none ∨ ys[k]? = none) → (∀ h', (∀ c o, c ∉ [z, TI, TO, i1, i2] → s.heap.get? c = some o → h'.get? c = some o) → Q none { s with heap := h' }) → wpAny (model prog w) A (pyNext (.ref z)) Q E s) := by
  obtain ⟨d1, d2, d3, d4, d5, d6⟩ := D
  obtain ⟨hz, hI, ⟨a, b, hO⟩, t1, t2⟩ := st
  have ty : s.TypeIs (.ref z) "zip" := ⟨_, hz, rfl⟩
  obtain ⟨n1, n2, nO1, nO2, nOz, nIz, nIO, nI1, nI2, n12, q1, q2, q3, q4, q5, q6⟩ := zap_nat d1 d2 d3 d4 d5 d6
  have m1 : ∀ {c h h' : _}, c ∈ [z, TO, i2] → Heap.ExtBut c h h' → ∀ k, S1 k h → S1 k h' := fun {c h h'} hc x k t => W1.keep k h h' t fun b hb o e => x b o (by
    rcases hb with rfl | rfl <;> (simp only [List.mem_cons, List.not_mem_nil, or_false] at hc; rcases hc with rfl | rfl | rfl <;> first | assumption | (apply Ne.symm; assumption))) e
  have m2 : ∀ {c h h' : _}, c ∈ [z, TO, i1] → Heap.ExtBut c h h' → ∀ k, S2 k h → S2 k h' := fun {c h h'} hc x k t => W2.keep k h h' t fun b hb o e => x b o (by
    rcases hb with rfl | rfl <;> (simp only [List.mem_cons, List.not_mem_nil, or_false] at hc; rcases hc with rfl | rfl | rfl <;> first | assumption | (apply Ne.symm; assumption))) e
  constructor
  · intro x y hx hy q
    unfold pyNext; refine wpAny_bind (wpAny_attempt (wpAny_callSpecial?_slot (name := Str.ofString "__next__") ty F.slot_zip_next (wpAny_call_entry F.slot_zip_next ty F.entry_zip_next ?_ (F.args_zip_next_1 _))))
    show wpAny _ _ (field (.ref z) 2 >>= _) _ _ _; refine wpAny_bind (wpAny_field hz rfl (x := .bool false) rfl ?_); show wpAny _ _ (field (.ref z) 3 >>= _) _ _ _; refine wpAny_bind (wpAny_field hz rfl (x := .ref TI) rfl (wpAny_bind (wpAny_seqItems hI rfl ?_)))
    show wpAny _ _ (Builtin.SmallTypes.ownedTupleIsFree (.ref z) >>= _) _ _ _; refine wpAny_bind ?_; unfold Builtin.SmallTypes.ownedTupleIsFree; refine wpAny_bind (wpAny_field hz rfl (x := .none) rfl (wpAny_pure ?_)); simp only [if_true]
    refine wpAny_bind (wpAny_rule (wpAny_bind (wpAny_field hz rfl (x := .ref TO) rfl (wpAny_bind (wpAny_setField_rec hz (by simp) fun h1 hz1 hs1 => ?_))))); replace hz1 : IsZip h1 z TI TO .ellipsis := hz1
    refine wpAny_bind ?_; simp only [List.zipIdx_cons, List.zipIdx_nil, List.forIn_cons, List.forIn_nil]; refine wpAny_bind (wpAny_bind (wpAny_onRaise ?_)); show wpAny _ _ (Builtin.SmallTypes.nextOf (.ref i1) >>= _) _ _ _
    refine wpAny_bind (W1.item _ _ _ k x _ (m1 (by simp) hs1.extBut k t1) hx fun h2 t12 hs2 => wpAny_pure ?_)
    have hO2 : IsPair h2 TO a b := hs2.extBut _ _ nO1 (hs1.extBut _ _ nOz hO)
    refine wpAny_bind (wpAny_seqItems hO2 rfl (wpAny_bind (up_pair hO2 fun h3 hO3 hs3 => ?_))); replace hO3 : IsPair h3 TO x b := hO3; refine wpAny_bind (wpAny_letGo (wpAny_pure (wpAny_bind (wpAny_bind (wpAny_onRaise ?_)))))
    show wpAny _ _ (Builtin.SmallTypes.nextOf (.ref i2) >>= _) _ _ _
    refine wpAny_bind (W2.item _ _ _ k y _ (m2 (by simp) hs3.extBut k (m2 (by simp) hs2.extBut k (m2 (by simp) hs1.extBut k t2))) hy fun h4 t24 hs4 => wpAny_pure ?_)
    have hO4 : IsPair h4 TO x b := hs4.extBut _ _ nO2 hO3
    refine wpAny_bind (wpAny_seqItems hO4 rfl (wpAny_bind (up_pair hO4 fun h5 hO5 hs5 => ?_))); replace hO5 : IsPair h5 TO x y := hO5; refine wpAny_bind (wpAny_letGo (wpAny_pure (wpAny_pure (wpAny_bind (wpAny_seqItems hO5 rfl (wpAny_bind (wpAny_newTuple ?_)))))))
    have sz : h5.objs.size = s.heap.objs.size := by rw [hs5.1, hs4.1, hs3.1, hs2.1, hs1.1]
    have hz5 : IsZip h5 z TI TO .ellipsis := hs5.extBut _ _ nOz.symm (hs4.extBut _ _ n2.symm (hs3.extBut _ _ nOz.symm (hs2.extBut _ _ n1.symm hz1)))
    have all5 : ∀ c o, c ∉ [z, TI, TO, i1, i2] → s.heap.get? c = some o → h5.get? c = some o := fun c o hc e => by
      simp only [List.mem_cons, List.not_mem_nil, or_false, not_or] at hc
      exact hs5.extBut _ _ hc.2.2.1 (hs4.extBut _ _ hc.2.2.2.2 (hs3.extBut _ _ hc.2.2.1 (hs2.extBut _ _ hc.2.2.2.1 (hs1.extBut _ _ hc.1 e))))
    have hI5 : IsPair h5 TI (.ref i1) (.ref i2) := hs5.extBut _ _ nIO (hs4.extBut _ _ nI2 (hs3.extBut _ _ nIO (hs2.extBut _ _ nI1 (hs1.extBut _ _ nIz hI))))
    have zlt : z < h5.objs.size := Heap.lt_size hz5
    show wpAny _ _ (Builtin.SmallTypes.ownedTupleHandOut (.ref z) (.ref h5.objs.size) >>= _) _ _ _; refine wpAny_bind ?_; unfold Builtin.SmallTypes.ownedTupleHandOut
    have hz6 : IsZip (h5.push { cls := .type "tuple", data := .seq #[x, y] }) z TI TO .ellipsis := Heap.get?_push_of_some _ hz5
    refine wpAny_bind (wpAny_setField_rec hz6 (by simp) fun h7 hz7 hs7 => ?_); replace hz7 : IsZip h7 z TI TO (rawInt h5.objs.size) := hz7; refine wpAny_setField_rec hz7 (by simp) fun h8 hz8 hs8 => ?_; replace hz8 : IsZip h8 z TI TO (rawInt h5.objs.size) := hz8
    have up : ∀ c o, c ≠ z → h5.get? c = some o → h8.get? c = some o := fun c o c1 e => hs8.extBut _ _ c1 (hs7.extBut _ _ c1 (Heap.get?_push_of_some _ e))
    have hT : IsPair h8 h5.objs.size x y := hs8.extBut _ _ (Nat.ne_of_gt zlt) (hs7.extBut _ _ (Nat.ne_of_gt zlt) (Heap.get?_push_size _ rfl))
    have t1' : S1 (k + 1) h8 := W1.keep _ _ _ (m1 (by simp) hs5.extBut _ (m1 (by simp) hs4.extBut _ (m1 (by simp) hs3.extBut _ t12))) fun c hc o e => up c o (by rcases hc with rfl | rfl <;> first | assumption | (apply Ne.symm; assumption)) e
    have t2' : S2 (k + 1) h8 := W2.keep _ _ _ (m2 (by simp) hs5.extBut _ t24) fun c hc o e => up c o (by rcases hc with rfl | rfl <;> first | assumption | (apply Ne.symm; assumption)) e
    rw [sz] at hz8 hT
    refine wpAny_pure ⟨_, rfl, ?_⟩; show wpAny _ _ (pure (some (Value.ref h5.objs.size))) _ _ _; rw [sz]
    exact wpAny_pure (q h8 hz8 (up _ _ nIz hI5) ⟨_, _, up _ _ nOz hO5⟩ t1' t2' hT fun c o hc e => up c o (fun x => hc (by simp [x])) (all5 c o hc e))
  · intro hh hend q
    have stop : ∀ (h9 : Heap) (e : Addr), (∀ c o, c ∉ [z, TI, TO, i1, i2] → s.heap.get? c = some o → h9.get? c = some o) → (∃ o, h9.get? e = some o ∧ o.cls = .type "StopIteration") →
        wpAny (model prog w) A (isInstance (.ref e) (.type "StopIteration") >>= fun b => if b = true then pure none else throw (.ref e)) Q E { s with heap := h9 } := fun h9 e kp ⟨o, ho, oc⟩ =>
      wpAny_bind (wpAny_isInstance (T := "StopIteration") (b := true) ⟨o, ho, oc⟩ isSubtype_stop (wpAny_pure (q _ kp)))
    unfold pyNext; refine wpAny_bind (wpAny_attempt (wpAny_callSpecial?_slot (name := Str.ofString "__next__") ty F.slot_zip_next (wpAny_call_entry F.slot_zip_next ty F.entry_zip_next ?_ (F.args_zip_next_1 _))))
    show wpAny _ _ (field (.ref z) 2 >>= _) _ _ _; refine wpAny_bind (wpAny_field hz rfl (x := .bool false) rfl ?_); show wpAny _ _ (field (.ref z) 3 >>= _) _ _ _; refine wpAny_bind (wpAny_field hz rfl (x := .ref TI) rfl (wpAny_bind (wpAny_seqItems hI rfl ?_)))
    show wpAny _ _ (Builtin.SmallTypes.ownedTupleIsFree (.ref z) >>= _) _ _ _; refine wpAny_bind ?_; unfold Builtin.SmallTypes.ownedTupleIsFree; refine wpAny_bind (wpAny_field hz rfl (x := .none) rfl (wpAny_pure ?_)); simp only [if_true]
    refine wpAny_bind (wpAny_rule (wpAny_bind (wpAny_field hz rfl (x := .ref TO) rfl (wpAny_bind (wpAny_setField_rec hz (by simp) fun h1 hz1 hs1 => ?_))))); replace hz1 : IsZip h1 z TI TO .ellipsis := hz1
    refine wpAny_bind ?_; simp only [List.zipIdx_cons, List.zipIdx_nil, List.forIn_cons, List.forIn_nil]; refine wpAny_bind (wpAny_bind (wpAny_onRaise ?_)); show wpAny _ _ (Builtin.SmallTypes.nextOf (.ref i1) >>= _) _ _ _
    cases hx : xs[k]? with
    | none =>
      refine wpAny_bind (W1.fin _ _ _ k _ hh (m1 (by simp) hs1.extBut k t1) hx fun h2 e hs2 ⟨oe, hoe, hce⟩ => ?_)
      have hz2 : IsZip h2 z TI TO .ellipsis := hs2 _ _ n1.symm hz1
      have ez : e ≠ z := fun x => by subst x; rw [hz2] at hoe; cases hoe; simp at hce
      refine wpAny_setField_rec hz2 (by simp) fun h3 _ hs3 => stop h3 e (fun c o hc u => ?_) ⟨oe, hs3.extBut _ _ ez hoe, hce⟩
      simp only [List.mem_cons, List.not_mem_nil, or_false, not_or] at hc
      exact hs3.extBut _ _ hc.1 (hs2 _ _ hc.2.2.2.1 (hs1.extBut _ _ hc.1 u))
    | some x =>
      have hy : ys[k]? = none := by rcases hend with u | u; rw [hx] at u; cases u; exact u
      refine wpAny_bind (W1.item _ _ _ k x _ (m1 (by simp) hs1.extBut k t1) hx fun h2 t12 hs2 => wpAny_pure ?_)
      have hO2 : IsPair h2 TO a b := hs2.extBut _ _ nO1 (hs1.extBut _ _ nOz hO)
      refine wpAny_bind (wpAny_seqItems hO2 rfl (wpAny_bind (up_pair hO2 fun h3 hO3 hs3 => ?_))); refine wpAny_bind (wpAny_letGo (wpAny_pure (wpAny_bind (wpAny_bind (wpAny_onRaise ?_))))); show wpAny _ _ (Builtin.SmallTypes.nextOf (.ref i2) >>= _) _ _ _
      refine wpAny_bind (W2.fin _ _ _ k _ hh (m2 (by simp) hs3.extBut k (m2 (by simp) hs2.extBut k (m2 (by simp) hs1.extBut k t2))) hy fun h4 e hs4 ⟨oe, hoe, hce⟩ => ?_)
      have hz4 : IsZip h4 z TI TO .ellipsis := hs4 _ _ n2.symm (hs3.extBut _ _ nOz.symm (hs2.extBut _ _ n1.symm hz1))
      have ez : e ≠ z := fun x => by subst x; rw [hz4] at hoe; cases hoe; simp at hce
      refine wpAny_setField_rec hz4 (by simp) fun h5 _ hs5 => stop h5 e (fun c o hc u => ?_) ⟨oe, hs5.extBut _ _ ez hoe, hce⟩
      simp only [List.mem_cons, List.not_mem_nil, or_false, not_or] at hc
      exact hs5.extBut _ _ hc.1 (hs4 _ _ hc.2.2.2.2 (hs3.extBut _ _ hc.2.2.1 (hs2.extBut _ _ hc.2.2.2.1 (hs1.extBut _ _ hc.1 u))))
end
end L2
namespace L2
open PySem PySem.Spec PyProof.Rows
inductive Kn | L | T
def Kn.sq (k : Kn) (K : PySem.W.Frag) (H : Hp) (a : Addr) (xs : List V) : Prop := match k with
  | .L => SqL K H a xs
  | .T => SqT K H a xs
def Kn.it (k : Kn) (h : Heap) (i l : Addr) (j : Nat) : Prop := match k with
  | .L => h.IsListIter i l j
  | .T => h.IsTupleIter i l j
def Kn.seq (k : Kn) (h : Heap) (l : Addr) (xs : Array Value) : Prop := match k with
  | .L => h.IsList l xs
  | .T => h.IsTuple l xs
def Kn.obj (k : Kn) (l : Addr) : Obj := match k with
  | .L => { cls := .type "list_iterator", data := .fields #[.ref l, .int 0 0] }
  | .T => { cls := .type "tuple_iterator", data := .fields #[.ref l, .int 0 0] }
section
variable {prog : Program} {w : World} {A : Around} {E : Value → Shared → Prop} {s : Shared}
theorem Kn.drw (k : Kn) (it l : Addr) (ne : l ≠ it) (xs : Array Value) : Drw prog w it l xs (fun j h => k.it h it l j ∧ k.seq h l xs) := by
  cases k
  · exact drw_list it l ne xs
  · exact drw_tup it l ne xs
theorem Kn.itAt (k : Kn) {h h' : Heap} {it l : Addr} {j : Nat} (t : k.it h it l j) (e : ∀ o, h.get? it = some o → h'.get? it = some o) : k.it h' it l j := by
  cases k
  · exact Heap.IsListIter.at t e
  · exact Heap.IsTupleIter.at t e
theorem Kn.itObj (k : Kn) {h : Heap} {it l : Addr} {j : Nat} (t : k.it h it l j) : ∃ o, h.get? it = some o ∧ ∀ v, o.data ≠ .cell v := by
  cases k <;> (obtain ⟨o, e, _, d⟩ := t; exact ⟨o, e, fun v z => by rw [d] at z; cases z⟩)
theorem Kn.seqAt (k : Kn) {h h' : Heap} {l : Addr} {xs : Array Value} (t : k.seq h l xs) (e : ∀ o, h.get? l = some o → h'.get? l = some o) : k.seq h' l xs := by
  cases k
  · exact Heap.IsList.at t e
  · obtain ⟨o, a, b⟩ := t
    exact ⟨o, e o a, b⟩
theorem Kn.lt (k : Kn) {h : Heap} {l : Addr} {xs : Array Value} (t : k.seq h l xs) : l < h.objs.size := by
  cases k <;> (obtain ⟨o, a, _⟩ := t; exact Heap.lt_size a)
theorem Kn.inv {X : Cx} {pins : List (Addr × Obj)} {σ : St} {H : Hp} {s : Shared} (k : Kn) (I : Inv X pins σ H s) {a : Addr} {xs : List V} (q : k.sq X.K H a xs) : ∃ its : List Value, Vals xs its ∧ k.seq s.heap a its.toArray := by
  cases k
  · obtain ⟨its, r, p, _⟩ := I.list q
    exact ⟨its, r, p.isList⟩
  · obtain ⟨its, r, p, _⟩ := I.tuple q
    exact ⟨its, r, p⟩
theorem Kn.inj {X : Cx} {pins : List (Addr × Obj)} {σ : St} {H : Hp} {s : Shared} (k : Kn) (I : Inv X pins σ H s) {a : Addr} {xs ys : List V} (q : k.sq X.K H a xs) (r : k.sq X.K H a ys) : xs = ys := by
  cases k
  · exact I.list_inj q r
  · exact I.tuple_inj q r
theorem Kn.iter (k : Kn) {l : Addr} {xs : Array Value} {Q : Value → Shared → Prop} (t : k.seq s.heap l xs) (q : Q (.ref s.heap.objs.size) { s with heap := s.heap.push (k.obj l) }) : wpAny (model prog w) A (pyIter (.ref l)) Q E s := by
  cases k
  · exact wpAny_pyIter_list t q
  · exact wpAny_pyIter_tuple t q
theorem Kn.it0 (k : Kn) (h : Heap) (l : Addr) : k.it (h.push (k.obj l)) h.objs.size l 0 := by
  cases k <;> exact ⟨_, Heap.get?_push_size _ rfl, rfl, rfl⟩
def zh (h : Heap) (k1 k2 : Kn) (l1 l2 : Addr) : Heap := (((((h.push (k1.obj l1)).push (k2.obj l2)).push { cls := .type "tuple", data := .seq #[.ref h.objs.size, .ref (h.push (k1.obj l1)).objs.size] }).push { cls := .type "tuple", data := .seq #[.none, .none] }).push
  { cls := .type "zip", data := .fields #[.none, .bool false, .bool false, .ref ((h.push (k1.obj l1)).push (k2.obj l2)).objs.size, .ref (((h.push (k1.obj l1)).push (k2.obj l2)).push { cls := .type "tuple", data := .seq #[.ref h.objs.size, .ref (h.push (k1.obj l1)).objs.size] }).objs.size] })
theorem z_meets (k1 k2 : Kn) (l1 l2 : Addr) (xs ys : Array Value) : Meets (Builtin.«zip.__new__» ⟨[.type "zip", .ref l1, .ref l2], []⟩) (fun _ R s => k1.seq s.heap l1 xs ∧ k2.seq s.heap l2 ys ∧
    R (.ok (.ret (.ref ((((s.heap.push (k1.obj l1)).push (k2.obj l2)).push { cls := .type "tuple", data := .seq #[.ref s.heap.objs.size, .ref (s.heap.push (k1.obj l1)).objs.size] }).push { cls := .type "tuple", data := .seq #[.none, .none] }).objs.size))) { s with heap := zh s.heap k1 k2 l1 l2 }) :=
  .of_wp fun prog w A R s h => by
    obtain ⟨hp, g, d, tk, os⟩ := s
    obtain ⟨a1, a2, h⟩ := h
    have hsub := sub_zip
    have b2 : k2.seq (hp.push (k1.obj l1)) l2 ys := k2.seqAt a2 fun o e => Heap.get?_push_of_some _ e
    cases k1 with
    | L =>
      have c1 : Heap.IsList (Shared.heap ⟨hp, g, d, tk, os⟩) l1 xs := a1
      cases k2 with
      | L =>
        have c2 : Heap.IsList (Shared.heap ⟨hp.push { cls := .type "list_iterator", data := .fields #[.ref l1, .int 0 0] }, g, d, tk, os⟩) l2 ys := b2
        wp_walk using wpAny_pyIter_list c1, wpAny_pyIter_list c2
        exact ⟨_, rfl, h⟩
      | T =>
        have c2 : Heap.IsTuple (Shared.heap ⟨hp.push { cls := .type "list_iterator", data := .fields #[.ref l1, .int 0 0] }, g, d, tk, os⟩) l2 ys := b2
        wp_walk using wpAny_pyIter_list c1, wpAny_pyIter_tuple c2
        exact ⟨_, rfl, h⟩
    | T =>
      have c1 : Heap.IsTuple (Shared.heap ⟨hp, g, d, tk, os⟩) l1 xs := a1
      cases k2 with
      | L =>
        have c2 : Heap.IsList (Shared.heap ⟨hp.push { cls := .type "tuple_iterator", data := .fields #[.ref l1, .int 0 0] }, g, d, tk, os⟩) l2 ys := b2
        wp_walk using wpAny_pyIter_tuple c1, wpAny_pyIter_list c2
        exact ⟨_, rfl, h⟩
      | T =>
        have c2 : Heap.IsTuple (Shared.heap ⟨hp.push { cls := .type "tuple_iterator", data := .fields #[.ref l1, .int 0 0] }, g, d, tk, os⟩) l2 ys := b2
        wp_walk using wpAny_pyIter_tuple c1, wpAny_pyIter_tuple c2
        exact ⟨_, rfl, h⟩
theorem z_call {k1 k2 : Kn} {l1 l2 : Addr} {xs ys : Array Value} {Q : Value → Shared → Prop} (a1 : k1.seq s.heap l1 xs) (a2 : k2.seq s.heap l2 ys)
    (q : ∀ h' (z TI TO i1 i2 : Addr), ZAp z TI TO i1 i2 l1 l2 → s.heap.objs.size ≤ i1 → IsZip h' z TI TO .none → IsPair h' TI (.ref i1) (.ref i2) → (∃ a b, IsPair h' TO a b) → k1.it h' i1 l1 0 → k2.it h' i2 l2 0 → (∀ c o, s.heap.get? c = some o → h'.get? c = some o) → Q (.ref z) { s with heap := h' }) :
    wpAny (model prog w) A (call (.type "zip") [.ref l1, .ref l2]) Q E s := by
  refine callType_new F.called_zip (by decide) (F.typeCall_zip_2 _ _) (F.newCall_zip_2 _ _) (fun obj => F.args_object_init_3 obj _ _) F.entry_zip_new (z_meets k1 k2 l1 l2 xs ys) ⟨a1, a2, ?_⟩
  have lt1 := k1.lt a1
  have lt2 := k2.lt a2
  have g5 : (zh s.heap k1 k2 l1 l2).get? _ = some _ := Heap.get?_push_size ((((s.heap.push (k1.obj l1)).push (k2.obj l2)).push { cls := .type "tuple", data := .seq #[.ref s.heap.objs.size, .ref (s.heap.push (k1.obj l1)).objs.size] }).push { cls := .type "tuple", data := .seq #[.none, .none] }) (o := { cls := .type "zip", data := .fields #[.none, .bool false, .bool false, .ref ((s.heap.push (k1.obj l1)).push (k2.obj l2)).objs.size, .ref (((s.heap.push (k1.obj l1)).push (k2.obj l2)).push { cls := .type "tuple", data := .seq #[.ref s.heap.objs.size, .ref (s.heap.push (k1.obj l1)).objs.size] }).objs.size] }) rfl
  have g4 : (zh s.heap k1 k2 l1 l2).get? _ = some _ := Heap.get?_push_of_some _ (Heap.get?_push_size (((s.heap.push (k1.obj l1)).push (k2.obj l2)).push { cls := .type "tuple", data := .seq #[.ref s.heap.objs.size, .ref (s.heap.push (k1.obj l1)).objs.size] }) (o := { cls := .type "tuple", data := .seq #[.none, .none] }) rfl)
  have g3 : (zh s.heap k1 k2 l1 l2).get? _ = some _ := Heap.get?_push_of_some _ (Heap.get?_push_of_some _ (Heap.get?_push_size ((s.heap.push (k1.obj l1)).push (k2.obj l2)) (o := { cls := .type "tuple", data := .seq #[.ref s.heap.objs.size, .ref (s.heap.push (k1.obj l1)).objs.size] }) rfl))
  have g2 : k2.it (zh s.heap k1 k2 l1 l2) (s.heap.push (k1.obj l1)).objs.size l2 0 := k2.itAt (k2.it0 _ l2) fun o e => Heap.get?_push_of_some _ (Heap.get?_push_of_some _ (Heap.get?_push_of_some _ e))
  have g1 : k1.it (zh s.heap k1 k2 l1 l2) s.heap.objs.size l1 0 := k1.itAt (k1.it0 _ l1) fun o e => Heap.get?_push_of_some _ (Heap.get?_push_of_some _ (Heap.get?_push_of_some _ (Heap.get?_push_of_some _ e)))
  show _ ∧ _
  refine ⟨⟨_, g5, rfl⟩, q _ _ _ _ _ _ ⟨?_, ?_, ?_, ?_, lt1, lt2⟩ (Nat.le_refl _) g5 g3 ⟨_, _, g4⟩ g1 g2 fun c o x => Heap.get?_push_of_some _ (Heap.get?_push_of_some _ (Heap.get?_push_of_some _ (Heap.get?_push_of_some _ (Heap.get?_push_of_some _ x))))⟩ <;>
  · simp only [Heap.size_push]; exact Nat.lt_succ_self _
end
def Itz (K : PySem.W.Frag) (k1 k2 : Kn) (a b : Addr) : It :=
  ⟨fun i H => ∃ xs ys, k1.sq K H a xs ∧ k2.sq K H b ys ∧ i < xs.length ∧ i < ys.length, fun i H v H' => ∃ T x y, H T = none ∧ v = .ref T ∧ H' = upd H T (.tup [x, y]) ∧ (∀ xs, k1.sq K H a xs → xs[i]? = some x) ∧ (∀ ys, k2.sq K H b ys → ys[i]? = some y),
    fun i H => ∃ xs ys, k1.sq K H a xs ∧ k2.sq K H b ys ∧ (xs.length ≤ i ∨ ys.length ≤ i)⟩
theorem turn_zip {P : Program} {w : World} {K : PySem.W.Frag} {elts : List Expr} {x1} {pos : Pos} {k1 k2 : Kn} {a b z TI TO i1 i2 : Addr} (D : ZAp z TI TO i1 i2 a b) :
    Turn P w K (.Tuple elts x1 pos) (Itz K k1 k2 a b) [z, TI, TO, i1, i2] z (fun i h => IsZip h z TI TO .none ∧ IsPair h TI (.ref i1) (.ref i2) ∧ (∃ x y, IsPair h TO x y) ∧ k1.it h i1 a i ∧ k2.it h i2 b i) where
  mem := by simp
  obj := fun i h ⟨hz, hI, ⟨x, y, hO⟩, t1, t2⟩ c hc => by
    simp only [List.mem_cons, List.not_mem_nil, or_false] at hc
    rcases hc with rfl | rfl | rfl | rfl | rfl
    · exact ⟨_, hz, fun v q => by cases (show Data.fields _ = Data.cell v from q)⟩
    · exact ⟨_, hI, fun v q => by cases (show Data.seq _ _ = Data.cell v from q)⟩
    · exact ⟨_, hO, fun v q => by cases (show Data.seq _ _ = Data.cell v from q)⟩
    · exact k1.itObj t1
    · exact k2.itObj t2
  keep := fun i h h' ⟨hz, hI, ⟨x, y, hO⟩, t1, t2⟩ kp => ⟨kp z (by simp) _ hz, kp TI (by simp) _ hI, ⟨x, y, kp TO (by simp) _ hO⟩, k1.itAt t1 fun o e => kp i1 (by simp) o e, k2.itAt t2 fun o e => kp i2 (by simp) o e⟩
  item := by
    intro X hP hw hK hc i pins s σ H E I hf ⟨hz, hI, hO, t1, t2⟩ hg
    subst hP hw hK
    obtain ⟨xs, ys, q1, q2, l1, l2⟩ := hg
    obtain ⟨v1, r1, p1⟩ := k1.inv I q1
    obtain ⟨v2, r2, p2⟩ := k2.inv I q2
    obtain ⟨u1, e1, ru1⟩ := r1.get (List.getElem?_eq_getElem l1)
    obtain ⟨u2, e2, ru2⟩ := r2.get (List.getElem?_eq_getElem l2)
    obtain ⟨n1, n2, nO1, nO2, nOz, nIz, nIO, nI1, nI2, n12, c1, c2, c3, c4, c5, c6⟩ := zap_nat D.a D.b D.c D.d D.e D.f
    refine (z_next D (k1.drw i1 a (Nat.ne_of_lt D.e) v1.toArray) (k2.drw i2 b (Nat.ne_of_lt (Nat.lt_trans D.f D.a)) v2.toArray) ⟨hz, hI, hO, ⟨t1, p1⟩, ⟨t2, p2⟩⟩).1 u1 u2 (by simpa using e1) (by simpa using e2) fun h' hz' hI' hO' s1' s2' hT all => ⟨_, rfl, ?_⟩
    refine wpAny_letOwnedTupleGo_zip hz' fun h2 hz2 sb => ?_
    have nT : ∀ c ∈ [z, TI, TO, i1, i2], c ≠ s.heap.objs.size := fun c hc' => by
      simp only [List.mem_cons, List.not_mem_nil, or_false] at hc'
      rcases hc' with rfl | rfl | rfl | rfl | rfl
      · exact Nat.ne_of_lt (Heap.lt_size hz)
      · exact Nat.ne_of_lt (Heap.lt_size hI)
      · obtain ⟨_, _, q⟩ := hO; exact Nat.ne_of_lt (Heap.lt_size q)
      · obtain ⟨_, q, _⟩ := k1.itObj t1; exact Nat.ne_of_lt (Heap.lt_size q)
      · obtain ⟨_, q, _⟩ := k2.itObj t2; exact Nat.ne_of_lt (Heap.lt_size q)
    have hfr : H s.heap.objs.size = none := I.hok.fresh (Nat.le_refl _)
    have I1 : Inv X pins σ (upd H s.heap.objs.size (.tup [xs[i], ys[i]])) { s with heap := s.heap.push { cls := .type "tuple", data := .seq #[u1, u2] } } :=
      I.laid (t' := s.toks) (fun b u e => Heap.get?_push_of_some _ e) (Nat.le_refl _) ⟨by show 2 ≤ sizeLine; decide, [u1, u2], .cons ru1 (.cons ru2 .nil), ⟨_, Heap.get?_push_size _ rfl, rfl, _, rfl⟩⟩
    have zT : s.heap.objs.size ≠ z := (nT z (by simp)).symm
    have I2 : Inv X pins σ (upd H s.heap.objs.size (.tup [xs[i], ys[i]])) { s with heap := h2 } := Inv.turnedL (s := { s with heap := s.heap.push { cls := .type "tuple", data := .seq #[u1, u2] } }) (t' := s.toks) (fp := [z, TI, TO, i1, i2]) I1 (fun c o hc' e => by
      have hcz : c ≠ z := fun x => hc' (by simp [x])
      rcases Heap.get?_push_cases e with ⟨ec, eo⟩ | e
      · rw [ec, eo]; exact sb.extBut _ _ zT hT
      · exact sb.extBut _ _ hcz (all c o hc' e)) fun c hc' => ⟨by rw [upd_ne (nT c hc')]; exact (hf c hc').1, (hf c hc').2⟩
    refine ⟨.ref s.heap.objs.size, _, I2, rfl, ⟨s.heap.objs.size, xs[i], ys[i], hfr, rfl, rfl, fun zs hz => ?_, fun zs hz => ?_⟩, ⟨hz2, sb.extBut _ _ nIz hI', ?_, k1.itAt s1'.1 fun o e => sb.extBut _ _ n1 e, k2.itAt s2'.1 fun o e => sb.extBut _ _ n2 e⟩, fun c hc' => by rw [upd_ne (nT c hc')]; exact (hf c hc').1⟩
    · rw [k1.inj I hz q1, List.getElem?_eq_getElem l1]
    · rw [k2.inj I hz q2, List.getElem?_eq_getElem l2]
    · obtain ⟨x, y, q⟩ := hO'
      exact ⟨x, y, sb.extBut _ _ nOz q⟩
  done := by
    intro X hP hw hK hc i pins s σ H E I hf ⟨hz, hI, hO, t1, t2⟩ hg
    subst hP hw hK
    obtain ⟨xs, ys, q1, q2, le⟩ := hg
    obtain ⟨v1, r1, p1⟩ := k1.inv I q1
    obtain ⟨v2, r2, p2⟩ := k2.inv I q2
    have e1 := r1.length
    have e2 := r2.length
    refine (z_next D (k1.drw i1 a (Nat.ne_of_lt D.e) v1.toArray) (k2.drw i2 b (Nat.ne_of_lt (Nat.lt_trans D.f D.a)) v2.toArray) ⟨hz, hI, hO, ⟨t1, p1⟩, ⟨t2, p2⟩⟩).2 (I.ok.hd hc) (by
      rcases le with q | q
      · exact .inl (by simp; omega)
      · exact .inr (by simp; omega)) fun h' all => ⟨rfl, I.turnedL (t' := s.toks) (fun c o hc' e => all c o hc' e) hf⟩
  self := fun _ _ _ _ _ st q => wpAny_pyIter_zip st.1 q
section
variable {X : Cx}
def iZip (K : PySem.W.Frag) (k1 k2 : Kn) (ta : TA) : TI := fun σ H R => ta σ H fun vs H1 => ∃ a b xs ys, vs = [.ref a, .ref b] ∧ k1.sq K H1 a xs ∧ k2.sq K H1 b ys ∧ R (Itz K k1 k2 a b) H1
theorem bb_zip : bootBuiltins "zip" = some (.type "zip") := by decide +kernel
theorem pi_zip {k1 k2 : Kn} {x y : Expr} {ta : TA} {elts : List Expr} {x1} {p pos tp : Pos} (hg : Gl X "zip") (hm : X.mg "zip" = none) (ha : PA X [x, y] ta) (hs : starEach [x, y] X.env = [(false, eval x X.env), (false, eval y X.env)] := by rfl) (hs2 : starEach [y] X.env = [(false, eval y X.env)] := by rfl) :
    PI X (.Tuple elts x1 tp) (.Call (.Name "zip" p) [x, y] [] pos) (iZip X.K k1 k2 ta) := by
  intro pins s σ H R I h
  refine Call_ (ld_blt I hg hm bb_zip (PyProof.Rows.callWith_type1 (thn (ha pos pins s σ H _ I h) fun us s1 ⟨vs, H1, I1, r1, q1⟩ => ?_) (by rw [hs, hs2]) (by rw [hs2]; rfl)))
  obtain ⟨a, b, xs, ys, e, s1q, s2q, q⟩ := q1
  subst e
  obtain ⟨u1, u2, rfl, ra, rb⟩ := vals2 r1
  cases ra
  cases rb
  obtain ⟨v1, w1, p1⟩ := k1.inv I1 s1q
  obtain ⟨v2, w2, p2⟩ := k2.inv I1 s2q
  refine z_call p1 p2 fun h' z TI TO i1 i2 D le hz hI hO t1 t2 kp => ?_
  refine wpAny_pyIter_zip (s := { s1 with heap := h' }) hz ?_
  refine ⟨z, [z, TI, TO, i1, i2], _, _, H1, rfl, I1.kept (t' := s1.toks) kp, turn_zip D, ⟨hz, hI, hO, t1, t2⟩, fun c hc => ?_, q⟩
  have le2 : s1.heap.objs.size ≤ c := by
    have d1 := D.a
    have d2 := D.b
    have d3 := D.c
    have d4 := D.d
    simp only [List.mem_cons, List.not_mem_nil, or_false] at hc
    rcases hc with rfl | rfl | rfl | rfl | rfl
    · exact Nat.le_of_lt (Nat.lt_of_le_of_lt le (Nat.lt_trans d1 (Nat.lt_trans d2 (Nat.lt_trans d3 d4))))
    · exact Nat.le_of_lt (Nat.lt_of_le_of_lt le (Nat.lt_trans d1 d2))
    · exact Nat.le_of_lt (Nat.lt_of_le_of_lt le (Nat.lt_trans d1 (Nat.lt_trans d2 d3)))
    · exact le
    · exact Nat.le_of_lt (Nat.lt_of_le_of_lt le d1)
  exact I1.fpOk le2 (I1.hok.fresh le2)
end
section
variable {K : PySem.W.Frag} {te : TE} {σ : St} {Q : VK} {H : Hp}
end
end L2
namespace L2
open PySem PySem.Spec PyProof.Rows
theorem pick_rev {α : Type} (xs : List α) : ((List.range xs.length).filterMap fun (k : Nat) => xs.toArray[(((xs.length : Int) - 1) + (k : Int) * (-1)).toNat]?) = xs.reverse := by
  have gen : ∀ n, n ≤ xs.length → ((List.range n).filterMap fun (k : Nat) => xs.toArray[(((xs.length : Int) - 1) + (k : Int) * (-1)).toNat]?) = xs.reverse.take n := by
    intro n
    induction n with
    | zero => intro _; simp
    | succ n ih =>
      intro hn
      rw [List.range_succ, List.filterMap_append, ih (by omega), List.take_add_one]
      congr 1
      have e : (((xs.length : Int) - 1) + (n : Int) * (-1)).toNat = xs.length - 1 - n := by omega
      have hlt : n < xs.reverse.length := by rw [List.length_reverse]; omega
      simp only [List.filterMap_cons, List.filterMap_nil, e]
      rw [List.getElem?_toArray, List.getElem?_eq_getElem hlt, List.getElem_reverse, List.getElem?_eq_getElem (by omega)]
      simp
  have := gen xs.length (Nat.le_refl _)
  rw [this, List.take_of_length_le (by simp)]
section
variable {prog : Program} {w : World} {A : Around} {E : Value → Shared → Prop} {s : Shared}
theorem getItem_rev {t sl : Addr} {items : List Value} {vk : Value} {Q : Value → Shared → Prop} (ht : IsTup s.heap t items.toArray) (hs : s.heap.IsSliceOf sl .none .none vk) (pk : IsPart vk (some (-1)))
    (h : Q (.ref s.heap.objs.size) { s with heap := s.heap.push { cls := .type "tuple", data := .seq items.reverse.toArray } }) (hsz : items.length ≤ sizeLine) : wpAny (model prog w) A (getItem (.ref t) (.ref sl)) Q E s := by
  have ok : sizeOk (.seq items.reverse.toArray) := by
    show items.reverse.toArray.size ≤ sizeLine
    rw [List.size_toArray, List.length_reverse]
    exact hsz
  obtain ⟨os, hos, hcs, hds⟩ := id hs
  have hTs : s.TypeIs (.ref sl) "slice" := ⟨os, hos, hcs⟩
  unfold getItem
  try with_reducible refine wpAny_holding ?_
  first | refine wpAny_bind (wpAny_pure ?_) | skip
  refine wpAny_bind (wpAny_sequenceKey ht.typeIs (by decide) ?_); refine wpAny_bind (wpAny_callSpecial?_slot (name := Str.ofString "__getitem__") ht.typeIs PyProof.Rows.slot_tuple_getitem (wpAny_call_entry PyProof.Rows.slot_tuple_getitem ht.typeIs entry_tuple_getitem ?_ (args_tuple_getitem _ _)))
  show wpAny _ _ (Builtin.Tuple.tupleItemsOf (.ref t) >>= _) _ _ s; refine wpAny_bind (tupleItemsOf_ ht (wpAny_bind (wpAny_typeOf hTs ?_))); rw [if_pos (by decide)]
  have app : ∀ {Q' : Int × Int × Nat → Shared → Prop}, Q' ((items.length : Int) - 1, -1, items.length) s → wpAny (model prog w) A.in1 (Builtin.Slice.sliceApplied (.ref sl) (pure (items.toArray.size : Int))) Q' (fun e s' => E e s') s := by
    intro Q' q
    unfold Builtin.Slice.sliceApplied Builtin.Slice.sliceFields
    refine wpAny_bind (wpAny_bind (wpAny_field hos hds (x := .none) rfl (wpAny_bind (wpAny_field hos hds (x := .none) rfl (wpAny_bind (wpAny_field hos hds (x := vk) rfl (wpAny_pure ?_))))))); refine wpAny_bind (HT.slicePart_ pk ?_)
    show wpAny _ _ (if ((-1 : Int) == 0) = true then _ else _) _ _ s; rw [if_neg (by decide)]; refine wpAny_bind (slicePart_none (wpAny_bind (slicePart_none (wpAny_bind (wpAny_pure ?_)))))
    have e1 : Builtin.Slice.sliceAdjust none none (-1) (items.toArray.size : Int) = ((items.length : Int) - 1, -1) := by
      rw [List.size_toArray]; rfl
    have e2 : Builtin.Slice.slicePlaces ((items.length : Int) - 1) (-1) (-1) = items.length := by
      unfold Builtin.Slice.slicePlaces
      rw [if_neg (by decide)]
      by_cases z : (items.length : Int) - 1 > -1
      · rw [if_pos z, show (-(-1) : Int) = 1 from rfl, Int.ediv_one]; omega
      · rw [if_neg z]; omega
    show wpAny _ _ (match Builtin.Slice.sliceAdjust none none (-1) (items.toArray.size : Int) with | (lo, hi) => pure (lo, (-1 : Int), Builtin.Slice.slicePlaces lo hi (-1))) _ _ s
    rw [e1]; show wpAny _ _ (pure ((items.length : Int) - 1, (-1 : Int), Builtin.Slice.slicePlaces ((items.length : Int) - 1) (-1) (-1))) _ _ s; rw [e2]
    exact wpAny_pure q
  refine wpAny_bind (app ?_); show wpAny _ _ (if ((items.length : Int) - 1 == 0 && (-1 : Int) == 1 && items.length == items.toArray.size) = true then _ else _) _ _ s
  rw [if_neg (by intro q; rw [Bool.and_eq_true, Bool.and_eq_true] at q; exact absurd q.1.2 (by decide)), pick_rev items]
  first
    | exact wpAny_bind (m := Builtin.Tuple.tupleExact _) (wpAny_newObj_type (wpAny_pure ⟨_, rfl, wpAny_pure h⟩) ok)
    | exact wpAny_bind (m := Builtin.Tuple.tupleExact _) (wpAny_newObj_type (wpAny_bind (wpAny_pure (wpAny_pure ⟨_, rfl, wpAny_pure h⟩))) ok)
    | exact wpAny_bind (wpAny_bind (m := Builtin.Tuple.tupleExact _) (wpAny_newObj_type (wpAny_pure (wpAny_pure ⟨_, rfl, wpAny_pure h⟩)) ok))
    | exact wpAny_bind (wpAny_bind (m := Builtin.Tuple.tupleExact _) (wpAny_newObj_type (wpAny_pure ⟨_, rfl, wpAny_pure h⟩) ok))
end
section
variable {X : Cx} {e k : Expr} {te tk : TE} {p2 pos : Pos}
def tRevT (K : PySem.W.Frag) (te tk : TE) : TE := fun σ H Q => te σ H fun x H1 => tk σ H1 fun i H2 => ∃ a xs, x = .ref a ∧ i = .int (-1) ∧ SqT K H2 a xs ∧ ∀ p, H2 p = none → Q (.ref p) (upd H2 p (.tup xs.reverse))
theorem pe_revT (he : PE X e te) (hk : PE X k tk) : PE X (.Subscript e (.Slice none none (some k) p2) pos) (tRevT X.K te tk) := by
  intro pins s σ H Q I h
  refine Subscript_ (thn (he pins s σ H _ I h) fun v s1 ⟨x, H1, I1, r1, q1⟩ => ?_)
  refine wpAny_Slice ?_
  rw [evalPart_none]
  refine wpAny_pure (wpAny_pure ?_)
  refine thn (hk pins s1 σ H1 _ I1 q1) fun u s2 ⟨y, H2, I2, r2, a, xs, ex, ey, sq, q⟩ => ?_
  subst ex
  subst ey
  cases r1
  obtain ⟨t, rfl⟩ := r2
  obtain ⟨its, rv, ht, hz⟩ := I2.tuple sq
  have I3 : Inv X pins σ H2 { s2 with heap := s2.heap.push { cls := .type "slice", data := .fields #[.none, .none, .int (-1) t] } } := I2.kept (t' := s2.toks) fun b ob q => Heap.get?_push_of_some _ q
  have ht3 : IsTup (s2.heap.push { cls := .type "slice", data := .fields #[.none, .none, .int (-1) t] }) a its.toArray := ht.push _
  show wpAny (model X.prog X.w) X.A (subscriptTail e (.Slice none none (some k) p2) (.ref a) (.ref s2.heap.objs.size)) (EP X pins σ Q) X.xe { s2 with heap := s2.heap.push { cls := .type "slice", data := .fields #[.none, .none, .int (-1) t] } }
  refine tail_any (ops := [.ref a, .ref s2.heap.objs.size]) ht3.typeIs PyProof.Rows.slot_tuple_getitem.lookup (getItem_rev ht3 (Heap.IsSliceOf.new ..) (.int (-1) t) ?_ (by rw [← rv.length]; exact hz)) (by with_unfolding_all rfl)
  have vr : Vals xs.reverse its.reverse := by
    clear q hz ht ht3 sq I3
    induction rv with
    | nil => exact .nil
    | cons a b ih =>
      rw [List.reverse_cons, List.reverse_cons]
      exact ih.append (.cons a .nil)
  refine ⟨.ref _, _, I3.laid (t' := s2.toks) (o := .tup xs.reverse) (fun b ob q => Heap.get?_push_of_some _ q) (Nat.le_refl _) ?_, rfl, q _ (I3.hok.fresh (Nat.le_refl _))⟩
  exact ⟨by rw [List.length_reverse]; exact hz, its.reverse, vr, IsTup.new _ _⟩
end
end L2
namespace L2
open PySem PySem.Spec PyProof.Rows
open PySem.W (Dat kqdOk)
theorem AccZ.pushK {K : PySem.W.Frag} {H0 H : Hp} {l : Addr} {ds : List Dat} (A : AccZ K H0 l H ds) {y : V} {d : Dat} (r : Rz K H y d) (n : ds.length < sizeLine) {Pv : Hp → Prop} (h : ∀ H2, AccZ K H0 l H2 (ds ++ [d]) → Pv H2) : Push l Pv y H := by
  obtain ⟨xs, h1, h2⟩ := A.at_
  refine ⟨xs, h1, by rw [h2.length]; exact n, h _ ⟨A.upd_same, A.new, xs ++ [y], L2.upd_same, ?_⟩⟩
  exact RzL.upd (h2.append (.cons r .nil)) h1
end L2
namespace L2
open PySem
section
variable {K : PySem.W.Frag} {σ : St} {H : Hp} {Q : VK} {te : TE}
theorem k_zip {k1 k2 : Kn} {ta : TA} {R : It → Hp → Prop} (h : ta σ H fun vs H1 => ∃ a b xs ys, vs = [.ref a, .ref b] ∧ k1.sq K H1 a xs ∧ k2.sq K H1 b ys ∧ R (Itz K k1 k2 a b) H1) : iZip K k1 k2 ta σ H R := h
end
end L2
namespace L2
open PySem
section
variable {K : PySem.W.Frag} {σ : St} {H : Hp} {Q : VK} {D : Ends} {td ty tv te tk : TE}
theorem k_dput (h : tv σ H fun v H1 => td σ H1 fun x H2 => ty σ H2 fun y H3 => ∃ a H4, x = .ref a ∧ DPut H3 a y v H4 ∧ D.nx σ H4) : sDPut td ty tv D σ H := h
theorem k_revT (h : te σ H fun x H1 => tk σ H1 fun i H2 => ∃ a xs, x = .ref a ∧ i = .int (-1) ∧ SqT K H2 a xs ∧ ∀ p, H2 p = none → Q (.ref p) (upd H2 p (.tup xs.reverse))) : tRevT K te tk σ H Q := h
end
end L2
namespace L2
open PySem PySem.Spec PyProof.Rows
section
variable {X : Cx} {scope : Scope}
end
end L2
namespace L2
open PySem PySem.Spec PyProof.Rows
section
variable {X : Cx}
def rAll (K : PySem.W.Frag) : List V → Hp → VK → Prop := fun xs H Q => ∃ (a : Addr) (bs : List Bool), xs = [.ref a] ∧ SqL K H a (bs.map V.bl) ∧ Q (.bl (bs.all id)) H
def rAny (K : PySem.W.Frag) : List V → Hp → VK → Prop := fun xs H Q => ∃ (a : Addr) (bs : List Bool), xs = [.ref a] ∧ SqL K H a (bs.map V.bl) ∧ Q (.bl (bs.any id)) H
theorem bls_bools : ∀ {bs : List Bool} {us : List Value}, Vals (bs.map V.bl) us → LSm.BoolsAre us bs
  | [], _, .nil => .nil
  | b :: bs, _, .cons r rr => by
    cases (show _ = Value.bool b from r)
    exact .cons b (bls_bools rr)
theorem walk_bools {M : Model} {A : Around} {E : Value → Shared → Prop} {s : Shared} {pins : List (Addr × Obj)} {σ : St} {H : Hp} {a : Addr} {bs : List Bool} (d : Bool) (I : Inv X pins σ H s) (q1 : SqL X.K H a (bs.map V.bl)) (hh : A.handled = none) (hM : M = model X.prog X.w)
    {Qr : Bool → Value → Shared → Prop} {f : (Nat → Bool) → Nat → Bool} {r : Bool} (hf : f (fun i => (bs[i]?).getD d) bs.length = r) (q : ∀ h' tk, Inv X pins σ H { s with heap := h', toks := tk } → Qr r (.bool r) { s with heap := h', toks := tk }) :
    wpAny M A (pyIter (.ref a)) (fun it s₂ => ∃ I fp wr n P St tr, it = .ref I ∧ Walks X.prog X.w A I fp wr n P St ∧ St 0 s₂.heap ∧ TruthOf X.prog X.w A P tr ∧ ∀ h' tk, (∀ b o, b ∉ wr → s₂.heap.get? b = some o → h'.get? b = some o) → Qr r (.bool (f tr n)) { s₂ with heap := h', toks := tk }) E s := by
  subst hM
  obtain ⟨its, rv, p, _⟩ := I.list q1
  have hl : s.heap.IsList a its.toArray := p.isList
  have hb := bls_bools rv
  have hlt : a < s.heap.objs.size := by obtain ⟨_, e, _⟩ := hl; exact Heap.lt_size e
  refine wpAny_pyIter_list hl ⟨s.heap.objs.size, [s.heap.objs.size, a], [s.heap.objs.size], its.toArray.size, _, _, fun i => (bs[i]?).getD d, rfl, Walks.list hh _ a (Nat.ne_of_lt hlt) its.toArray, ⟨⟨_, Heap.get?_push_size _ rfl, rfl, rfl⟩, hl.push _⟩, fun i v s' Q' E' hP hQ => ?_, fun h' tk hk => ?_⟩
  · obtain ⟨b, e, rfl⟩ := hb.get i v (by simpa using hP)
    dsimp only at hQ; rw [e] at hQ; exact wpAny_truthy_bool hQ
  · rw [List.size_toArray, hb.length, hf]
    exact q h' tk (I.kept (t' := tk) fun b o e => hk b o (fun z => absurd (Heap.lt_size e) (by rw [List.mem_singleton.mp z]; exact Nat.lt_irrefl _)) (Heap.get?_push_of_some _ e))
theorem call_all (hc : X.calm = true) : CallR X (.builtin "all") (rAll X.K) := by
  intro pins s σ H xs us Q I r h
  obtain ⟨a, bs, rfl, q1, q⟩ := h
  obtain ⟨u, rfl, ru⟩ := vals1 r
  cases ru
  refine call_all_walk (walk_bools (f := fun tr n => (List.range n).all tr) (r := bs.all id) true I q1 (by have := I.ok.hd hc; simpa using this) rfl (LSm.range_all bs) (Qr := fun _ v s' => EP X pins σ Q v s') fun h' tk I2 => ⟨.bl _, H, I2, rfl, q⟩)
theorem call_any (hc : X.calm = true) : CallR X (.builtin "any") (rAny X.K) := by
  intro pins s σ H xs us Q I r h
  obtain ⟨a, bs, rfl, q1, q⟩ := h
  obtain ⟨u, rfl, ru⟩ := vals1 r
  cases ru
  refine call_any_walk (walk_bools (f := fun tr n => (List.range n).any tr) (r := bs.any id) false I q1 (by have := I.ok.hd hc; simpa using this) rfl (LSm.range_any bs) (Qr := fun _ v s' => EP X pins σ Q v s') fun h' tk I2 => ⟨.bl _, H, I2, rfl, q⟩)
theorem bb_all : bootBuiltins "all" = some (.builtin "all") := by decide +kernel
theorem bb_any : bootBuiltins "any" = some (.builtin "any") := by decide +kernel
end
end L2
namespace L2
open PySem PySem.Spec PyProof.Rows
def CompF (J : It) (n : Nat) (g : TG) (tc : TT) (te : TE) (σ : St) (Q : VK) (H1 : Hp) : Prop := ∀ D, H1 D = none → ∃ W : Nat → Nat → Hp → Prop, (∃ m, W 0 m (upd H1 D (.lst []))) ∧ ∀ i m H, W i m H →
  (J.stop i H ∧ Q (.ref D) H) ∨ (J.go i H ∧ ∀ v H', J.yld i H v H' → ∀ us : St, us.length = n → g v (us ++ σ) H' fun σ2 H2 => (∃ us' : St, us'.length = n ∧ σ2 = us' ++ σ) ∧ tc σ2 H2 fun b H3 =>
    if b = true then te σ2 H3 fun y H4 => ∃ xs, H4 D = some (.lst xs) ∧ xs.length < sizeLine ∧ ∃ m', m' < m ∧ W (i + 1) m' (upd H4 D (.lst (xs ++ [y]))) else ∃ m', m' < m ∧ W (i + 1) m' H3)
def tCompF (wi : TI) (n : Nat) (g : TG) (tc : TT) (te : TE) : TE := fun σ H Q => wi σ H fun J H1 => CompF J n g tc te σ Q H1
section
variable {X : Cx} {ys M : List Str} {scope : Scope} {cl : List (Str × Addr)} {C : Addr} {s : Shared} {H : Hp} {fp : List Addr} {pins : List (Addr × Obj)} {σ : St}
theorem comp_loopF {prog : Program} {w : World} {A : Around} {R : Result → Shared → Prop} {s : Shared} {elt target iter c : Expr} {scope : Scope} {pos : Pos} {it acc : Value} {env : Env} (I : Nat → Shared → Prop)
    (turn : ∀ n s, I n s → wpAny (model prog w) A (pyNext it) (fun r s1 => match r with
      | none => R (.ok .next) s1
      | some v => wpAny (model prog w) A (letOwnedTupleGo target it v) (fun _ s2 => wpAny (model prog w) A (assign target env v) (fun _ s3 => wpAny (model prog w) A (isTrue c env (eval c env)) (fun ok s4 =>
          if ok = true then wpAny (model prog w) A (eval elt env) (fun x s5 => wpAny (model prog w) A (call (.builtin "list.append") [acc, x]) (fun _ s6 => ∃ m, m < n ∧ I m s6) (fun _ _ => False) s5) (fun _ _ => False) s4
          else ∃ m, m < n ∧ I m s4) (fun _ _ => False) s3) (fun _ _ => False) s2) (fun _ _ => False) s1) (fun _ _ => False) s) (n : Nat) (h : I n s) :
    codeAny (model prog w) A (.compLoop (.ListComp elt [⟨target, iter, [c], 0⟩] scope pos) 0 it acc env) R s := by
  refine codeAny_loop rfl I (fun k s1 hI => ?_) n h
  have no : ∀ {α : Type} {t : Sem α} {P : α → Shared → Prop} {E : Value → Shared → Prop} {z : Shared}, wpAny (model prog w) A t P (fun _ _ => False) z → wpAny (model prog w) A t P E z := fun q => wpAny_mono q (fun _ _ z => z) fun _ _ z => z.elim
  show wpAny _ _ ((compTurn (.ListComp elt [⟨target, iter, [c], 0⟩] scope pos) 0 it acc env).onRaise _) _ _ s1
  refine wpAny_noted ?_
  rw [compTurn_list]
  refine wpAny_bind (wpAny_standAt (wpAny_bind (no (wpAny_mono (turn k s1 hI) (fun r s2 h2 => ?_) fun _ _ z => z))))
  cases r with
  | none => exact wpAny_pure h2
  | some v =>
    refine wpAny_bind (no (wpAny_mono h2 (fun _ s3 h3 => ?_) fun _ _ z => z))
    refine wpAny_bind (no (wpAny_mono h3 (fun _ s4 h4 => ?_) fun _ _ z => z))
    refine wpAny_bind (wpAny_tests_one (no (wpAny_mono h4 (fun ok s5 h5 => ?_) fun _ _ z => z)))
    cases ok with
    | true =>
      rw [if_pos rfl] at h5
      refine wpAny_bind (wpAny_bind (no (wpAny_mono h5 (fun x s6 h6 => ?_) fun _ _ z => z)))
      exact wpAny_bind (no (wpAny_mono h6 (fun _ s7 h7 => wpAny_pure (wpAny_pure ⟨rfl, h7⟩)) fun _ _ z => z))
    | false =>
      rw [if_neg Bool.false_ne_true] at h5
      exact wpAny_pure ⟨rfl, h5⟩
theorem comp_coreF {elt iter tg cn : Expr} {pos : Pos} {g : TG} {tc : TT} {te : TE} {tn : Nat → Heap → Prop} {it : Addr} {J : It} {E : Value → Shared → Prop} {QQ : Addr → Hp → Prop} {RR : Value → Addr → Result → Shared → Prop} (I : Inv X pins σ H s) (c : CompSc X ys M scope cl) (hc : X.calm = true)
    (hg : ∀ C s₀ H₀ fp pins, PG (compCx X ys M scope cl C s₀ H₀ fp pins) tg g) (ht : ∀ C s₀ H₀ fp pins, PT (compCx X ys M scope cl C s₀ H₀ fp pins) cn tc) (he : ∀ C s₀ H₀ fp pins, PE (compCx X ys M scope cl C s₀ H₀ fp pins) elt te) (T : Turn X.prog X.w X.K tg J fp it tn) (st : tn 0 s.heap) (fk : ∀ b ∈ fp, FpOk X pins H b)
    (h : CompF J ys.length g tc te σ (fun v H' => ∃ D, v = .ref D ∧ QQ D H') H)
    (fin : ∀ D C H' s', s.heap.objs.size ≤ C → s'.heap.get? C ≠ none → (∃ m, s'.heap.Ns C m) → H' C = none → Inv X pins σ H' s' → QQ D H' → RR (.ref D) C (.ok .next) s') :
    wpAny (model X.prog X.w) X.A (newList []) (fun acc s₃ => wpAny (model X.prog X.w) X.A (newFunctionEnv scope X.env.globals cl [] X.env.qual none .none (some X.env)) (fun cenv s₄ =>
      codeAny (model X.prog X.w) X.A (.compStart (.ListComp elt [⟨tg, iter, [cn], 0⟩] scope pos) 0 (.ref it) acc { cenv with scope := relabel scope X.env }) (RR acc cenv.locals) s₄) E s₃) E s := by
  refine wpAny_newObj_type (wpAny_newFunctionEnv c.nocell (by intro y hy; simp at hy) (fun h1 hns hsb => ?_) c.kind)
  dsimp only at hns hsb ⊢
  have hf : H s.heap.objs.size = none := I.hok.fresh (Nat.le_refl _)
  have I3 : Inv X pins σ (upd H s.heap.objs.size (.lst [])) { s with heap := s.heap.push { cls := .type "list", dict := none, data := .seq ([] : List Value).toArray } } :=
    I.laid (t' := s.toks) (fun b u e => Heap.get?_push_of_some _ e) (Nat.le_refl _) ⟨by decide, [], _, .nil, Heap.get?_push_size _ rfl⟩
  have eD : ∀ b u, s.heap.get? b = some u → b ≠ s.heap.objs.size := fun b u e => Nat.ne_of_lt (Heap.lt_size e)
  have fk3 : ∀ b ∈ fp, FpOk X pins (upd H s.heap.objs.size (.lst [])) b ∧ ∃ o, (s.heap.push { cls := .type "list", dict := none, data := .seq ([] : List Value).toArray }).get? b = some o := fun b hb => by
    obtain ⟨o, eo, _⟩ := T.obj 0 _ st b hb
    obtain ⟨f1, f2⟩ := fk b hb
    exact ⟨⟨by rw [upd_ne (eD b o eo)]; exact f1, f2⟩, o, Heap.get?_push_of_some _ eo⟩
  have I4 := inv_comp (tk := s.toks + ([] : List (Str × Value)).length) I3 c rfl hns hsb fk3
  obtain ⟨W, ⟨m0, w0⟩, turn⟩ := h _ hf
  have st4 : tn 0 h1 := T.keep 0 _ _ st fun b hb o e => by
    have e2 := Heap.get?_push_of_some { cls := .type "list", dict := none, data := .seq ([] : List Value).toArray } e
    exact hsb.extBut b o (Nat.ne_of_lt (Heap.lt_size e2)) (Heap.get?_push_of_some _ e2)
  have stat : ∀ {H' : Hp}, (∀ b ∈ fp, H' b = none) → ∀ b ∈ fp, FpOk (compCx X ys M scope cl (s.heap.push { cls := .type "list", dict := none, data := .seq ([] : List Value).toArray }).objs.size { s with heap := s.heap.push { cls := .type "list", dict := none, data := .seq ([] : List Value).toArray } } (upd H s.heap.objs.size (.lst [])) fp pins) [] H' b :=
    fun hn b hb => ⟨hn b hb, (I4.ok.exf b hb).1, I4.ok.exfs b hb, .inl hb, (I4.ok.exf b hb).2, fun p hp => (fk3 b hb).1.2.2.2.2.2 p (by simpa [compCx] using hp)⟩
  have loop : ∀ s4 : Shared, s4 = { s with heap := h1, toks := s.toks + ([] : List (Str × Value)).length } →
      codeAny (model X.prog X.w) X.A (.compLoop (.ListComp elt [⟨tg, iter, [cn], 0⟩] scope pos) 0 (.ref it) (.ref s.heap.objs.size) (compEnvC scope cl (s.heap.push { cls := .type "list", dict := none, data := .seq ([] : List Value).toArray }).objs.size X.env))
        (RR (.ref s.heap.objs.size) (s.heap.push { cls := .type "list", dict := none, data := .seq ([] : List Value).toArray }).objs.size) s4 := by
    rintro s4 rfl
    refine comp_loopF (fun n s' => ∃ (i : Nat) (us : St) (H' : Hp), us.length = ys.length ∧ Inv (compCx X ys M scope cl (s.heap.push { cls := .type "list", dict := none, data := .seq ([] : List Value).toArray }).objs.size { s with heap := s.heap.push { cls := .type "list", dict := none, data := .seq ([] : List Value).toArray } } (upd H s.heap.objs.size (.lst [])) fp pins) [] (us ++ σ) H' s' ∧ tn i s'.heap ∧ (∀ b ∈ fp, H' b = none) ∧ W i n H')
      ?_ m0 ⟨0, _, _, List.length_replicate, I4, st4, fun b hb => (fk3 b hb).1.1, w0⟩
    rintro n s5 ⟨i, us, H5, lu, I5, st5, fr5, w5⟩
    rcases turn i n H5 w5 with ⟨stop, Dq, eDq, q⟩ | ⟨go, step⟩
    · cases eDq
      refine thn (T.done (compCx X ys M scope cl _ _ _ _ _) rfl rfl rfl hc i [] s5 _ H5 _ I5 (stat fr5) st5 stop) fun r s6 ⟨er, I6⟩ => ?_
      subst er
      obtain ⟨m, hn6, _⟩ := id I6.loc
      obtain ⟨o6, _, _, ho6, _⟩ := id hn6
      exact fin _ _ H5 s6 (by rw [Heap.size_push]; exact Nat.le_succ _) (fun z => by have z' := ho6.symm.trans z; cases z') ⟨m, hn6⟩ I6.free (inv_uncomp I3 fk3 I6) q
    · refine thn (T.item (compCx X ys M scope cl _ _ _ _ _) rfl rfl rfl hc i [] s5 _ H5 _ I5 (stat fr5) st5 go) fun r s6 ⟨u, er, h6⟩ => ?_
      subst er
      refine thn h6 fun _ s7 ⟨v', H7, I7, r7, y7, st7, fr7⟩ => ?_
      have I7' := I7.pinned (stat fr7) (T.obj _ _ st7)
      refine wpAny_mono (hg _ _ _ _ _ _ s7 _ H7 v' u _ I7' r7 (step v' H7 y7 us lu)) (fun _ s8 ⟨σ8, H8, I8, ⟨us', lu', e8⟩, q8⟩ => ?_) fun _ _ z => z.elim
      refine wpAny_mono (ht _ _ _ _ _ _ s8 _ H8 _ I8 q8) (fun ok s9 ⟨H9, I9, q9⟩ => ?_) fun _ _ z => z.elim
      subst e8
      cases ok with
      | true =>
        rw [if_pos rfl] at q9 ⊢
        refine wpAny_mono (he _ _ _ _ _ _ s9 _ H9 _ I9 q9) (fun y s10 ⟨yv, H10, I10, ry, xs, hxs, hlen, m', hm, w10⟩ => ?_) fun _ _ z => z.elim
        refine wpAny_mono (mt_append (X := compCx X ys M scope cl _ _ _ _ _) _ s10 _ H10 (.ref s.heap.objs.size) [yv] (.ref s.heap.objs.size) [y] (fun _ H11 => H11 = upd H10 s.heap.objs.size (.lst (xs ++ [yv]))) I10 rfl (.cons ry .nil) ⟨_, xs, yv, rfl, rfl, hxs, hlen, rfl⟩) (fun _ s11 ⟨z, H11, I11, rz, q11⟩ => ?_) fun _ _ z => z.elim
        subst q11
        refine ⟨m', hm, i + 1, us', _, lu', I11.unpinned (pins := []), T.keep _ _ _ st7 fun b hb o e => (I11.pin (b, o) (List.mem_append_right _ (List.mem_append_right _ (mem_pinsAt hb e)))).1, fun b hb => ?_, w10⟩
        obtain ⟨o, e, _⟩ := T.obj _ _ st7 b hb
        exact (I11.pin (b, o) (List.mem_append_right _ (List.mem_append_right _ (mem_pinsAt hb e)))).2.1
      | false =>
        rw [if_neg Bool.false_ne_true] at q9 ⊢
        obtain ⟨m', hm, w9⟩ := q9
        refine ⟨m', hm, i + 1, us', _, lu', I9.unpinned (pins := []), T.keep _ _ _ st7 fun b hb o e => (I9.pin (b, o) (List.mem_append_right _ (List.mem_append_right _ (mem_pinsAt hb e)))).1, fun b hb => ?_, w9⟩
        obtain ⟨o, e, _⟩ := T.obj _ _ st7 b hb
        exact (I9.pin (b, o) (List.mem_append_right _ (List.mem_append_right _ (mem_pinsAt hb e)))).2.1
  exact codeAny_compStart_list (loop _ rfl) (T.self _ 0 _ _ _ st4 (loop _ rfl))
theorem ps_lcF {elt iter tg cn : Expr} {pos py sp : Pos} {wi : TI} {g : TG} {tc : TT} {te : TE} {i n : Nat} {y : Str} (ys M : List Str) (hN : X.N.Nodup) (hy : X.N[i]? = some y) (ly : X.env.scope.names.lookup y = some .local) (c0 : CompS X.env.scope X.N M ys scope) (hc : X.calm = true) (hi : PI X tg iter wi)
    (hg : ∀ C s₀ H₀ fp pins, PG (compCx X ys M scope (clOf scope X.env.cells) C s₀ H₀ fp pins) tg g) (ht : ∀ C s₀ H₀ fp pins, PT (compCx X ys M scope (clOf scope X.env.cells) C s₀ H₀ fp pins) cn tc) (he : ∀ C s₀ H₀ fp pins, PE (compCx X ys M scope (clOf scope X.env.cells) C s₀ H₀ fp pins) elt te) (hn : ys.length = n := by rfl)
    (hsw : swapsWith (.ListComp elt [⟨tg, iter, [cn], 0⟩] scope pos) (some (.Name y py)) sp.line X.env = pure true := by rfl) (hs : ∀ v, foldedSetIterable iter X.env v = pure v := by intro _; rfl) :
    PS X (.Assign [.Name y py] (.ListComp elt [⟨tg, iter, [cn], 0⟩] scope pos) sp) (tAsg (tCompF wi n g tc te) (gName i)) := by
  subst hn
  intro pins s σ H D I h
  have c := c0.sc I.ok
  have hi' : PI X tg iter (fun σ H R => ∃ R', (∀ J H1, R' J H1 → R J H1) ∧ wi σ H R') := by
    intro pins s σ H R I ⟨R', hR, hw⟩
    refine thn (hi pins s σ H R' I hw) fun v s1 h1 => thn h1 fun itv s2 ⟨it, fp, tn, J, H', e, I', T, t0, fk, r⟩ => ⟨it, fp, tn, J, H', e, I', T, t0, fk, hR J H' r⟩
  rw [exec_Assign_Name_used _ _ _ _ hsw]
  refine wpAny_bind (wpAny_standAt (wpAny_bind ?_))
  show wpAny _ X.A (do let _ ← comprehension (.ListComp elt [⟨tg, iter, [cn], 0⟩] scope pos) scope X.env _ (newList []) false (eval iter X.env) (some (assign (.Name y py) X.env))) _ _ s
  refine wpAny_bind (wpAny_mono (wpAny_comprehension_free (use := some (assign (.Name y py) X.env)) (Q := fun _ s' => SP X pins D .next s') rfl hs c.clos c.kind c.names (thn (hi' pins s σ H (fun J H1 => CompF J ys.length g tc te σ (fun v H' => ∃ Da, v = .ref Da ∧ D.nx (σ.set i (some (.ref Da))) H') H1) I ⟨_, fun J H1 q Da nD => ?_, h⟩) fun v s1 h1 => thn h1 fun itv s2 h2 => ?_)) (fun _ s' hq => wpAny_pure (wpAny_pure hq)) fun _ _ z => z)
  · obtain ⟨W, w0, t⟩ := q Da nD
    exact ⟨W, w0, fun i m H w => (t i m H w).imp (fun z => ⟨z.1, Da, rfl, z.2⟩) id⟩
  obtain ⟨it, fp, tn, J, H2, rfl, I2, T, st2, fk2, h3⟩ := h2
  refine comp_coreF (E := X.xe) (QQ := fun Da H' => D.nx (σ.set i (some (.ref Da))) H') I2 c hc hg ht he T st2 fk2 h3 fun Da C H' s' hC hl ns fr I' q => ?_
  obtain ⟨m, hn⟩ := ns
  refine wpAny_assign_Name (store_ok2 I' hN hy (.inl ly) (v := .ref Da) rfl (fun s3 I3 ⟨a, hsa, ha⟩ => ?_) (.inr ly))
  have nC : C ≠ a := by
    rcases ha with z | z
    · rw [z]; exact (I2.fpOk hC fr).2.1
    · exact fun w' => (I2.fpOk hC fr).2.2.2.2.1 y a z w'.symm
  refine ⟨m, hn.sameBut hsa nC, fun h' hs' => ⟨_, H', I3.turned (t' := s3.toks) (fun b o hb e => (hs'.2 b hb).trans e) fr (I2.fpOk hC fr).2.1 (I2.fpOk hC fr).2.2.2.1 (I2.fpOk hC fr).2.2.2.2.1 (I2.fpOk hC fr).2.2.2.2.2, q⟩⟩
end
section
variable {K : PySem.W.Frag} {tc : TT} {te : TE} {σ : St} {Q : VK} {H : Hp}
theorem k_compF {wi : TI} {n : Nat} {g : TG} (h : wi σ H fun J H1 => CompF J n g tc te σ Q H1) : tCompF wi n g tc te σ H Q := h
def SkK (n i : Nat) (Pv : Nat → Hp → Prop) : Hp → Prop := fun H2 => ∃ m', m' < n - i ∧ m' = n - (i + 1) ∧ i + 1 ≤ n ∧ Pv (i + 1) H2
def EltF (g : TG) (n : Nat) (tc : TT) (te : TE) (σ : St) (v : V) (H : Hp) (D : Addr) (m i : Nat) (Pv : Nat → Hp → Prop) : Prop := ∀ us : St, us.length = n → g v (us ++ σ) H fun σ2 H2 => (∃ us' : St, us'.length = n ∧ σ2 = us' ++ σ) ∧ tc σ2 H2 fun b H3 => if b = true then te σ2 H3 (EltK D m i Pv) else SkK m i Pv H3
theorem skipped {n i : Nat} {Pv : Nat → Hp → Prop} {H2 : Hp} (hi : i < n) (h : Pv (i + 1) H2) : SkK n i Pv H2 := ⟨n - (i + 1), by omega, rfl, hi, h⟩
theorem compF_zip {k1 k2 : Kn} {a b : Addr} {xs ys : List V} {n : Nat} {g : TG} (h : ∀ D, H D = none → ∃ Pv : Nat → Hp → Prop, Pv 0 (upd H D (.lst [])) ∧ (∀ i H2, i ≤ min xs.length ys.length → Pv i H2 → k1.sq K H2 a xs ∧ k2.sq K H2 b ys) ∧
    (∀ i x y H2 T, xs[i]? = some x → ys[i]? = some y → Pv i H2 → H2 T = none → EltF g n tc te σ (.ref T) (upd H2 T (.tup [x, y])) D (min xs.length ys.length) i Pv) ∧ ∀ H2, Pv (min xs.length ys.length) H2 → Q (.ref D) H2) : CompF (Itz K k1 k2 a b) n g tc te σ Q H := by
  intro D nD
  obtain ⟨Pv, h0, hl, hs, hd⟩ := h D nD
  refine ⟨fun i m H => m = min xs.length ys.length - i ∧ i ≤ min xs.length ys.length ∧ Pv i H, ⟨_, rfl, Nat.zero_le _, h0⟩, ?_⟩
  rintro i m H ⟨rfl, hi, p⟩
  obtain ⟨q1, q2⟩ := hl i H hi p
  by_cases hlt : i < min xs.length ys.length
  · refine .inr ⟨⟨xs, ys, q1, q2, by omega, by omega⟩, fun v H' y us hu => ?_⟩
    obtain ⟨T, x, y, nT, rfl, rfl, z1, z2⟩ := y
    exact hs i x y H T (z1 xs q1) (z2 ys q2) p nT us hu
  · have e : i = min xs.length ys.length := by omega
    subst e
    refine .inl ⟨⟨xs, ys, q1, q2, ?_⟩, hd H p⟩
    rcases Nat.le_total xs.length ys.length with q | q
    · exact .inl (by rw [Nat.min_eq_left q]; exact Nat.le_refl _)
    · exact .inr (by rw [Nat.min_eq_right q]; exact Nat.le_refl _)
end
end L2
namespace L2
open PySem PySem.Spec PyProof.Rows
def istr (i : Int) : Str := toString i
def tFmtS (te : TE) : TE := fun σ H Q => te σ H fun x H1 => ∃ z, x = .str z ∧ z.length ≤ sizeLine ∧ Q (.str z) H1
def tFmtI (te : TE) : TE := fun σ H Q => te σ H fun x H1 => ∃ i, x = .int i ∧ i.natAbs.log2 < 1920 ∧ Q (.str (istr i)) H1
def tJn : List TE → Str → TE
  | [], acc => fun _ H Q => Q (.str acc) H
  | t :: r, acc => fun σ H Q => t σ H fun x H1 => ∃ y, x = .str y ∧ (acc ++ y).length ≤ sizeLine ∧ tJn r (acc ++ y) σ H1 Q
def rStrI : List V → Hp → VK → Prop := fun xs H Q => ∃ i, xs = [.int i] ∧ i.natAbs.log2 < 1920 ∧ Q (.str (istr i)) H
def rJoin (K : PySem.W.Frag) : V → List V → Hp → VK → Prop := fun x xs H Q => ∃ (z : Str) (a : Addr) (ws : List Str), x = .str z ∧ xs = [.ref a] ∧ SqL K H a (ws.map V.str) ∧ (ws.map (·.length)).sum + ws.length * z.length ≤ 16777216 ∧ Q (.str (Txt.join z ws)) H
section
variable {X : Cx} {pos : Pos}
theorem pe_fmtS {e : Expr} {te : TE} (h : PE X e te) : PE X (.FormattedValue e (-1) none pos) (tFmtS te) := by
  intro pins s σ H Q I q
  refine FormattedValue_plain (thn (h pins s σ H _ I q) fun v s1 ⟨x, H1, I1, r1, z, e1, lz, q1⟩ => ?_)
  subst e1
  obtain ⟨t, rfl⟩ := r1
  exact formatField_str (fun t' tk => ⟨.str z, H1, I1.tok tk, ⟨t', rfl⟩, q1⟩) lz
theorem pe_fmtI {e : Expr} {te : TE} (h : PE X e te) : PE X (.FormattedValue e (-1) none pos) (tFmtI te) := by
  intro pins s σ H Q I q
  refine FormattedValue_plain (thn (h pins s σ H _ I q) fun v s1 ⟨x, H1, I1, r1, i, e1, li, q1⟩ => ?_)
  subst e1
  obtain ⟨t, rfl⟩ := r1
  exact formatField_int_small li ⟨.str (istr i), H1, I1.tok _, ⟨_, rfl⟩, q1⟩
inductive PJ (X : Cx) : List Expr → List TE → Prop
  | nil : PJ X [] []
  | cons {e : Expr} {es : List Expr} {t : TE} {ts : List TE} : PE X e t → PJ X es ts → PJ X (e :: es) (t :: ts)
theorem PJ.run : ∀ {es : List Expr} {ts : List TE}, PJ X es ts → ∀ (acc : Str) (pins : List (Addr × Obj)) (s : Shared) (σ : St) (H : Hp) (Q : VK), acc.length ≤ sizeLine → Inv X pins σ H s → tJn ts acc σ H Q →
    wpAny (model X.prog X.w) X.A (joinParts acc (evalEach es X.env)) (EP X pins σ Q) X.xe s
  | _, _, .nil, acc, pins, s, σ, H, Q, la, I, q => joinParts_nil ⟨.str acc, H, I.tok _, ⟨_, rfl⟩, q⟩ la
  | _, _, .cons he r, acc, pins, s, σ, H, Q, la, I, q => by
    refine joinParts_cons (thn (he pins s σ H _ I q) fun v s1 ⟨x, H1, I1, r1, y, e1, ly, q1⟩ => ?_)
    subst e1
    obtain ⟨t, rfl⟩ := r1
    exact ⟨ly, r.run (acc ++ y) pins s1 σ H1 Q ly I1 q1⟩
theorem pe_jn1 {e : Expr} {te : TE} (h : PE X e te) : PE X (.JoinedStr [e] pos) te := fun pins s σ H Q I q => JoinedStr_one (h pins s σ H Q I q)
theorem pe_jn {e e2 : Expr} {es : List Expr} {ts : List TE} (h : PJ X (e :: e2 :: es) ts) : PE X (.JoinedStr (e :: e2 :: es) pos) (tJn ts Str.empty) := fun pins s σ H Q I q => JoinedStr_many (h.run Str.empty pins s σ H Q (by decide) I q)
theorem call_strI : CallR X (.type "str") rStrI := by
  intro pins s σ H xs us Q I r h
  obtain ⟨i, rfl, li, q⟩ := h
  obtain ⟨u, rfl, ru⟩ := vals1 r
  obtain ⟨t, rfl⟩ := ru
  exact P.str_of_int li ⟨.str (istr i), H, I.tok _, ⟨_, rfl⟩, q⟩
theorem strs_are : ∀ {ws : List Str} {us : List Value}, Vals (ws.map V.str) us → StrsAre us ws
  | [], _, .nil => .nil
  | w :: ws, _, .cons r rr => by
    obtain ⟨t, rfl⟩ := r
    exact .cons w t (strs_are rr)
theorem mt_join : MtR X "str.join" (rJoin X.K) := by
  intro pins s σ H x xs v us Q I rx rv h
  obtain ⟨z, a, ws, rfl, rfl, sq, le, q⟩ := h
  obtain ⟨t, rfl⟩ := rx
  obtain ⟨u, rfl, ru⟩ := vals1 rv
  cases ru
  obtain ⟨its, rvs, p, _⟩ := I.list sq
  exact join_list (items := its.toArray) p.isList (strs_are rvs) le fun t' k => ⟨.str _, H, I.tok k, ⟨t', rfl⟩, q⟩
end
section
variable {K : PySem.W.Frag} {σ : St} {H : Hp} {Q : VK} {te : TE}
theorem k_fmtS (h : te σ H fun x H1 => ∃ z, x = .str z ∧ z.length ≤ sizeLine ∧ Q (.str z) H1) : tFmtS te σ H Q := h
theorem k_fmtI (h : te σ H fun x H1 => ∃ i, x = .int i ∧ i.natAbs.log2 < 1920 ∧ Q (.str (istr i)) H1) : tFmtI te σ H Q := h
theorem k_jn0 {acc : Str} (h : Q (.str acc) H) : tJn [] acc σ H Q := h
theorem k_jn {t : TE} {r : List TE} {acc : Str} (h : t σ H fun x H1 => ∃ y, x = .str y ∧ (acc ++ y).length ≤ sizeLine ∧ tJn r (acc ++ y) σ H1 Q) : tJn (t :: r) acc σ H Q := h
theorem k_jnS {r : List TE} {acc y : Str} (n : (acc ++ y).length ≤ sizeLine) (h : tJn r (acc ++ y) σ H Q) : ∃ z, V.str y = .str z ∧ (acc ++ z).length ≤ sizeLine ∧ tJn r (acc ++ z) σ H Q := ⟨y, rfl, n, h⟩
theorem k_fS {y : Str} {P : Str → Prop} (n : y.length ≤ sizeLine) (h : P y) : ∃ z, V.str y = .str z ∧ z.length ≤ sizeLine ∧ P z := ⟨y, rfl, n, h⟩
theorem k_strI {i : Int} (n : i.natAbs.log2 < 1920) (h : Q (.str (istr i)) H) : rStrI [.int i] H Q := ⟨i, rfl, n, h⟩
theorem k_join {z : Str} {a : Addr} {ws : List Str} (sq : SqL K H a (ws.map V.str)) (le : (ws.map (·.length)).sum + ws.length * z.length ≤ 16777216) (h : Q (.str (Txt.join z ws)) H) : rJoin K (.str z) [.ref a] H Q := ⟨z, a, ws, rfl, rfl, sq, le, h⟩
end
end L2
namespace L2
open PySem PySem.Spec PyProof.Rows
def Its (z : Str) : It := ⟨fun i _ => i < z.cps.size, fun i H x H' => H' = H ∧ ∃ c, z.cps[i]? = some c ∧ x = .str ⟨#[c]⟩, fun i _ => z.cps.size ≤ i⟩
theorem turn_str {P : Program} {w : World} {K : PySem.W.Frag} {tg : Expr} (z : Str) (t : Tok) (it : Addr) : Turn P w K tg (Its z) [it] it (fun i h => h.IsStrIter it "str_ascii_iterator" z t i) where
  mem := List.mem_singleton.mpr rfl
  obj := fun i h ⟨o, e, c, d⟩ b hb => by cases List.mem_singleton.mp hb; exact ⟨o, e, fun v q => by rw [d] at q; cases q⟩
  keep := fun i h h' ⟨o, e, r⟩ k => ⟨o, k it (List.mem_singleton.mpr rfl) o e, r⟩
  item := fun X hP hw hK hc i pins s σ H E I hf st hg => by
    subst hP hw hK; have hg' : i < z.cps.size := hg
    obtain ⟨f0, f1, f2, f3, f4, f5⟩ := hf it (List.mem_singleton.mpr rfl); refine wpAny_pyNext_ascii_item st (c := z.cps[i]) (Array.getElem?_eq_getElem hg') fun h' st' sb => ?_
    have I1 : Inv X pins σ H { s with heap := h', toks := s.toks + 1 } := I.turned (t' := s.toks + 1) (fun b o hb e => (sb.2 b hb).trans e) f0 f1 f3 f4 f5
    obtain ⟨o, e, c, d⟩ := id st'; exact ⟨_, rfl, go_of (s := { s with heap := h', toks := s.toks + 1 }) e c d (by decide) ⟨.str ⟨#[z.cps[i]]⟩, H, I1, ⟨_, rfl⟩, ⟨rfl, _, Array.getElem?_eq_getElem hg', rfl⟩, st', fun b hb => (hf b hb).1⟩⟩
  done := fun X hP hw hK hc i pins s σ H E I hf st hg => by
    subst hP hw hK; obtain ⟨f0, f1, f2, f3, f4, f5⟩ := hf it (List.mem_singleton.mpr rfl)
    exact wpAny_pyNext_ascii_end (I.ok.hd hc) st (Array.getElem?_eq_none hg) fun h' eb => ⟨rfl, I.turned (t' := s.toks) (fun b o hb e => eb b o hb e) f0 f1 f3 f4 f5⟩
  self := fun _ _ _ _ _ st h => wpAny_pyIter_striter_ascii st h
def iStr (tl : TE) : TI := fun σ H R => tl σ H fun x H1 => ∃ z : Str, x = .str z ∧ z.cps.all (· < 128) = true ∧ R (Its z) H1
section
variable {X : Cx} {tg : Expr}
theorem pi_str {l : Expr} {tl : TE} (hl : PE X l tl) : PI X tg l (iStr tl) := by
  intro pins s σ H R I h
  refine thn (hl pins s σ H _ I h) fun v s1 ⟨x, H1, I1, r1, z, e, ha, q⟩ => ?_
  subst e; obtain ⟨t, rfl⟩ := r1; refine wpAny_pyIter_ascii ha ⟨s1.heap.objs.size, [s1.heap.objs.size], _, _, H1, rfl, I1.kept (t' := s1.toks) fun b o e => Heap.get?_push_of_some _ e, turn_str z t _, ⟨_, Heap.get?_push_size _ rfl, rfl, rfl⟩, fun b hb => ?_, q⟩
  cases List.mem_singleton.mp hb; exact I1.fpOk (Nat.le_refl _) (I1.hok.fresh (Nat.le_refl _))
theorem k_iStr {σ : St} {H : Hp} {te : TE} {R : It → Hp → Prop} (h : te σ H fun x H1 => ∃ z : Str, x = .str z ∧ z.cps.all (· < 128) = true ∧ R (Its z) H1) : iStr te σ H R := h
theorem comp_str {z : Str} {te : TE} {σ : St} {Q : VK} {H : Hp} (h : ∀ D, H D = none → ∃ Pv : Nat → Hp → Prop, Pv 0 (upd H D (.lst [])) ∧ (∀ i c H2, z.cps[i]? = some c → Pv i H2 → Elt te σ (.str ⟨#[c]⟩) H2 D z.cps.size i Pv) ∧ ∀ H2, Pv z.cps.size H2 → Q (.ref D) H2) : CompAt (Its z) te σ Q H := by
  intro D nD
  obtain ⟨Pv, h0, hs, hd⟩ := h D nD
  refine ⟨fun i m H => m = z.cps.size - i ∧ i ≤ z.cps.size ∧ Pv i H, ⟨z.cps.size, by simp, Nat.zero_le _, h0⟩, ?_⟩
  rintro i m H ⟨rfl, hi, p⟩; by_cases hlt : i < z.cps.size
  · refine .inr ⟨hlt, fun v H' y => ?_⟩
    obtain ⟨e, c, hc, e2⟩ := y; subst e e2; exact hs i c _ hc p
  · have e : i = z.cps.size := by omega
    subst e; exact .inl ⟨Nat.le_refl _, hd H p⟩
def tIsLT (K : PySem.W.Frag) (te : TE) : TE := fun σ H Q => te σ H fun x H1 => ∃ a, x = .ref a ∧ ((∃ xs, SqL K H1 a xs) ∨ ∃ xs, SqT K H1 a xs) ∧ Q (.bl true) H1
theorem ans_list {a : Addr} : AnswersAll (fun s => s.TypeIs (.ref a) "list") (.ref a) [.type "list", .type "tuple"] [true, false] :=
  .cons (.of_true (by rfl) F.sub_list_list) (.cons (.of_false_list (by decide) (by rfl) F.sub_list_tuple) .nil)
theorem ans_tup {a : Addr} : AnswersAll (fun s => s.TypeIs (.ref a) "tuple") (.ref a) [.type "list", .type "tuple"] [false, true] :=
  .cons (.of_false_tuple (by decide) (by rfl) F.sub_tuple_list) (.cons (.of_true (by rfl) F.sub_tuple_tuple) .nil)
theorem pe_isLT {e : Expr} {te : TE} {p p1 p2 pos tp : Pos} {x1} (hgi : Gl X "isinstance") (hmi : X.mg "isinstance" = none) (hgl : Gl X "list") (hml : X.mg "list" = none) (hgt : Gl X "tuple") (hmt : X.mg "tuple" = none) (he : PE X e te)
    (hs : starEach [e, .Tuple [.Name "list" p1, .Name "tuple" p2] x1 tp] X.env = [(false, eval e X.env), (false, eval (.Tuple [.Name "list" p1, .Name "tuple" p2] x1 tp) X.env)] := by rfl)
    (hs2 : starEach [.Tuple [.Name "list" p1, .Name "tuple" p2] x1 tp] X.env = [(false, eval (.Tuple [.Name "list" p1, .Name "tuple" p2] x1 tp) X.env)] := by rfl) :
    PE X (.Call (.Name "isinstance" p) [e, .Tuple [.Name "list" p1, .Name "tuple" p2] x1 tp] [] pos) (tIsLT X.K te) := by
  intro pins s σ H Q I h
  refine wpAny_Call_Name_kw (ld_blt I hgi hmi bb_isinstance ?_)
  refine PyProof.Rows.callWith_builtin1 ?_ (by rw [hs, hs2]) (by rw [hs2]; rfl)
  rw [hs]
  refine (show wpAny _ _ (spliced (backTo pos [(false, eval e X.env), (false, eval (.Tuple [.Name "list" p1, .Name "tuple" p2] x1 tp) X.env)])) _ _ s from Calls.spliced_cons (thn (he pins s σ H _ I h) fun u s1 ⟨x, H1, I1, r1, a, ex, hq, q⟩ => Calls.spliced_cons ?_))
  subst ex; cases r1
  have ha : PA X [.Name "list" p1, .Name "tuple" p2] (tCons (tC (.ty "list")) (tCons (tC (.ty "tuple")) tNil)) := pa_cons (pe_bltn hgl hml bb_list rfl) (pa_cons (pe_bltn hgt hmt bb_tuple rfl) pa_nil)
  refine wpAny_Tuple_spliced (x1 := x1) (thn (ha tp pins s1 σ H1 (fun vs H2 => vs = [.ty "list", .ty "tuple"] ∧ H2 = H1) I1 ⟨rfl, rfl⟩) fun us s2 ⟨xs, H2, I2, r2, e2, e3⟩ => ?_)
  subst e2 e3
  obtain ⟨u1, u2, rfl, ru1, ru2⟩ := vals2 r2
  obtain rfl : u1 = Value.type "list" := ru1; obtain rfl : u2 = Value.type "tuple" := ru2
  refine ⟨by show 2 ≤ sizeLine; decide, Calls.spliced_nil ?_⟩
  have I3 : Inv X pins σ H2 { s2 with heap := s2.heap.push { cls := .type "tuple", dict := none, data := .seq ([.type "list", .type "tuple"] : List Value).toArray } } := I2.kept (t' := s2.toks) fun b o e => Heap.get?_push_of_some _ e
  rcases hq with ⟨xs, q1⟩ | ⟨xs, q1⟩
  · obtain ⟨its, _, p, _⟩ := I3.list q1
    obtain ⟨o, ho, hc, _⟩ := p.isList
    exact IsiPair.tupleOfB (b := true) ans_list ⟨o, ho, hc⟩ (Heap.get?_push_size _ rfl) rfl fun tk => ⟨.bl true, H2, I3.tok tk, rfl, q⟩
  · obtain ⟨its, _, p, _⟩ := I3.tuple q1
    obtain ⟨o, ho, hc, _⟩ := id p
    exact IsiPair.tupleOfB (b := true) ans_tup ⟨o, ho, hc⟩ (Heap.get?_push_size _ rfl) rfl fun tk => ⟨.bl true, H2, I3.tok tk, rfl, q⟩
theorem k_isLT {K : PySem.W.Frag} {σ : St} {H : Hp} {Q : VK} {te : TE} (h : te σ H fun x H1 => ∃ a, x = .ref a ∧ ((∃ xs, SqL K H1 a xs) ∨ ∃ xs, SqT K H1 a xs) ∧ Q (.bl true) H1) : tIsLT K te σ H Q := h
end
end L2
namespace L2
open PySem PySem.Spec PyProof.Rows
def iSeq (K : PySem.W.Frag) (tl : TE) : TI := fun σ H R => tl σ H fun x H1 => ∃ a, x = .ref a ∧ (((∃ xs, SqL K H1 a xs) ∧ R (Itl K a) H1) ∨ ((∃ xs, SqT K H1 a xs) ∧ R (Itt K a) H1))
section
variable {X : Cx} {tg : Expr}
theorem pe_globI {x : Str} {i : Int} {pos : Pos} (hg : Gl X x) (hm : ∃ t, X.mg x = some (.int i t)) (hd : (x == ("__debug__" : Str)) = false := by decide) : PE X (.Name x pos) (tC (.int i)) := by
  obtain ⟨t, e⟩ := hm
  exact pe_glob hg e ⟨t, rfl⟩ hd
theorem pi_seq {l : Expr} {tl : TE} (hl : PE X l tl) : PI X tg l (iSeq X.K tl) := by
  intro pins s σ H R I h
  refine thn (hl pins s σ H _ I h) fun v s1 ⟨x, H1, I1, r1, a, e, q1⟩ => ?_
  subst e; cases r1
  have own : ∀ b ∈ [s1.heap.objs.size], FpOk X pins H1 b := fun b hb => by cases List.mem_singleton.mp hb; exact I1.fpOk (Nat.le_refl _) (I1.hok.fresh (Nat.le_refl _))
  rcases q1 with ⟨⟨xs, hq⟩, q⟩ | ⟨⟨xs, hq⟩, q⟩
  · obtain ⟨its, _, p, _⟩ := I1.list hq; exact wpAny_pyIter_list p.isList ⟨_, [_], _, _, H1, rfl, I1.kept (t' := s1.toks) fun b o e => Heap.get?_push_of_some _ e, turn_list a _, ⟨_, Heap.get?_push_size _ rfl, rfl, rfl⟩, own, q⟩
  · obtain ⟨its, _, p, _⟩ := I1.tuple hq; exact wpAny_pyIter_tuple (show s1.heap.IsTuple a its.toArray from p) ⟨_, [_], _, _, H1, rfl, I1.kept (t' := s1.toks) fun b o e => Heap.get?_push_of_some _ e, turn_tuple a _, ⟨_, Heap.get?_push_size _ rfl, rfl, rfl⟩, own, q⟩
end
section
variable {K : PySem.W.Frag} {te : TE} {σ : St} {Q : VK} {H : Hp}
theorem k_iSeq {R : It → Hp → Prop} (h : te σ H fun x H1 => ∃ a, x = .ref a ∧ (((∃ xs, SqL K H1 a xs) ∧ R (Itl K a) H1) ∨ ((∃ xs, SqT K H1 a xs) ∧ R (Itt K a) H1))) : iSeq K te σ H R := h
theorem comp_seq {a : Addr} {xs : List V} (e : SqL K H a xs ∨ SqT K H a xs) (h : ∀ D, H D = none → ∃ Pv : Nat → Hp → Prop, Pv 0 (upd H D (.lst [])) ∧ (∀ i H2, Pv i H2 → Same H H2) ∧ (∀ i x H2, xs[i]? = some x → Pv i H2 → Elt te σ x H2 D xs.length i Pv) ∧ ∀ H2, Pv xs.length H2 → Q (.ref D) H2) :
    ∃ b, V.ref a = .ref b ∧ (((∃ xs, SqL K H b xs) ∧ CompAt (Itl K b) te σ Q H) ∨ ((∃ xs, SqT K H b xs) ∧ CompAt (Itt K b) te σ Q H)) := by
  refine ⟨a, rfl, ?_⟩
  rcases e with e | e
  · refine .inl ⟨⟨xs, e⟩, comp_list (xs := xs) fun D nD => ?_⟩
    obtain ⟨Pv, h0, h1, h2, h3⟩ := h D nD
    exact ⟨Pv, h0, fun i H2 _ p => (h1 i H2 p).seq e, h2, h3⟩
  · refine .inr ⟨⟨xs, e⟩, comp_tup (xs := xs) fun D nD => ?_⟩
    obtain ⟨Pv, h0, h1, h2, h3⟩ := h D nD
    exact ⟨Pv, h0, fun i H2 _ p => (h1 i H2 p).seqT e, h2, h3⟩
theorem k_slT {a : Addr} {xs : List V} {lo hi : Option Int} (e : SqT K H a xs) (n : ¬ (HT.sIx xs.length 0 lo = 0 ∧ HT.sIx xs.length xs.length hi = xs.length)) (h : ∀ p, H p = none → Q (.ref p) (upd H p (.tup (cutV xs lo hi)))) : rSlT K (.ref a) lo hi H Q := ⟨a, xs, rfl, e, n, h⟩
theorem k_all {a : Addr} {bs : List Bool} (e : SqL K H a (bs.map V.bl)) (h : Q (.bl (bs.all id)) H) : rAll K [.ref a] H Q := ⟨a, bs, rfl, e, h⟩
theorem k_any {a : Addr} {bs : List Bool} (e : SqL K H a (bs.map V.bl)) (h : Q (.bl (bs.any id)) H) : rAny K [.ref a] H Q := ⟨a, bs, rfl, e, h⟩
theorem comp_bls {b : Bool} {D : Addr} {n i : Nat} {H0 H2 : Hp} {Pv : Nat → Hp → Prop} (hn : n ≤ 1000) (hi : i < n) (hP : ∀ j H3, Pv j H3 ↔ AccZ K H0 D H3 ((List.replicate j b).map PySem.W.Dat.bool)) (A : Pv i H2) {H3 : Hp} (S : Same H2 H3) : EltK D n i Pv (.bl b) H3 := by
  have A2 := ((hP i H2).mp A).on S
  refine pushed hi (A2.pushK (.bl b) (by rw [List.length_map, List.length_replicate, show sizeLine = 16777216 by decide]; omega) fun H4 A4 => ?_)
  rw [hP, List.replicate_succ', List.map_append]
  exact A4
theorem AccZ.bls {H0 : Hp} {l : Addr} {bs : List Bool} (A : AccZ K H0 l H (bs.map PySem.W.Dat.bool)) : SqL K H l (bs.map V.bl) := by
  obtain ⟨xs, h1, h2⟩ := A.at_
  have : ∀ {vs : List V} {bs : List Bool}, RzL K H vs (bs.map PySem.W.Dat.bool) → vs = bs.map V.bl := by
    intro vs bs
    induction bs generalizing vs with
    | nil => intro h; cases h; rfl
    | cons b bs ih =>
      intro h
      cases h with
      | cons h1 h2 =>
        cases h1
        rw [ih h2]
        rfl
  rw [this h2] at h1
  exact SqL.of h1
end
end L2
namespace Gd
def gd (a b : Int) : Int := (Int.gcd a b : Nat)
theorem gd_turn (a b : Int) : gd b (Int.fmod a b) = gd a b := by
  unfold gd
  have e : Int.fmod a b = a + b * (-(Int.fdiv a b)) := by
    rw [Int.fmod_def, Int.mul_neg]; omega
  rw [e, Int.gcd_add_mul_left_right, Int.gcd_comm]
theorem gd_less {a b : Int} (h : b ≠ 0) : (Int.fmod a b).natAbs < b.natAbs := by
  rcases (by omega : 0 < b ∨ b < 0) with p | p
  · have h1 := Int.fmod_nonneg_of_pos a p
    have h2 := Int.fmod_lt_of_pos a p
    omega
  · have e : Int.fmod a b = -(Int.fmod (-a) (-b)) := by
      rw [Int.fmod_def, Int.fmod_def, Int.neg_fdiv_neg]
      rw [Int.neg_mul]; omega
    have h1 := Int.fmod_nonneg_of_pos (-a) (b := -b) (by omega)
    have h2 := Int.fmod_lt_of_pos (-a) (b := -b) (by omega)
    omega
theorem gd_zero (a : Int) : gd a 0 = (a.natAbs : Int) := by
  unfold gd
  rw [Int.gcd_zero_right]
theorem gd_out (a : Int) : (if a < 0 then -a else a) = gd a 0 := by
  rw [gd_zero]; split <;> omega
theorem gd_pos {a b : Int} (h : b ≠ 0) : 0 < gd a b := by
  unfold gd
  have : Int.gcd a b ≠ 0 := fun e => h (Int.gcd_eq_zero_iff.mp e).2
  omega
theorem gd_le {a b : Int} (h : b ≠ 0) : gd a b ≤ (b.natAbs : Int) := by
  unfold gd
  have := Int.gcd_le_natAbs_right a h
  omega
structure Low (top bottom q p : Int) : Prop where
  pos : 0 < p
  low : gd q p = 1
  worth : q * bottom = top * p
theorem low_of {t b d : Int} (hb : b ≠ 0) (hd : d = gd t b ∧ 0 < b ∨ d = - gd t b ∧ b < 0) : Low t b (Int.fdiv t d) (Int.fdiv b d) := by
  have gp := gd_pos (a := t) hb
  have d1 : gd t b ∣ t := Int.gcd_dvd_left t b
  have d2 : gd t b ∣ b := Int.gcd_dvd_right t b
  have e1 : d ∣ t := by rcases hd with ⟨e, _⟩ | ⟨e, _⟩ <;> rw [e]; exact d1; exact Int.neg_dvd.mpr d1
  have e2 : d ∣ b := by rcases hd with ⟨e, _⟩ | ⟨e, _⟩ <;> rw [e]; exact d2; exact Int.neg_dvd.mpr d2
  have d0 : d ≠ 0 := by rcases hd with ⟨e, _⟩ | ⟨e, _⟩ <;> omega
  obtain ⟨q, rfl⟩ := e1
  obtain ⟨p, rfl⟩ := e2
  rw [Int.mul_fdiv_cancel_left _ d0, Int.mul_fdiv_cancel_left _ d0]
  refine ⟨?_, ?_, ?_⟩
  · rcases hd with ⟨e, z⟩ | ⟨e, z⟩
    · exact Int.pos_of_mul_pos_right z (by omega) |> fun h => h
    · have z' : 0 < (-d) * p := by rw [Int.neg_mul]; omega
      exact Int.pos_of_mul_pos_right z' (by omega)
  · have m : gd (d * q) (d * p) = (d.natAbs : Int) * gd q p := by
      unfold gd; rw [Int.gcd_mul_left]; simp
    have n : gd (d * q) (d * p) = (d.natAbs : Int) := by
      rcases hd with ⟨e, z⟩ | ⟨e, z⟩ <;> omega
    rw [n] at m
    have k : (d.natAbs : Int) * gd q p = (d.natAbs : Int) * 1 := by omega
    exact Int.eq_of_mul_eq_mul_left (by omega) k
  · rw [← Int.mul_assoc, Int.mul_comm q d]
theorem fdiv_abs {t d : Int} (h : d ≠ 0) (hd : d ∣ t) : (Int.fdiv t d).natAbs ≤ t.natAbs := by
  obtain ⟨q, rfl⟩ := hd
  rw [Int.mul_fdiv_cancel_left _ h, Int.natAbs_mul]
  exact Nat.le_mul_of_pos_left _ (by omega)
theorem low_abs {t b d : Int} (hb : b ≠ 0) (hd : d = gd t b ∧ 0 < b ∨ d = - gd t b ∧ b < 0) : (Int.fdiv t d).natAbs ≤ t.natAbs ∧ (Int.fdiv b d).natAbs ≤ b.natAbs := by
  have gp := gd_pos (a := t) hb
  have d1 : gd t b ∣ t := Int.gcd_dvd_left t b
  have d2 : gd t b ∣ b := Int.gcd_dvd_right t b
  have d0 : d ≠ 0 := by rcases hd with ⟨e, _⟩ | ⟨e, _⟩ <;> omega
  refine ⟨fdiv_abs d0 ?_, fdiv_abs d0 ?_⟩
  · rcases hd with ⟨e, _⟩ | ⟨e, _⟩ <;> rw [e]; exact d1; exact Int.neg_dvd.mpr d1
  · rcases hd with ⟨e, _⟩ | ⟨e, _⟩ <;> rw [e]; exact d2; exact Int.neg_dvd.mpr d2
theorem wide {i : Int} (h : i.natAbs < 10000000000000000000000000000000000000001) : i.natAbs < 2 ^ 9000 :=
  Nat.lt_of_lt_of_le h (by
    have : 10000000000000000000000000000000000000001 ≤ 2 ^ 133 := by decide
    exact Nat.le_trans this (Nat.pow_le_pow_right (by decide) (by decide)))
theorem wide2 {i : Int} (h : i.natAbs < 2 ^ 9000) : i.natAbs < 2 ^ 20000 := Nat.lt_of_lt_of_le h (Nat.pow_le_pow_right (by decide) (by decide))
end Gd
namespace Fr
open PySem L2
def spDiv : Sp := fun vs H Q _ => ∃ a b : Int, vs = [.int a, .int b] ∧ Q (.int (Gd.gd a b)) H
theorem len_div {vs : List V} {H : Hp} {Q : VK} {E : XK} {y z : Str} (h : spDiv vs H Q E) : vs.length = [y, z].length := by
  obtain ⟨a, b, rfl, _⟩ := h
  rfl
def tDiv : TS := (tSeq (tWhile (tTest (tOp rNe (tVar 1) (tC (.int 0))))
  (tSeq (tAsg (tOp rModN (tVar 0) (tVar 1)) (gName 2))
  (tSeq (tAsg (tVar 1) (gName 0))
  (tAsg (tVar 2) (gName 1)))))
  (tRet (tCB rAbs (tCons (tVar 0) tNil))))
theorem rd_div (a b : Int) (H : Hp) (D : Ends) (k : D.rt (.int (Gd.gd a b)) H) : tDiv D [some (.int a), some (.int b), none] H := by
  refine while_by (fun σ H' => H' = H ∧ ∃ (i j : Int) (v : Option V), σ = [some (.int i), some (.int j), v] ∧ Gd.gd i j = Gd.gd a b)
    (fun σ _ => match σ with | [_, some (.int j), _] => j.natAbs | _ => 0) ⟨rfl, a, b, none, rfl, rfl⟩ ?_ ?_
  · rintro σ H' ⟨rfl, i, j, v, rfl, e⟩
    refine ⟨_, rfl, rfl, _, rfl, iteNE (fun hj => ?_) (fun hj => ?_)⟩
    · refine ⟨_, rfl, _, rfl, _, _, rfl, rfl, hj, _, rfl, _, rfl, ⟨rfl, j, i.fmod j, _, rfl, (Gd.gd_turn i j).trans e⟩, ?_⟩
      exact Gd.gd_less hj
    · subst hj
      refine ⟨_, rfl, _, rfl, ?_⟩
      rw [Gd.gd_out, e]
      exact k
  · rintro σ H' R R' h ⟨v, e, sc, c, ec, q⟩
    exact ⟨v, e, sc, c, ec, h _ _ q⟩
def tLowT : TS := (tSeq (tAsg (tCall spDiv [] E0 (tCons (tVar 0) (tCons (tVar 1) tNil))) (gName 2))
  (tRet (tTup (tCons (tOp rDivW (tVar 0) (tVar 2)) (tCons (tOp rDivW (tVar 1) (tVar 2)) tNil)))))
def tLow0 : TS := (tSeq (tIfS (tTest (tOp rLt (tVar 1) (tC (.int 0)))) tNever tNext)
  (tSeq (tIfS (tTest (tOp rEq (tVar 1) (tC (.int 0)))) (tAsg (tC (.int 1)) (gName 1)) tNext) tLowT))
end Fr
namespace Fr
open PySem L2
open PySem.W (Dat kqdOk)
def cellOf (ns : List Int) (k : Int) : Int := (ns[k.toNat]?).getD 0
def spCell (K : PySem.W.Frag) : Sp := fun vs H Q _ => ∃ (a : Addr) (ns : List Int) (k : Int), vs = [.ref a, .int k] ∧ SqL K H a (ns.map V.int) ∧ 0 ≤ k ∧ Q (.int (cellOf ns k)) H
theorem len_cell {K : PySem.W.Frag} {vs : List V} {H : Hp} {Q : VK} {E : XK} {y z : Str} (h : spCell K vs H Q E) : vs.length = [y, z].length := by
  obtain ⟨a, ns, k, rfl, _⟩ := h
  rfl
def tCell (K : PySem.W.Frag) : TS := (tSeq (tIfS (tTest (tOp rLt (tVar 1) (tCB (rLenQ K) (tCons (tVar 0) tNil))))
  (tRet (tOp (rIxL K) (tVar 0) (tVar 1)))
  tNext)
  (tRet (tC (.int 0))))
theorem rd_cell {K : PySem.W.Frag} {a : Addr} {ns : List Int} {k : Int} {H : Hp} {D : Ends} (hS : SqL K H a (ns.map V.int)) (h0 : 0 ≤ k) (q : D.rt (.int (cellOf ns k)) H) : tCell K D [some (.ref a), some (.int k)] H := by
  have el : (ns.map V.int).length = ns.length := List.length_map _
  refine ⟨_, rfl, _, rfl, a, _, rfl, .inl hS, _, _, rfl, rfl, _, rfl, iteD (fun c => ?_) (fun c => ?_)⟩
  · rw [el] at c
    have hk : k.toNat < ns.length := by omega
    have e : k = ((k.toNat : Nat) : Int) := by omega
    have z : cellOf ns k = ns[k.toNat] := by
      unfold cellOf
      rw [List.getElem?_eq_getElem hk]
      rfl
    have w : atI (ns.map V.int) ((k.toNat : Nat) : Int) = some (.int ns[k.toNat]) := atI_nat (by rw [List.getElem?_map]; simp [hk])
    rw [← e] at w
    rw [z] at q
    exact ⟨_, rfl, _, rfl, a, _, _, _, rfl, rfl, hS, w, q⟩
  · rw [el] at c
    have z : cellOf ns k = 0 := by
      unfold cellOf
      rw [List.getElem?_eq_none (by omega)]
      rfl
    rw [z] at q
    exact q
def spWhole : Sp := fun vs H Q _ => ∃ i : Int, vs = [.int i] ∧ Q (.bl true) H
theorem len_whole {vs : List V} {H : Hp} {Q : VK} {E : XK} {y : Str} (h : spWhole vs H Q E) : vs.length = [y].length := by
  obtain ⟨i, rfl, _⟩ := h
  rfl
def tWhole (K : PySem.W.Frag) : TS := (tRet (tAndV (tCB (rIsi K) (tCons (tVar 0) (tCons (tC (.ty "int")) tNil))) (tNotV (tCB (rIsi K) (tCons (tVar 0) (tCons (tC (.ty "bool")) tNil))))))
theorem rd_whole {K : PySem.W.Frag} {i : Int} {H : Hp} {D : Ends} (q : D.rt (.bl true) H) : tWhole K D [some (.int i)] H :=
  ⟨_, rfl, _, _, _, _, rfl, TyOf.int i, kit_ii, _, rfl, iteT ⟨_, rfl, _, _, _, _, rfl, TyOf.int i, kit_ib, _, rfl, q⟩⟩
end Fr
namespace Kd
open PySem L2
end Kd
namespace Ex0
open PySem L2 Fr Kd
end Ex0
namespace L2
open PySem PySem.SetTable
def tb0 (m : Nat) : SetTable := { mask := m, place := #[], dummies := #[], finger := 0, led := true, moves := 0, plain := true }
def adv (m : Nat) (p : Probe) : Probe := (tb0 m).advance p
def st (m : Nat) (h : Int) : Probe := (tb0 m).probeStart h
def wlk (m : Nat) : Nat → Probe → Probe
  | 0, p => p
  | n + 1, p => wlk m n (adv m p)
theorem wlk_add (m : Nat) : ∀ (a b : Nat) (p : Probe), wlk m (a + b) p = wlk m b (wlk m a p)
  | 0, b, p => by rw [Nat.zero_add]; rfl
  | a + 1, b, p => by rw [show a + 1 + b = (a + b) + 1 by omega]; exact wlk_add m a b (adv m p)
theorem wlk_succ (m n : Nat) (p : Probe) : wlk m (n + 1) p = adv m (wlk m n p) := by rw [wlk_add m n 1 p]; rfl
theorem adv_dummy (m : Nat) (p : Probe) : (adv m p).dummy = p.dummy := by unfold adv SetTable.advance; split <;> rfl
theorem wlk_dummy (m : Nat) : ∀ (n : Nat) (p : Probe), (wlk m n p).dummy = p.dummy
  | 0, _ => rfl
  | n + 1, p => by rw [wlk, wlk_dummy m n, adv_dummy]
theorem runEnd_le (m i : Nat) : runEnd m i - i ≤ 9 := by unfold runEnd; split <;> omega
theorem adv_more {m : Nat} {p : Probe} (h : p.more ≤ 9) : (adv m p).more ≤ 9 := by
  unfold adv SetTable.advance
  split
  · show p.more - 1 ≤ 9; omega
  · exact runEnd_le _ _
theorem wlk_more (m : Nat) : ∀ (n : Nat) {p : Probe}, p.more ≤ 9 → (wlk m n p).more ≤ 9
  | 0, _, h => h
  | n + 1, _, h => wlk_more m n (adv_more h)
theorem st_more (m : Nat) (h : Int) : (st m h).more ≤ 9 := runEnd_le _ _
def lp (m : Nat) (x : Nat × Nat) : Nat × Nat := leap m x.1 x.2
def lps (m : Nat) : Nat → Nat × Nat → Nat × Nat
  | 0, x => x
  | n + 1, x => lps m n (lp m x)
theorem adv_more_pos {m : Nat} {p : Probe} (h : 0 < p.more) : adv m p = { p with j := p.j + 1, more := p.more - 1 } := by unfold adv SetTable.advance; rw [if_pos h]
theorem adv_more_zero {m : Nat} {p : Probe} (h : p.more = 0) : adv m p = { p with j := (lp m (p.i, p.perturb)).1, more := runEnd m (lp m (p.i, p.perturb)).1 - (lp m (p.i, p.perturb)).1, i := (lp m (p.i, p.perturb)).1, perturb := (lp m (p.i, p.perturb)).2 } := by
  unfold adv SetTable.advance
  rw [if_neg (by omega)]
  rfl
theorem to_leap (m : Nat) : ∀ (r : Nat) (p : Probe), p.more = r → ∃ q, wlk m (r + 1) p = q ∧ q.j = (lp m (p.i, p.perturb)).1 ∧ q.i = (lp m (p.i, p.perturb)).1 ∧ q.perturb = (lp m (p.i, p.perturb)).2
  | 0, p, h => ⟨_, rfl, by rw [wlk, wlk, adv_more_zero h], by rw [wlk, wlk, adv_more_zero h], by rw [wlk, wlk, adv_more_zero h]⟩
  | r + 1, p, h => by
    have e : wlk m (r + 1 + 1) p = wlk m (r + 1) { p with j := p.j + 1, more := p.more - 1 } := by rw [wlk, adv_more_pos (by omega)]
    obtain ⟨q, h1, h2, h3, h4⟩ := to_leap m r { p with j := p.j + 1, more := p.more - 1 } (by show p.more - 1 = r; omega)
    exact ⟨q, e.trans h1, h2, h3, h4⟩
theorem to_leaps (m : Nat) : ∀ (k : Nat) (p : Probe), p.more ≤ 9 → ∃ n, n ≤ 10 * (k + 1) ∧ (wlk m n p).j = (lps m (k + 1) (p.i, p.perturb)).1 ∧ (wlk m n p).i = (lps m (k + 1) (p.i, p.perturb)).1 ∧ (wlk m n p).perturb = (lps m (k + 1) (p.i, p.perturb)).2
  | 0, p, h => by
    obtain ⟨q, h1, h2, h3, h4⟩ := to_leap m p.more p rfl
    exact ⟨p.more + 1, by omega, by rw [h1]; exact h2, by rw [h1]; exact h3, by rw [h1]; exact h4⟩
  | k + 1, p, h => by
    obtain ⟨q, h1, h2, h3, h4⟩ := to_leap m p.more p rfl
    have hq : q.more ≤ 9 := h1 ▸ wlk_more m _ h
    obtain ⟨n, g1, g2, g3, g4⟩ := to_leaps m k q hq
    have e : lps m (k + 1) (q.i, q.perturb) = lps m (k + 1 + 1) (p.i, p.perturb) := by rw [h3, h4]; rfl
    rw [e] at g2 g3 g4
    exact ⟨p.more + 1 + n, by omega, by rw [wlk_add, h1]; exact g2, by rw [wlk_add, h1]; exact g3, by rw [wlk_add, h1]; exact g4⟩
theorem lps_add (m : Nat) : ∀ (a b : Nat) (x : Nat × Nat), lps m (a + b) x = lps m b (lps m a x)
  | 0, b, x => by rw [Nat.zero_add]; rfl
  | a + 1, b, x => by rw [show a + 1 + b = (a + b) + 1 by omega]; exact lps_add m a b (lp m x)
theorem lps_perturb (m : Nat) : ∀ (a : Nat) (x : Nat × Nat), (lps m a x).2 = x.2 / 32 ^ a
  | 0, x => by simp [lps]
  | a + 1, x => by
    rw [lps, lps_perturb m a]
    show x.2 / 32 / 32 ^ a = x.2 / 32 ^ (a + 1)
    rw [Nat.div_div_eq_div_mul, Nat.pow_succ, Nat.mul_comm]
theorem lps_lt (m : Nat) : ∀ (a : Nat) (x : Nat × Nat), (lps m (a + 1) x).1 < m + 1
  | 0, x => Nat.mod_lt _ (Nat.succ_pos _)
  | a + 1, x => lps_lt m a (lp m x)
def lc (m : Nat) : Nat → Nat → Nat
  | 0, i => i
  | n + 1, i => lc m n ((i * 5 + 1) % (m + 1))
theorem lps_zero (m : Nat) : ∀ (a i : Nat), (lps m a (i, 0)).1 = lc m a i
  | 0, _ => rfl
  | a + 1, i => by
    have e : lp m (i, 0) = ((i * 5 + 1) % (m + 1), 0) := by unfold lp leap; simp
    rw [lps, e, lps_zero m a]; rfl
def Full (m : Nat) : Prop := ∀ i, i < m + 1 → ∀ j, j < m + 1 → ∃ k, k < m + 1 ∧ lc m k i = j
def fullB (m : Nat) : Bool := (List.range (m + 1)).all fun i => (List.range (m + 1)).all fun j => (List.range (m + 1)).any fun k => lc m k i == j
theorem full_of {m : Nat} (h : fullB m = true) : Full m := by
  intro i hi j hj
  have h1 := List.all_eq_true.mp h i (List.mem_range.mpr hi)
  have h2 := List.all_eq_true.mp h1 j (List.mem_range.mpr hj)
  obtain ⟨k, h3, h4⟩ := List.any_eq_true.mp h2
  exact ⟨k, List.mem_range.mp h3, by simpa using h4⟩
theorem full7 : Full 7 := full_of (by decide +kernel)
theorem full31 : Full 31 := full_of (by decide +kernel)
theorem hits {m : Nat} (F : Full m) {p : Probe} (h1 : p.more ≤ 9) (h2 : p.perturb < 2 ^ 64) {j : Nat} (hj : j < m + 1) : ∃ n, n < 10 * turns m ∧ (wlk m n p).j = j := by
  obtain ⟨k, hk, ek⟩ := F (lps m 13 (p.i, p.perturb)).1 (lps_lt m 12 _) j hj
  have z : (lps m 13 (p.i, p.perturb)).2 = 0 := by
    rw [lps_perturb]
    exact Nat.div_eq_of_lt (Nat.lt_of_lt_of_le h2 (by decide))
  have e : (lps m (12 + k + 1) (p.i, p.perturb)).1 = j := by
    rw [show 12 + k + 1 = 13 + k by omega, lps_add]
    have e2 : lps m 13 (p.i, p.perturb) = ((lps m 13 (p.i, p.perturb)).1, 0) := Prod.ext rfl z
    rw [e2, lps_zero]; exact ek
  obtain ⟨n, g1, g2, _⟩ := to_leaps m (12 + k) p h1
  exact ⟨n, by unfold turns; omega, g2.trans e⟩
theorem bits_lt (h : Int) : bits h < 2 ^ 64 := by unfold bits; omega
theorem st_perturb (m : Nat) (h : Int) : (st m h).perturb < 2 ^ 64 := bits_lt h
theorem adv_perturb {m : Nat} {p : Probe} (h : p.perturb < 2 ^ 64) : (adv m p).perturb < 2 ^ 64 := by
  unfold adv SetTable.advance
  split
  · exact h
  · show p.perturb / 32 < 2 ^ 64; omega
theorem wlk_perturb (m : Nat) : ∀ (n : Nat) {p : Probe}, p.perturb < 2 ^ 64 → (wlk m n p).perturb < 2 ^ 64
  | 0, _, h => h
  | n + 1, _, h => wlk_perturb m n (adv_perturb h)
theorem probe_go {t : SetTable} (hd : ∀ j, t.slot j ≠ .dummy) (hashAt : Nat → Int) (h : Int) : ∀ (fuel : Nat) (p : Probe), (∃ n, n < fuel ∧ t.slot (wlk t.mask n p).j = .empty) →
    ∃ n, n < fuel ∧ (∀ k, k < n → ∃ i, t.slot (wlk t.mask k p).j = .live i ∧ hashAt i ≠ h) ∧
      ((t.slot (wlk t.mask n p).j = .empty ∧ SetTable.probe.go t hashAt h fuel p = some (.empty (wlk t.mask n p).j p.dummy)) ∨
       (∃ i, t.slot (wlk t.mask n p).j = .live i ∧ hashAt i = h ∧ SetTable.probe.go t hashAt h fuel p = some (.candidate (wlk t.mask n p).j i (wlk t.mask (n + 1) p))))
  | 0, _, ⟨_, h0, _⟩ => absurd h0 (by omega)
  | fuel + 1, p, ⟨n, h0, h1⟩ => by
    cases hs : t.slot p.j with
    | empty => exact ⟨0, by omega, fun k hk => absurd hk (by omega), .inl ⟨hs, by rw [SetTable.probe.go, hs]; rfl⟩⟩
    | dummy => exact absurd hs (hd _)
    | live i =>
      by_cases e : hashAt i = h
      · refine ⟨0, by omega, fun k hk => absurd hk (by omega), .inr ⟨i, hs, e, ?_⟩⟩
        rw [SetTable.probe.go, hs]
        show (if hashAt i == h then _ else _) = _
        rw [if_pos (by simpa using e)]; rfl
      · have hn : ∃ n, n < fuel ∧ t.slot (wlk t.mask n (adv t.mask p)).j = .empty := by
          cases n with
          | zero => rw [wlk, hs] at h1; exact absurd h1 (by simp)
          | succ n => exact ⟨n, by omega, h1⟩
        obtain ⟨n', g0, g1, g2⟩ := probe_go hd hashAt h fuel (adv t.mask p) hn
        have ego : SetTable.probe.go t hashAt h (fuel + 1) p = SetTable.probe.go t hashAt h fuel (adv t.mask p) := by
          rw [SetTable.probe.go, hs]
          show (if hashAt i == h then _ else _) = _
          rw [if_neg (by simpa using e)]; rfl
        refine ⟨n' + 1, by omega, ?_, ?_⟩
        · intro k hk
          cases k with
          | zero => exact ⟨i, hs, e⟩
          | succ k => exact g1 k (by omega)
        · rw [ego]
          rcases g2 with ⟨a, b⟩ | ⟨i', a, b, c⟩
          · exact .inl ⟨a, by rw [b, adv_dummy]; rfl⟩
          · exact .inr ⟨i', a, b, c⟩
end L2
namespace L2
open PySem PySem.SetTable
theorem below_go (xs : Array Nat) (j : Nat) (hs : ∀ a b, a < b → b < xs.size → xs.getD a j < xs.getD b j) : ∀ (fuel lo hi : Nat), lo ≤ hi → hi ≤ xs.size → hi - lo ≤ fuel → (∀ k, k < lo → xs.getD k j < j) → (∀ k, hi ≤ k → k < xs.size → ¬ xs.getD k j < j) →
    lo ≤ below.go xs j fuel lo hi ∧ below.go xs j fuel lo hi ≤ xs.size ∧ (∀ k, k < below.go xs j fuel lo hi → xs.getD k j < j) ∧ (∀ k, below.go xs j fuel lo hi ≤ k → k < xs.size → ¬ xs.getD k j < j)
  | 0, lo, hi, h1, h2, h3, h4, h5 => by
    have : lo = hi := by omega
    subst this
    exact ⟨Nat.le_refl _, h2, h4, h5⟩
  | fuel + 1, lo, hi, h1, h2, h3, h4, h5 => by
    unfold below.go
    by_cases hl : lo < hi
    · rw [if_pos hl]
      show lo ≤ (if xs.getD ((lo + hi) / 2) j < j then _ else _) ∧ _
      by_cases hm : xs.getD ((lo + hi) / 2) j < j
      · rw [if_pos hm]
        have := below_go xs j hs fuel ((lo + hi) / 2 + 1) hi (by omega) h2 (by omega) (fun k hk => by
          rcases Nat.lt_or_ge k ((lo + hi) / 2) with g | g
          · exact Nat.lt_trans (hs k _ g (by omega)) hm
          · have : k = (lo + hi) / 2 := by omega
            rw [this]; exact hm) h5
        exact ⟨by omega, this.2⟩
      · rw [if_neg hm]
        exact below_go xs j hs fuel lo ((lo + hi) / 2) (by omega) (by omega) (by omega) h4 (fun k h6 h7 h8 => by
          rcases Nat.lt_or_ge ((lo + hi) / 2) k with g | g
          · exact hm (Nat.lt_trans (hs _ k g h7) h8)
          · have : k = (lo + hi) / 2 := by omega
            rw [this] at h8; exact hm h8)
    · rw [if_neg hl]
      have : lo = hi := by omega
      subst this
      exact ⟨Nat.le_refl _, h2, h4, h5⟩
def Srt (l : List Nat) : Prop := l.Pairwise (· < ·)
theorem srt_getD {l : List Nat} (h : Srt l) (d : Nat) : ∀ a b, a < b → b < l.toArray.size → l.toArray.getD a d < l.toArray.getD b d := by
  intro a b h1 h2
  have h3 : b < l.length := by simpa using h2
  have := List.pairwise_iff_getElem.mp h a b (by omega) h3 h1
  simpa [Array.getD, h3, show a < l.length by omega] using this
theorem below_spec {l : List Nat} (h : Srt l) (j : Nat) : below l.toArray j ≤ l.length ∧ (∀ k x, k < below l.toArray j → l[k]? = some x → x < j) ∧ (∀ k x, below l.toArray j ≤ k → l[k]? = some x → j ≤ x) := by
  have := below_go l.toArray j (srt_getD h j) l.toArray.size 0 l.toArray.size (by omega) (Nat.le_refl _) (by omega) (fun k hk => absurd hk (by omega)) (fun k h1 h2 => absurd h2 (by omega))
  obtain ⟨_, h2, h3, h4⟩ := this
  have gd : ∀ k x, l[k]? = some x → k < l.length ∧ l.toArray.getD k j = x := by
    intro k x hx
    obtain ⟨hk, e⟩ := List.getElem?_eq_some_iff.mp hx
    exact ⟨hk, by simp [Array.getD, hk, e]⟩
  refine ⟨by unfold below; simpa using h2, ?_, ?_⟩
  · intro k x hk hx
    have := h3 k hk
    rw [(gd k x hx).2] at this; exact this
  · intro k x hk hx
    have := h4 k hk (by simpa using (gd k x hx).1)
    rw [(gd k x hx).2] at this; omega
theorem below_at {l : List Nat} (h : Srt l) {j i : Nat} (hi : l[i]? = some j) : below l.toArray j = i := by
  obtain ⟨h1, h2, h3⟩ := below_spec h j
  rcases Nat.lt_trichotomy i (below l.toArray j) with g | g | g
  · exact absurd (h2 i j g hi) (by omega)
  · exact g.symm
  · obtain ⟨hk, e⟩ := List.getElem?_eq_some_iff.mp hi
    have hb : below l.toArray j < l.length := by omega
    have h4 := h3 (below l.toArray j) _ (Nat.le_refl _) (List.getElem?_eq_getElem hb)
    have h5 := List.pairwise_iff_getElem.mp h (below l.toArray j) i hb hk g
    omega
theorem srt_ins {l : List Nat} (h : Srt l) {j : Nat} (hj : j ∉ l) : Srt (l.take (below l.toArray j) ++ j :: l.drop (below l.toArray j)) := by
  obtain ⟨h1, h2, h3⟩ := below_spec h j
  have ht : ∀ x ∈ l.take (below l.toArray j), x < j := by
    intro x hx
    obtain ⟨k, hk, e⟩ := List.mem_take_iff_getElem.mp hx
    exact h2 k x (by omega) (by rw [← e]; exact List.getElem?_eq_getElem _)
  have hd : ∀ x ∈ l.drop (below l.toArray j), j < x := by
    intro x hx
    obtain ⟨k, hk, e⟩ := List.mem_drop_iff_getElem.mp hx
    have := h3 (below l.toArray j + k) x (by omega) (by rw [← e]; exact List.getElem?_eq_getElem _)
    have hne : x ≠ j := fun e2 => hj (e2 ▸ List.mem_of_mem_drop hx)
    omega
  unfold Srt
  rw [List.pairwise_append]
  refine ⟨List.Pairwise.sublist (List.take_sublist _ _) h, ?_, ?_⟩
  · rw [List.pairwise_cons]
    exact ⟨hd, List.Pairwise.sublist (List.drop_sublist _ _) h⟩
  · intro a ha b hb
    rcases List.mem_cons.mp hb with rfl | hb
    · exact ht a ha
    · exact Nat.lt_trans (ht a ha) (hd b hb)
theorem insertAt_list {α : Type} (l : List α) (p : Nat) (x : α) (_hp : p ≤ l.length) : insertAt l.toArray p x = (l.take p ++ x :: l.drop p).toArray := by
  unfold insertAt
  apply Array.ext'
  simp [List.extract_eq_take_drop]
  rw [List.take_of_length_le (by simp)]
theorem slot_live {t : SetTable} {l : List Nat} (hp : t.place = l.toArray) (hs : Srt l) {i j : Nat} (h : l[i]? = some j) : t.slot j = .live i := by
  unfold SetTable.slot
  rw [hp]
  show (if l.toArray[below l.toArray j]? == some j then _ else _) = _
  rw [below_at hs h, if_pos (by simpa using h)]
theorem slot_empty {t : SetTable} {l : List Nat} (hp : t.place = l.toArray) (hd : t.dummies = #[]) {j : Nat} (h : j ∉ l) : t.slot j = .empty := by
  unfold SetTable.slot
  rw [hp, hd]
  show (if l.toArray[below l.toArray j]? == some j then _ else _) = _
  rw [if_neg, if_neg]
  · simp [has, below, below.go]
  · intro e
    exact h (List.mem_of_getElem? (by simpa using e))
theorem slot_of_live {t : SetTable} {l : List Nat} (hp : t.place = l.toArray) (hd : t.dummies = #[]) (hs : Srt l) {i j : Nat} (h : t.slot j = .live i) : l[i]? = some j := by
  by_cases hj : j ∈ l
  · obtain ⟨i', hi⟩ := List.mem_iff_getElem?.mp hj
    rw [slot_live hp hs hi] at h
    cases h; exact hi
  · rw [slot_empty hp hd hj] at h; cases h
theorem slot_not_dummy {t : SetTable} {l : List Nat} (hp : t.place = l.toArray) (hd : t.dummies = #[]) (hs : Srt l) (j : Nat) : t.slot j ≠ .dummy := by
  by_cases hj : j ∈ l
  · obtain ⟨i', hi⟩ := List.mem_iff_getElem?.mp hj
    rw [slot_live hp hs hi]; simp
  · rw [slot_empty hp hd hj]; simp
theorem slot_of_empty {t : SetTable} {l : List Nat} (hp : t.place = l.toArray) (hs : Srt l) {j : Nat} (h : t.slot j = .empty) : j ∉ l := by
  intro hj
  obtain ⟨i', hi⟩ := List.mem_iff_getElem?.mp hj
  rw [slot_live hp hs hi] at h; cases h
theorem adv_le {m : Nat} {p : Probe} (h : p.j + p.more ≤ m) : (adv m p).j + (adv m p).more ≤ m := by
  by_cases g : 0 < p.more
  · rw [adv_more_pos g]; show p.j + 1 + (p.more - 1) ≤ m; omega
  · rw [adv_more_zero (by omega)]
    have hl : (lp m (p.i, p.perturb)).1 < m + 1 := Nat.mod_lt _ (Nat.succ_pos _)
    show (lp m (p.i, p.perturb)).1 + (runEnd m (lp m (p.i, p.perturb)).1 - (lp m (p.i, p.perturb)).1) ≤ m
    unfold runEnd; split <;> omega
theorem wlk_le (m : Nat) : ∀ (n : Nat) {p : Probe}, p.j + p.more ≤ m → (wlk m n p).j + (wlk m n p).more ≤ m
  | 0, _, h => h
  | n + 1, _, h => wlk_le m n (adv_le h)
theorem st_le (m : Nat) (h : Int) : (st m h).j + (st m h).more ≤ m := by
  have hl : bits h % (m + 1) < m + 1 := Nat.mod_lt _ (Nat.succ_pos _)
  show bits h % (m + 1) + (runEnd m (bits h % (m + 1)) - bits h % (m + 1)) ≤ m
  unfold runEnd; split <;> omega
def at_ (m : Nat) (h : Int) (n : Nat) : Nat := (wlk m n (st m h)).j
theorem at_le (m : Nat) (h : Int) (n : Nat) : at_ m h n ≤ m := by have := wlk_le m n (st_le m h); unfold at_; omega
structure Lain (t : SetTable) (l : List Nat) (hs : List Int) : Prop where
  full : Full t.mask
  place : t.place = l.toArray
  nodum : t.dummies = #[]
  size : l.length = hs.length
  srt : Srt l
  le : ∀ j ∈ l, j ≤ t.mask
  fill : l.length ≤ t.mask
  met : ∀ (i j : Nat) (h : Int), l[i]? = some j → hs[i]? = some h → ∃ n, at_ t.mask h n = j ∧ ∀ k, k < n → at_ t.mask h k ∈ l
theorem range_len : ∀ (n : Nat) (l : List Nat), (∀ j, j < n → j ∈ l) → n ≤ l.length
  | 0, _, _ => Nat.zero_le _
  | n + 1, l, h => by
    have h1 := range_len n (l.erase n) (fun j hj => (List.mem_erase_of_ne (by omega)).mpr (h j (by omega)))
    have h2 := h n (by omega)
    rw [List.length_erase_of_mem h2] at h1
    have h3 := List.length_pos_of_mem h2
    omega
theorem some_free {l : List Nat} {m : Nat} (h : l.length ≤ m) : ∃ j, j < m + 1 ∧ j ∉ l := by
  by_cases hx : ∃ j, j < m + 1 ∧ j ∉ l
  · exact hx
  · exfalso
    have hall : ∀ j, j < m + 1 → j ∈ l := fun j hj => Classical.byContradiction fun hn => hx ⟨j, hj, hn⟩
    have := range_len (m + 1) l hall
    omega
theorem Lain.search {t : SetTable} {l : List Nat} {hs : List Int} (L : Lain t l hs) (hashAt : Nat → Int) (ha : ∀ (i : Nat) (h : Int), hs[i]? = some h → hashAt i = h) (h : Int) (n0 : Nat) :
    ∃ n, n0 ≤ n ∧ (∀ k, n0 ≤ k → k < n → ∃ i : Nat, l[i]? = some (at_ t.mask h k) ∧ hs[i]? ≠ some h) ∧
      ((at_ t.mask h n ∉ l ∧ t.probe hashAt h (wlk t.mask n0 (st t.mask h)) = some (.empty (at_ t.mask h n) none)) ∨
       (∃ i : Nat, l[i]? = some (at_ t.mask h n) ∧ hs[i]? = some h ∧ t.probe hashAt h (wlk t.mask n0 (st t.mask h)) = some (.candidate (at_ t.mask h n) i (wlk t.mask (n + 1) (st t.mask h))))) := by
  obtain ⟨j, hj, hjl⟩ := some_free L.fill
  obtain ⟨nf, hf, ef⟩ := hits L.full (p := wlk t.mask n0 (st t.mask h)) (wlk_more _ _ (st_more _ _)) (wlk_perturb _ _ (st_perturb _ _)) hj
  obtain ⟨n, _, h1, h2⟩ := probe_go (t := t) (slot_not_dummy L.place L.nodum L.srt) hashAt h (10 * turns t.mask) (wlk t.mask n0 (st t.mask h)) ⟨nf, hf, by rw [ef]; exact slot_empty L.place L.nodum hjl⟩
  have ew : ∀ k, (wlk t.mask k (wlk t.mask n0 (st t.mask h))).j = at_ t.mask h (n0 + k) := fun k => by unfold at_; rw [wlk_add]
  refine ⟨n0 + n, by omega, ?_, ?_⟩
  · intro k hk1 hk2
    obtain ⟨i, g1, g2⟩ := h1 (k - n0) (by omega)
    rw [ew, show n0 + (k - n0) = k by omega] at g1
    exact ⟨i, slot_of_live L.place L.nodum L.srt g1, fun e => g2 (ha i h e)⟩
  · rcases h2 with ⟨a, b⟩ | ⟨i, a, b, c⟩
    · rw [ew] at a b
      exact .inl ⟨slot_of_empty L.place L.srt a, by rw [SetTable.probe, b, wlk_dummy]; rfl⟩
    · rw [ew] at a c
      have hi := slot_of_live L.place L.nodum L.srt a
      refine .inr ⟨i, hi, ?_, ?_⟩
      · have hlt : i < hs.length := by rw [← L.size]; exact (List.getElem?_eq_some_iff.mp hi).1
        have e := ha i _ (List.getElem?_eq_getElem hlt)
        rw [List.getElem?_eq_getElem hlt, ← e, b]
      · rw [SetTable.probe, c, ← wlk_add, show n0 + (n + 1) = n0 + n + 1 by omega]
theorem Lain.ahead {t : SetTable} {l : List Nat} {hs : List Int} (L : Lain t l hs) {h : Int} {n : Nat} (hn : at_ t.mask h n ∉ l) {i : Nat} (hi : hs[i]? = some h) : ∃ k, k < n ∧ l[i]? = some (at_ t.mask h k) := by
  have hlt : i < l.length := by rw [L.size]; exact (List.getElem?_eq_some_iff.mp hi).1
  obtain ⟨k, h1, h2⟩ := L.met i _ h (List.getElem?_eq_getElem hlt) hi
  refine ⟨k, ?_, by rw [h1]; exact List.getElem?_eq_getElem hlt⟩
  rcases Nat.lt_trichotomy k n with g | g | g
  · exact g
  · subst g; exact absurd (h1 ▸ List.getElem_mem hlt) hn
  · exact absurd (h2 n g) hn
end L2
namespace L2
open PySem PySem.SetTable
theorem mem_ins {α : Type} {l : List α} {p : Nat} {x y : α} : y ∈ l.take p ++ x :: l.drop p ↔ y = x ∨ y ∈ l := by
  rw [List.mem_append, List.mem_cons]
  constructor
  · rintro (h | h | h)
    · exact .inr (List.mem_of_mem_take h)
    · exact .inl h
    · exact .inr (List.mem_of_mem_drop h)
  · rintro (h | h)
    · exact .inr (.inl h)
    · rw [← List.take_append_drop p l, List.mem_append] at h
      rcases h with h | h
      · exact .inl h
      · exact .inr (.inr h)
theorem get_ins {α : Type} {l : List α} {p : Nat} (hp : p ≤ l.length) (x : α) (i : Nat) : (l.take p ++ x :: l.drop p)[i]? = if i < p then l[i]? else if i = p then some x else l[i - 1]? := by
  have ht : (l.take p).length = p := by rw [List.length_take]; omega
  by_cases h1 : i < p
  · rw [if_pos h1, List.getElem?_append_left (by omega), List.getElem?_take, if_pos h1]
  · rw [if_neg h1, List.getElem?_append_right (by omega), ht]
    by_cases h2 : i = p
    · rw [if_pos h2, h2, Nat.sub_self]; rfl
    · rw [if_neg h2, show i - p = (i - p - 1) + 1 by omega, List.getElem?_cons_succ, List.getElem?_drop]
      congr 1; omega
theorem Lain.put {t : SetTable} {l : List Nat} {hs : List Int} (L : Lain t l hs) {h : Int} {n : Nat} (hn : at_ t.mask h n ∉ l) (hk : ∀ k, k < n → at_ t.mask h k ∈ l) (hm : l.length + 1 ≤ t.mask) :
    ∃ p, p ≤ l.length ∧ (t.put (at_ t.mask h n)).2 = p ∧ Lain (t.put (at_ t.mask h n)).1 (l.take p ++ at_ t.mask h n :: l.drop p) (hs.take p ++ h :: hs.drop p) ∧ (t.put (at_ t.mask h n)).1.mask = t.mask ∧ (t.put (at_ t.mask h n)).1.led = t.led ∧ (t.put (at_ t.mask h n)).1.plain = t.plain ∧ (t.put (at_ t.mask h n)).1.moves = t.moves := by
  have hb := (below_spec L.srt (at_ t.mask h n)).1
  have hp2 : (t.put (at_ t.mask h n)).2 = below l.toArray (at_ t.mask h n) := by unfold SetTable.put; rw [L.place]
  have hp1 : (t.put (at_ t.mask h n)).1 = { t with place := (l.take (below l.toArray (at_ t.mask h n)) ++ at_ t.mask h n :: l.drop (below l.toArray (at_ t.mask h n))).toArray } := by
    unfold SetTable.put
    show ({ t with place := _, dummies := _ } : SetTable) = _
    rw [L.place, L.nodum, insertAt_list _ _ _ hb, if_neg (by simp [has, below, below.go])]
  refine ⟨below l.toArray (at_ t.mask h n), hb, hp2, ?_, by rw [hp1], by rw [hp1], by rw [hp1], by rw [hp1]⟩
  rw [hp1]
  have hbh : below l.toArray (at_ t.mask h n) ≤ hs.length := by rw [← L.size]; exact hb
  refine ⟨L.full, rfl, L.nodum, ?_, srt_ins L.srt hn, ?_, ?_, ?_⟩
  · simp only [List.length_append, List.length_cons, List.length_take, List.length_drop, L.size]
  · intro j hj
    rcases mem_ins.mp hj with rfl | hj
    · exact at_le _ _ _
    · exact L.le j hj
  · simp only [List.length_append, List.length_cons, List.length_take, List.length_drop]
    show _ ≤ t.mask; omega
  · intro i j h' hi hj
    rw [get_ins hb] at hi
    rw [get_ins hbh] at hj
    by_cases g1 : i < below l.toArray (at_ t.mask h n)
    · rw [if_pos g1] at hi hj
      obtain ⟨m, h1, h2⟩ := L.met i j h' hi hj
      exact ⟨m, h1, fun k hk => mem_ins.mpr (.inr (h2 k hk))⟩
    · rw [if_neg g1] at hi hj
      by_cases g2 : i = below l.toArray (at_ t.mask h n)
      · rw [if_pos g2] at hi hj
        cases hi; cases hj
        exact ⟨n, rfl, fun k hk' => mem_ins.mpr (.inr (hk k hk'))⟩
      · rw [if_neg g2] at hi hj
        obtain ⟨m, h1, h2⟩ := L.met (i - 1) j h' hi hj
        exact ⟨m, h1, fun k hk => mem_ins.mpr (.inr (h2 k hk))⟩
theorem Lain.plain {t : SetTable} {l : List Nat} {hs : List Int} (L : Lain t l hs) (b : Bool) : Lain { t with plain := b } l hs := ⟨L.full, L.place, L.nodum, L.size, L.srt, L.le, L.fill, L.met⟩
theorem Lain.fresh (f m : Nat) (b : Bool) : Lain (.fresh f m b) [] [] := ⟨full7, rfl, rfl, rfl, List.Pairwise.nil, fun j h => absurd h (by simp), Nat.zero_le _, fun i j h hi => absurd hi (by simp)⟩
theorem run_at (m : Nat) : ∀ (k : Nat) (p : Probe), k ≤ p.more → (wlk m k p).j = p.j + k ∧ (wlk m k p).more = p.more - k ∧ (wlk m k p).i = p.i ∧ (wlk m k p).perturb = p.perturb
  | 0, p, _ => ⟨rfl, rfl, rfl, rfl⟩
  | k + 1, p, h => by
    rw [wlk, adv_more_pos (by omega)]
    obtain ⟨h1, h2, h3, h4⟩ := run_at m k { p with j := p.j + 1, more := p.more - 1 } (by show k ≤ p.more - 1; omega)
    refine ⟨h1.trans ?_, h2.trans ?_, h3, h4⟩
    · show p.j + 1 + k = p.j + (k + 1); omega
    · show p.more - 1 - k = p.more - (k + 1); omega
theorem free_at (m : Nat) (owner : Array (Option Nat)) (ho : owner.size = m + 1) : ∀ (fuel : Nat) (p : Probe), p.j = p.i → p.more = runEnd m p.i - p.i → p.j + p.more ≤ m →
    (∃ a, a < fuel ∧ owner[(lps m a (p.i, p.perturb)).1]? = some none) →
    ∃ n, layClean.free m owner fuel p.i p.perturb = some (wlk m n p).j ∧ owner[(wlk m n p).j]? = some none ∧ ∀ k, k < n → ∃ w, owner[(wlk m k p).j]? = some (some w)
  | 0, _, _, _, _, ⟨_, h, _⟩ => absurd h (by omega)
  | fuel + 1, p, hj, hmore, hle, ⟨a, ha, hf⟩ => by
    have hlen : runEnd m p.i + 1 - p.i = p.more + 1 := by rw [hmore]; unfold runEnd; split <;> omega
    unfold layClean.free
    rw [hlen]
    have hget : ∀ k, k ≤ p.more → ∃ w, owner[(wlk m k p).j]? = some w ∧ owner.getD (p.i + k) (some 0) = w := by
      intro k hk
      obtain ⟨e1, _⟩ := run_at m k p hk
      have hlt : p.i + k < owner.size := by rw [ho]; omega
      refine ⟨owner[p.i + k], ?_, ?_⟩
      · rw [e1, hj]; exact Array.getElem?_eq_getElem hlt
      · simp [Array.getD, hlt]
    cases hfd : (List.range (p.more + 1)).find? (fun k => (owner.getD (p.i + k) (some 0)).isNone) with
    | some k =>
      rw [List.find?_range_eq_some] at hfd
      obtain ⟨h1, h2, h3⟩ := hfd
      have hk : k ≤ p.more := by have := List.mem_range.mp h2; omega
      refine ⟨k, ?_, ?_, ?_⟩
      · obtain ⟨e1, _⟩ := run_at m k p hk
        show some (p.i + k) = _
        rw [e1, hj]
      · obtain ⟨w, g1, g2⟩ := hget k hk
        rw [g1]
        rw [g2] at h1
        cases w with
        | none => rfl
        | some w => cases h1
      · intro k' hk'
        obtain ⟨w, g1, g2⟩ := hget k' (by omega)
        have := h3 k' hk'
        rw [g2] at this
        cases w with
        | none => simp at this
        | some w => exact ⟨w, g1⟩
    | none =>
      rw [List.find?_eq_none] at hfd
      have hall : ∀ k, k ≤ p.more → ∃ w, owner[(wlk m k p).j]? = some (some w) := by
        intro k hk
        obtain ⟨w, g1, g2⟩ := hget k hk
        have := hfd k (List.mem_range.mpr (by omega))
        rw [g2] at this
        cases w with
        | none => simp at this
        | some w => exact ⟨w, g1⟩
      have hq : ∃ q, wlk m (p.more + 1) p = q ∧ q.i = (lp m (p.i, p.perturb)).1 ∧ q.perturb = (lp m (p.i, p.perturb)).2 ∧ q.j = q.i ∧ q.more = runEnd m q.i - q.i ∧ q.j + q.more ≤ m := by
        obtain ⟨e1, e2, e3, e4⟩ := run_at m p.more p (Nat.le_refl _)
        refine ⟨_, rfl, ?_⟩
        rw [wlk_succ, adv_more_zero (by omega), e3, e4]
        refine ⟨rfl, rfl, rfl, rfl, ?_⟩
        have hl : (lp m (p.i, p.perturb)).1 < m + 1 := Nat.mod_lt _ (Nat.succ_pos _)
        show (lp m (p.i, p.perturb)).1 + (runEnd m (lp m (p.i, p.perturb)).1 - (lp m (p.i, p.perturb)).1) ≤ m
        unfold runEnd; split <;> omega
      obtain ⟨q, hq0, hq1, hq2, hq3, hq4, hq5⟩ := hq
      have hne : a ≠ 0 := by
        intro e
        subst e
        obtain ⟨w, hw⟩ := hall 0 (Nat.zero_le _)
        have e2 : (wlk m 0 p).j = (lps m 0 (p.i, p.perturb)).1 := hj
        rw [e2, hf] at hw; cases hw
      obtain ⟨a', rfl⟩ : ∃ a', a = a' + 1 := ⟨a - 1, by omega⟩
      obtain ⟨n, g1, g2, g3⟩ := free_at m owner ho fuel q hq3 hq4 hq5 ⟨a', by omega, by rw [hq1, hq2]; exact hf⟩
      refine ⟨p.more + 1 + n, ?_, ?_, ?_⟩
      · rw [wlk_add, hq0, ← g1, hq1, hq2]; rfl
      · rw [wlk_add, hq0]; exact g2
      · intro k hk
        by_cases g : k ≤ p.more
        · exact hall k g
        · obtain ⟨w, hw⟩ := g3 (k - (p.more + 1)) (by omega)
          refine ⟨w, ?_⟩
          rw [← hw, ← hq0, ← wlk_add, show p.more + 1 + (k - (p.more + 1)) = k by omega]
end L2
namespace L2
open PySem PySem.SetTable
structure Own (m : Nat) (H : List Int) (owner : Array (Option Nat)) (k : Nat) : Prop where
  size : owner.size = m + 1
  met : ∀ (j w : Nat), owner[j]? = some (some w) → w < k ∧ ∃ h, H[w]? = some h ∧ ∃ n, at_ m h n = j ∧ ∀ k', k' < n → ∃ w', owner[at_ m h k']? = some (some w')
  all : ∀ w, w < k → ∃ j : Nat, owner[j]? = some (some w)
  cnt : owner.toList.countP Option.isSome = k
theorem Own.zero (m : Nat) (H : List Int) : Own m H (Array.replicate (m + 1) none) 0 := by
  refine ⟨by simp, ?_, fun w hw => absurd hw (by omega), ?_⟩
  · intro j w h
    rw [Array.getElem?_replicate] at h
    split at h <;> simp at h
  · simp [List.countP_replicate]
theorem Own.free {m : Nat} {H : List Int} {owner : Array (Option Nat)} {k : Nat} (O : Own m H owner k) (hk : k < m + 1) : ∃ j, j < m + 1 ∧ owner[j]? = some none := by
  by_cases hx : ∃ j, j < m + 1 ∧ owner[j]? = some none
  · exact hx
  · exfalso
    have hall : ∀ x ∈ owner.toList, Option.isSome x = true := by
      intro x hx'
      obtain ⟨j, hj, e⟩ := List.mem_iff_getElem.mp hx'
      cases x with
      | some w => rfl
      | none =>
        have hj' : j < owner.size := by simpa using hj
        exact absurd ⟨j, by rw [← O.size]; exact hj', by rw [Array.getElem?_eq_getElem hj']; simpa using e⟩ hx
    have h1 := List.countP_eq_length.mpr hall
    rw [O.cnt, Array.length_toList, O.size] at h1
    omega
theorem Own.step {m : Nat} (F : Full m) {H : List Int} {owner : Array (Option Nat)} {k : Nat} (O : Own m H owner k) (hk : k < m + 1) {h : Int} (hh : H[k]? = some h) :
    ∃ j, layClean.free m owner (turns m) (bits h % (m + 1)) (bits h) = some j ∧ Own m H (owner.setIfInBounds j (some k)) (k + 1) := by
  obtain ⟨j, hj, hf⟩ := O.free hk
  obtain ⟨c, hc, ec⟩ := F (lps m 13 ((st m h).i, (st m h).perturb)).1 (lps_lt m 12 _) j hj
  have z : (lps m 13 ((st m h).i, (st m h).perturb)).2 = 0 := by
    rw [lps_perturb]
    exact Nat.div_eq_of_lt (Nat.lt_of_lt_of_le (st_perturb m h) (by decide))
  have e : (lps m (13 + c) ((st m h).i, (st m h).perturb)).1 = j := by
    rw [lps_add]
    have e2 : lps m 13 ((st m h).i, (st m h).perturb) = ((lps m 13 ((st m h).i, (st m h).perturb)).1, 0) := Prod.ext rfl z
    rw [e2, lps_zero]; exact ec
  obtain ⟨n, g1, g2, g3⟩ := free_at m owner O.size (turns m) (st m h) rfl rfl (st_le m h) ⟨13 + c, by unfold turns; omega, by rw [e]; exact hf⟩
  have hb : at_ m h n < owner.size := by rw [O.size]; have := at_le m h n; omega
  have keep : ∀ (i w : Nat), owner[i]? = some (some w) → (owner.setIfInBounds (at_ m h n) (some k))[i]? = some (some w) := by
    intro i w hi
    rw [Array.getElem?_setIfInBounds]
    split
    · rename_i e2
      subst e2
      exact absurd (hi.symm.trans g2) (by simp)
    · exact hi
  have new : (owner.setIfInBounds (at_ m h n) (some k))[at_ m h n]? = some (some k) := by rw [Array.getElem?_setIfInBounds]; simp [hb]
  refine ⟨at_ m h n, g1, by simp [O.size], ?_, ?_, ?_⟩
  · intro i w hi
    rw [Array.getElem?_setIfInBounds] at hi
    split at hi
    · rename_i e2
      subst e2
      cases hi
      exact ⟨by omega, h, hh, n, rfl, fun k' hk' => (g3 k' hk').elim fun w' hw' => ⟨w', keep _ _ hw'⟩⟩
    · obtain ⟨h1, h', h2, n', h3, h4⟩ := O.met i w hi
      exact ⟨by omega, h', h2, n', h3, fun k' hk' => (h4 k' hk').elim fun w' hw' => ⟨w', keep _ _ hw'⟩⟩
  · intro w hw
    by_cases g : w = k
    · exact ⟨at_ m h n, by rw [g]; exact new⟩
    · obtain ⟨i, hi⟩ := O.all w (by omega)
      exact ⟨i, keep i w hi⟩
  · rw [Array.toList_setIfInBounds, List.countP_set (by simpa using hb), O.cnt]
    have e3 : owner.toList[at_ m h n]'(by simpa using hb) = none := by
      have := (Array.getElem?_eq_getElem hb).symm.trans g2
      simpa using this
    rw [e3]; simp
theorem Own.fold {m : Nat} (F : Full m) {H : List Int} : ∀ (rest : List Int) (owner : Array (Option Nat)) (k : Nat), Own m H owner k → H.drop k = rest → H.length ≤ m + 1 → k ≤ H.length →
    ∃ owner', rest.foldl (fun (acc : Option (Array (Option Nat) × Nat)) h => do
      let (owner, k) ← acc
      let j ← layClean.free m owner (turns m) (bits h % (m + 1)) (bits h)
      pure (owner.setIfInBounds j (some k), k + 1)) (some (owner, k)) = some (owner', H.length) ∧ Own m H owner' H.length
  | [], owner, k, O, hd, _, hk => by
    have : H.length ≤ k := by simpa using hd
    have e : k = H.length := by omega
    subst e
    exact ⟨owner, rfl, O⟩
  | h :: rest, owner, k, O, hd, hl, hk => by
    have hh : H[k]? = some h := by
      have := congrArg (·[0]?) hd
      simpa using this
    have hlt : k < H.length := (List.getElem?_eq_some_iff.mp hh).1
    obtain ⟨j, e1, O2⟩ := O.step F (by omega) hh
    obtain ⟨owner', e2, O3⟩ := Own.fold F rest _ (k + 1) O2 (by rw [← List.drop_drop, hd]; rfl) hl (by omega)
    refine ⟨owner', ?_, O3⟩
    rw [List.foldl_cons, ← e2]
    congr 1
    show (layClean.free m owner (turns m) (bits h % (m + 1)) (bits h)).bind _ = _
    rw [e1]; rfl
theorem laid_spec {m : Nat} (F : Full m) (H : List Int) (hl : H.length ≤ m) (f mv : Nat) (led plain : Bool) :
    ∃ (t : SetTable) (l ws : List Nat), SetTable.laid m f mv led plain H.toArray = some (t, ws.toArray) ∧ Lain t l (ws.map (H.getD · 0)) ∧ (∀ w ∈ ws, w < H.length) ∧ (∀ w, w < H.length → w ∈ ws) ∧ ws.length = H.length ∧ t.mask = m ∧ t.led = led ∧ t.plain = plain := by
  obtain ⟨owner, e, O⟩ := Own.fold F H _ 0 (Own.zero m H) rfl (by omega) (Nat.zero_le _)
  have ec : layClean m H.toArray = some owner := by
    unfold layClean
    rw [← Array.foldl_toList]
    show Option.map _ (List.foldl _ _ H) = _
    exact (congrArg (Option.map (·.1)) e).trans rfl
  let live := (List.range (m + 1)).filterMap fun j => (owner.getD j none).map (j, ·)
  have gd : ∀ (j w : Nat), owner.getD j none = some w ↔ owner[j]? = some (some w) := by
    intro j w
    by_cases hj : j < owner.size
    · rw [Array.getElem?_eq_getElem hj]; simp [Array.getD, hj]
    · rw [Array.getElem?_eq_none (by omega)]; simp [Array.getD, hj]
  have hmem : ∀ (j w : Nat), (j, w) ∈ live ↔ owner[j]? = some (some w) := by
    intro j w
    show (j, w) ∈ (List.range (m + 1)).filterMap _ ↔ _
    rw [List.mem_filterMap]
    constructor
    · rintro ⟨j', _, h2⟩
      obtain ⟨w', h3, h4⟩ := Option.map_eq_some_iff.mp h2
      cases h4
      exact (gd _ _).mp h3
    · intro h
      refine ⟨j, List.mem_range.mpr ?_, by rw [(gd j w).mpr h]; rfl⟩
      have := (Array.getElem?_eq_some_iff.mp h).1
      rw [O.size] at this; exact this
  have hsrt : Srt (live.map (·.1)) := by
    unfold Srt
    rw [List.pairwise_map]
    refine List.Pairwise.filterMap _ ?_ List.pairwise_lt_range
    intro a a' haa b hb b' hb'
    obtain ⟨_, _, h3⟩ := Option.map_eq_some_iff.mp hb
    obtain ⟨_, _, h4⟩ := Option.map_eq_some_iff.mp hb'
    rw [← h3, ← h4]; exact haa
  have hlen : live.length = H.length := by
    have gen : ∀ (xs : List Nat), (xs.filterMap fun j => (owner.getD j none).map (j, ·)).length = (xs.map fun j => owner.getD j none).countP Option.isSome := by
      intro xs
      induction xs with
      | nil => rfl
      | cons x xs ih =>
        rw [List.filterMap_cons, List.map_cons, List.countP_cons]
        cases owner.getD x none with
        | none => simpa using ih
        | some w => simpa using ih
    have el : (List.range (m + 1)).map (fun j => owner.getD j none) = owner.toList := by
      apply List.ext_getElem?
      intro i
      by_cases hi : i < m + 1
      · have hi' : i < owner.size := by rw [O.size]; exact hi
        rw [List.getElem?_map, List.getElem?_range hi]
        simp [Array.getD, hi']
      · rw [List.getElem?_eq_none (by simp; omega), List.getElem?_eq_none (by simp [O.size]; omega)]
    show ((List.range (m + 1)).filterMap _).length = _
    rw [gen, el, O.cnt]
  refine ⟨{ mask := m, place := (live.map (·.1)).toArray, dummies := #[], finger := f, led := led, moves := mv, plain := plain }, live.map (·.1), live.map (·.2), ?_, ?_, ?_, ?_, ?_, rfl, rfl, rfl⟩
  · unfold SetTable.laid
    rw [ec]; rfl
  · refine ⟨F, rfl, rfl, by simp, hsrt, ?_, ?_, ?_⟩
    · intro j hj
      obtain ⟨⟨j', w⟩, h1, h2⟩ := List.mem_map.mp hj
      cases h2
      have := (Array.getElem?_eq_some_iff.mp ((hmem _ _).mp h1)).1
      rw [O.size] at this
      show j' ≤ m; omega
    · show (live.map (·.1)).length ≤ m
      rw [List.length_map, hlen]; exact hl
    · intro i j h hi hj
      rw [List.getElem?_map] at hi
      rw [List.map_map, List.getElem?_map] at hj
      cases hx : live[i]? with
      | none => rw [hx] at hi; cases hi
      | some x =>
        rw [hx] at hi hj
        obtain ⟨j', w⟩ := x
        cases hi
        obtain ⟨h1, h', h2, n, h3, h4⟩ := O.met j' w ((hmem _ _).mp (List.mem_of_getElem? hx))
        have eh : h = h' := by
          have e5 : H.getD w 0 = h := by simpa using hj
          rw [List.getD_eq_getElem?_getD, h2] at e5
          exact e5.symm
        subst eh
        refine ⟨n, h3, fun k hk => ?_⟩
        obtain ⟨w', hw'⟩ := h4 k hk
        exact List.mem_map.mpr ⟨(_, w'), (hmem _ _).mpr hw', rfl⟩
  · intro w hw
    obtain ⟨⟨j', w'⟩, h1, h2⟩ := List.mem_map.mp hw
    cases h2
    exact (O.met j' w' ((hmem _ _).mp h1)).1
  · intro w hw
    obtain ⟨j, hj⟩ := O.all w hw
    exact List.mem_map.mpr ⟨(j, w), (hmem _ _).mpr hj, rfl⟩
  · rw [List.length_map, hlen]
end L2
namespace L2
open PySem PySem.Spec PyProof.Rows
mutual
def hkP : Nat → PyData → Bool
  | _, .int _ => true
  | _, .str _ => true
  | 0, .tuple _ => false
  | n + 1, .tuple xs => hkPs n xs
  | _, _ => false
def hkPs : Nat → List PyData → Bool
  | _, [] => true
  | n, x :: xs => hkP n x && hkPs n xs
end
mutual
def hashP (w : World) : PyData → Int
  | .int i => hashInt i
  | .str x => hashStr w x
  | .tuple xs => reduceHash (Builtin.Tuple.tupleHashOf (hashPs w xs))
  | _ => 0
def hashPs (w : World) : List PyData → List Int
  | [] => []
  | x :: xs => hashP w x :: hashPs w xs
end
section
variable {prog : Program} {w : World} {E : Value → Shared → Prop}
set_option maxRecDepth 100000 in
mutual
theorem hash_rd : ∀ (n : Nat) (d : PyData) (v : Value) (A : Around) (s : Shared) (Q : Int → Shared → Prop) (as : List Addr), hkP n d = true → Reads s.heap v d as → A.units + n < cLine → (∀ tk, Q (hashP w d) { s with toks := tk }) → wpAny (model prog w) A (pyHash v) Q E s
  | n, .int i, v, A, s, Q, as, _, r, hu, h => by
    cases r
    exact wpAny_pyHash_int (by rw [hashP] at h; exact h _)
  | n, .str y, v, A, s, Q, as, _, r, hu, h => by
    cases r
    exact wpAny_pyHash_str (by rw [hashP] at h; exact h _)
  | n + 1, .tuple xs, v, A, s, Q, as, hk, r, hu, h => by
    cases r with
    | @tuple a o vs m _ _ ho hc hd ra =>
      refine PySem.W.pyHash_slot (T := "tuple") ⟨_, ho, hc⟩ F.slot_tuple_hash F.entry_tuple_hash (F.args_tuple_hash_1 _) (beq_builtin_none _) (.inr (by omega)) ?_
      refine wpAny_bind (m := Builtin.Tuple.tupleItemsOf (.ref a)) (wpAny_tupleItemsOf ho hd (wpAny_bind ?_)); rw [← Array.forIn_toList]
      refine hash_rds n xs vs.toList A.in1 s #[] _ _ (by rw [hkP] at hk; exact hk) ra (by rw [Around.in1_units]; omega) fun tk b hb => ?_
      refine (show wpAny _ _ (retInt (Builtin.Tuple.tupleHashOf b.toList)) _ _ _ from ?_); rw [hb]
      rw [hashP] at h; exact wpAny_bind (wpAny_mkInt (wpAny_pure ⟨_, _, rfl, h _⟩))
  | 0, .tuple xs, v, A, s, Q, as, hk, r, hu, h => by rw [hkP] at hk; cases hk
  | n, .none, v, A, s, Q, as, hk, r, hu, h => by cases n <;> (rw [hkP] at hk; cases hk; all_goals simp)
  | n, .bool _, v, A, s, Q, as, hk, r, hu, h => by cases n <;> (rw [hkP] at hk; cases hk; all_goals simp)
  | n, .list _, v, A, s, Q, as, hk, r, hu, h => by cases n <;> (rw [hkP] at hk; cases hk; all_goals simp)
  | n, .dict _, v, A, s, Q, as, hk, r, hu, h => by cases n <;> (rw [hkP] at hk; cases hk; all_goals simp)
theorem hash_rds : ∀ (n : Nat) (ds : List PyData) (vs : List Value) (A : Around) (s : Shared) (b : Array Int) (Q : Array Int → Shared → Prop) (as : List Addr), hkPs n ds = true → ReadsAll s.heap vs ds as → A.units + n < cLine →
    (∀ tk b', b'.toList = b.toList ++ hashPs w ds → Q b' { s with toks := tk }) → wpAny (model prog w) A (forIn vs b fun x r => do let h ← pyHash x; pure PUnit.unit; pure (ForInStep.yield (r.push h))) Q E s
  | n, [], _, A, s, b, Q, _, _, .nil, _, h => wpAny_pure (h s.toks b (by rw [hashPs, List.append_nil]))
  | n, d :: ds, _, A, s, b, Q, _, hk, .cons r rr, hu, h => by
    rw [hkPs, Bool.and_eq_true] at hk
    rw [List.forIn_cons]
    refine wpAny_bind (wpAny_bind (hash_rd n d _ A s _ _ hk.1 r hu fun tk => ?_))
    refine wpAny_bind (wpAny_pure (wpAny_pure ?_))
    exact hash_rds n ds _ A _ _ Q _ hk.2 rr hu fun tk' b' hb => h tk' b' (by rw [hb, hashPs]; simp)
end
end
section
variable {prog : Program} {w : World} {A : Around} {E : Value → Shared → Prop}
theorem hk_val {n : Nat} {d : PyData} {v : Value} {h : Heap} {as : List Addr} (hk : hkP n d = true) (r : Reads h v d as) : carriedByValue v = true ∨ ∃ a o vs m xs k, v = .ref a ∧ n = k + 1 ∧ d = .tuple xs ∧ h.get? a = some o ∧ o.cls = .type "tuple" ∧ o.data = .seq vs m ∧ ReadsAll h vs.toList xs as ∧ hkPs k xs = true := by
  cases r with
  | int i t => exact .inl rfl
  | str x t => exact .inl rfl
  | none => exact .inl rfl
  | bool b => exact .inl rfl
  | tuple ho hc hd ra =>
    cases n with
    | zero => rw [hkP] at hk; cases hk
    | succ k => exact .inr ⟨_, _, _, _, _, k, rfl, rfl, rfl, ho, hc, hd, ra, by rw [hkP] at hk; exact hk⟩
  | list ho hc hd ra => exfalso; cases n <;> simp [hkP] at hk
  | dict ho hc hd ra rb => exfalso; cases n <;> simp [hkP] at hk
inductive AllV (p : Value → Prop) : List Value → Prop
  | nil : AllV p []
  | cons {v : Value} {vs : List Value} : p v → AllV p vs → AllV p (v :: vs)
theorem rds_all {h : Heap} {n : Nat} : ∀ {vs : List Value} {ds : List PyData} {as : List Addr}, ReadsAll h vs ds as → hkPs n ds = true → AllV (fun v => ∃ d bs, hkP n d = true ∧ Reads h v d bs) vs
  | _, _, _, .nil, _ => .nil
  | _, _, _, .cons r rr, hk => by
    rw [hkPs, Bool.and_eq_true] at hk
    exact .cons ⟨_, _, hk.1, r⟩ (rds_all rr hk.2)
theorem quiet_rd : ∀ (n : Nat) {d : PyData} {v : Value} {s : Shared} {Q : Bool → Shared → Prop} {as : List Addr}, hkP n d = true → Reads s.heap v d as → Q true s → wpAny (model prog w) A (eqIsQuiet n v) Q E s := by
  intro n
  induction n with
  | zero =>
    intro d v s Q as hk r q
    rcases hk_val hk r with hv | ⟨_, _, _, _, _, k, _, e, _⟩
    · rw [eqIsQuiet_byValue _ hv]; exact wpAny_pure q
    · cases e
  | succ n ih =>
    intro d v s Q as hk r q
    rcases hk_val hk r with hv | ⟨a, o, vs, m, xs, k, rfl, e, rfl, ho, hc, hd, ra, hks⟩
    · rw [eqIsQuiet_byValue _ hv]; exact wpAny_pure q
    · cases e
      have ty : s.TypeIs (.ref a) "tuple" := ⟨o, ho, hc⟩
      unfold eqIsQuiet; refine wpAny_bind (wpAny_specialOf ty F.slot_tuple_eq.lookup ?_)
      refine (show wpAny _ _ (isInstance (.ref a) (.type "tuple") >>= _) _ _ s from wpAny_bind (wpAny_isInstance ty isSubtype_tuple_tuple ?_)); simp only [Bool.not_true, Bool.false_eq_true, if_false]
      refine wpAny_bind (wpAny_seqItems ho hd (wpAny_bind ?_)); rw [Option.getD_some, ← Array.forIn_toList]
      refine wpAny_forIn_list _ (fun rest z s' => z.1 = none ∧ s' = s ∧ AllV (fun v => ∃ d bs, hkP n d = true ∧ Reads s.heap v d bs) rest) _ ?_ ?_ _ _ ⟨rfl, rfl, rds_all ra hks⟩
      · rintro v rest z s' ⟨_, rfl, al⟩
        cases al with
        | cons p al =>
          obtain ⟨d', bs, p1, p2⟩ := p
          refine wpAny_bind (ih p1 p2 ?_); simp only [Bool.not_true, Bool.false_eq_true, if_false]
          exact wpAny_pure ⟨rfl, rfl, al⟩
      · rintro ⟨z1, z2⟩ s' ⟨hz, rfl, _⟩
        cases (show z1 = none from hz)
        exact wpAny_pure q
theorem byvalue_any (n : Nat) {v : Value} (h : carriedByValue v = true) : ∃ b, hashByValue n v = pure b := by
  cases v with
  | ref a => cases h
  | _ => exact ⟨_, by cases n <;> (unfold hashByValue; rfl)⟩
theorem hbv_rd : ∀ (n m : Nat) {d : PyData} {v : Value} {s : Shared} {Q : Bool → Shared → Prop} {as : List Addr}, hkP n d = true → n ≤ m → Reads s.heap v d as → (∀ b, Q b s) → wpAny (model prog w) A (hashByValue m v) Q E s := by
  intro n
  induction n with
  | zero =>
    intro m d v s Q as hk _ r q
    rcases hk_val hk r with hv | ⟨_, _, _, _, _, k, _, e, _⟩
    · obtain ⟨b, e⟩ := byvalue_any m hv
      rw [e]; exact wpAny_pure (q b)
    · cases e
  | succ n ih =>
    intro m d v s Q as hk hm r q
    rcases hk_val hk r with hv | ⟨a, o, vs, m', xs, k, rfl, e, rfl, ho, hc, hd, ra, hks⟩
    · obtain ⟨b, e⟩ := byvalue_any m hv
      rw [e]; exact wpAny_pure (q b)
    · cases e
      obtain ⟨m, rfl⟩ : ∃ k, m = k + 1 := ⟨m - 1, by omega⟩
      have ty : s.TypeIs (.ref a) "tuple" := ⟨o, ho, hc⟩
      unfold hashByValue; refine wpAny_bind (wpAny_specialOf ty F.slot_tuple_hash.lookup ?_)
      refine (show wpAny _ _ (seqItems? (.ref a) >>= _) _ _ s from wpAny_bind (wpAny_seqItems ho hd (wpAny_bind ?_))); rw [Option.getD_some, ← Array.forIn_toList]
      refine wpAny_forIn_list _ (fun rest z s' => z.1 = none ∧ s' = s ∧ AllV (fun v => ∃ d bs, hkP n d = true ∧ Reads s.heap v d bs) rest) _ ?_ ?_ _ _ ⟨rfl, rfl, rds_all ra hks⟩
      · rintro v rest z s' ⟨_, rfl, al⟩
        cases al with
        | cons p al =>
          obtain ⟨d', bs, p1, p2⟩ := p
          refine wpAny_bind (ih m p1 (by omega) p2 fun b => ?_)
          cases b with
          | true =>
            simp only [Bool.not_true, Bool.false_eq_true, if_false]
            exact wpAny_pure ⟨rfl, rfl, al⟩
          | false =>
            simp only [Bool.not_false, if_true]
            exact wpAny_pure (wpAny_pure (q _))
      · rintro ⟨z1, z2⟩ s' ⟨hz, rfl, _⟩
        cases (show z1 = none from hz)
        exact wpAny_pure (q _)
theorem oac_byvalue (n : Nat) {v : Value} (h : carriedByValue v = true) : ofAClassStatement n v = pure false := by
  cases v with
  | ref a => cases h
  | _ => unfold ofAClassStatement; rfl
theorem oac_rd : ∀ (n : Nat) {d : PyData} {v : Value} {s : Shared} {Q : Bool → Shared → Prop} {as : List Addr}, hkP n d = true → Reads s.heap v d as → Q false s → wpAny (model prog w) A (ofAClassStatement n v) Q E s := by
  intro n
  induction n with
  | zero =>
    intro d v s Q as hk r q
    rcases hk_val hk r with hv | ⟨_, _, _, _, _, k, _, e, _⟩
    · rw [oac_byvalue _ hv]; exact wpAny_pure q
    · cases e
  | succ n ih =>
    intro d v s Q as hk r q
    rcases hk_val hk r with hv | ⟨a, o, vs, m, xs, k, rfl, e, rfl, ho, hc, hd, ra, hks⟩
    · rw [oac_byvalue _ hv]; exact wpAny_pure q
    · cases e
      have ty : s.TypeIs (.ref a) "tuple" := ⟨o, ho, hc⟩
      unfold ofAClassStatement; refine wpAny_bind (wpAny_typeOf ty ?_)
      dsimp only; rw [if_pos (by decide)]; refine wpAny_bind (wpAny_pure ?_); simp only [Bool.not_true, Bool.false_eq_true, if_false]
      refine wpAny_bind (wpAny_seqItems ho hd (wpAny_bind ?_)); rw [← Array.forIn_toList]
      refine wpAny_forIn_list _ (fun rest z s' => z.1 = none ∧ s' = s ∧ AllV (fun v => ∃ d bs, hkP n d = true ∧ Reads s.heap v d bs) rest) _ ?_ ?_ _ _ ⟨rfl, rfl, rds_all ra hks⟩
      · rintro v rest z s' ⟨_, rfl, al⟩
        cases al with
        | cons p al =>
          obtain ⟨d', bs, p1, p2⟩ := p
          refine wpAny_bind (ih p1 p2 ?_); simp only [Bool.false_eq_true, if_false]
          exact wpAny_pure ⟨rfl, rfl, al⟩
      · rintro ⟨z1, z2⟩ s' ⟨hz, rfl, _⟩
        cases (show z1 = none from hz)
        exact wpAny_pure q
theorem seen_rd {x : Value} {dx : PyData} {s : Shared} {as : List Addr} {Q : Bool → Shared → Prop} (hx : hkP 8 dx = true) (rx : Reads s.heap x dx as) {ys : List Value} (hy : ∀ y ∈ ys, ∃ d bs, hkP 8 d = true ∧ Reads s.heap y d bs) (q : Q false s) : wpAny (model prog w) A (searchCouldBeSeen x ys) Q E s := by
  unfold searchCouldBeSeen
  refine wpAny_bind (wpAny_forIn_list _ (fun rest z s' => z.1 = none ∧ s' = s ∧ ∀ y ∈ rest, ∃ d bs, hkP 8 d = true ∧ Reads s.heap y d bs) _ ?_ ?_ _ _ ⟨rfl, rfl, hy⟩)
  · rintro y rest z s' ⟨_, rfl, al⟩
    obtain ⟨d', bs, p1, p2⟩ := al y List.mem_cons_self
    have al' : ∀ y ∈ rest, ∃ d bs, hkP 8 d = true ∧ Reads s'.heap y d bs := fun u hu => al u (List.mem_cons_of_mem _ hu)
    dsimp only
    split
    all_goals split
    all_goals first
      | exact wpAny_pure ⟨rfl, rfl, al'⟩
      | (refine wpAny_bind (quiet_rd 8 hx rx ?_); simp only [Bool.not_true, Bool.false_eq_true, if_false]
         refine wpAny_bind (quiet_rd 8 p1 p2 ?_); simp only [Bool.not_true, Bool.false_eq_true, if_false]
         refine wpAny_bind (oac_rd 8 hx rx ?_); simp only [Bool.false_eq_true, if_false]
         refine wpAny_bind (oac_rd 8 p1 p2 ?_); simp only [Bool.false_eq_true, if_false]
         exact wpAny_pure ⟨rfl, rfl, al'⟩)
  · rintro ⟨z1, z2⟩ s' ⟨hz, rfl, _⟩
    cases (show z1 = none from hz)
    exact wpAny_pure q
end
end L2
namespace L2
open PySem PySem.Spec PyProof.Rows
open PySem.W (Dat kqdP kqdOk)
theorem Lain.search' {t : SetTable} {l : List Nat} {hs : List Int} (L : Lain t l hs) {hashAt : Nat → Int} {h : Int} {n0 : Nat} {p : SetTable.Probe} {r : Option SetTable.Met} (hr : t.probe hashAt h p = r) (hp : p = wlk t.mask n0 (st t.mask h)) (ha : ∀ (i : Nat) (h : Int), hs[i]? = some h → hashAt i = h) :
    ∃ n, n0 ≤ n ∧ (∀ k, n0 ≤ k → k < n → ∃ i : Nat, l[i]? = some (at_ t.mask h k) ∧ hs[i]? ≠ some h) ∧
      ((at_ t.mask h n ∉ l ∧ r = some (.empty (at_ t.mask h n) none)) ∨
       (∃ i : Nat, l[i]? = some (at_ t.mask h n) ∧ hs[i]? = some h ∧ r = some (.candidate (at_ t.mask h n) i (wlk t.mask (n + 1) (st t.mask h))))) := by
  subst hp; subst hr
  exact L.search hashAt ha h n0
theorem Lain.fits {t : SetTable} {l : List Nat} {hs : List Int} (L : Lain t l hs) {n : Nat} (e : hs.length = n) : t.fits n = true := by
  have h1 : t.place.size = n := by rw [L.place, ← e, ← L.size]; simp
  have h2 : t.fill ≤ t.mask := by
    unfold SetTable.fill; rw [L.place, L.nodum]
    have := L.fill
    simpa using this
  simp [SetTable.fits, h1, h2]
def Good (d : Dat) : Prop := kqdOk 8 d = true ∧ hkP 8 (kqdP d) = true ∧ ∃ xs, kqdP d = .tuple xs
section
variable {prog : Program} {w : World} {A : Around} {E : Value → Shared → Prop} {s : Shared}
open Classical in
theorem eq_rd {x y : Value} {d e : Dat} {as bs : List Addr} {Q : Bool → Shared → Prop} (gd : Good d) (ge : Good e) (rx : Reads s.heap x (kqdP d) as) (ry : Reads s.heap y (kqdP e) bs) (hu : A.units + 16 < cLine) (q : Q (decide (d = e)) s) : wpAny (model prog w) A (eqBool x y) Q E s := by
  have l1 := PySem.W.kqd_lay 8 d gd.1
  have l2 := PySem.W.kqd_lay 8 e ge.1
  refine SeqAt.eqBoolOverData prog w A E s x y _ _ as bs Q rx ry l1.1 l2.1 ?_ (by rw [eqv_dec gd.1 ge.1]; exact q)
  have := Nat.min_le_left (kqdP d).depth (kqdP e).depth
  omega
theorem rd_uniq {x : Value} {d e : Dat} {as bs : List Addr} {h : Heap} (gd : Good d) (ge : Good e) (rx : Reads h x (kqdP d) as) (ry : Reads h x (kqdP e) bs) : d = e := by
  have q := (Reads.unique rx _ _ ry).1
  exact (PySem.W.kqd_eqv 8 d e 8 gd.1 ge.1).mp (by rw [← q]; exact (PySem.W.kqd_eqv 8 d d 8 gd.1 gd.1).mpr rfl)
def Mb (w : World) (h : Heap) (e : Int × Value) (d : Dat) : Prop := Good d ∧ (∃ as, Reads h e.2 (kqdP d) as) ∧ e.1 = hashP w (kqdP d)
open Classical in
theorem search_rd {S : Addr} {o : Obj} {es : Array (Int × Value)} {ep : Nat} {t : SetTable} {l : List Nat} {x : Value} {d : Dat} {Q : SetFound → Shared → Prop} {nE : Nat} (ho : s.heap.get? S = some o) (hd : o.data = .set es ep t)
    (L : Lain t l (es.toList.map (·.1))) (hm : ∀ e ∈ es.toList, ∃ d, Mb w s.heap e d) (hg : t.gaveWay = false) (gx : Good d) {as : List Addr} (rx : Reads s.heap x (kqdP d) as) (hu : A.units + 16 < cLine)
    (hE : at_ t.mask (hashP w (kqdP d)) nE ∉ l) (q1 : (∃ e ∈ es.toList, Mb w s.heap e d) → Q (.there none) s)
    (q2 : ∀ n, at_ t.mask (hashP w (kqdP d)) n ∉ l → (∀ k, k < n → at_ t.mask (hashP w (kqdP d)) k ∈ l) → (∀ e ∈ es.toList, ¬ Mb w s.heap e d) → Q (.free (at_ t.mask (hashP w (kqdP d)) n) false) s) :
    ∀ (k n0 fuel : Nat) (stand : Option SetTable.Probe), nE - n0 = k → n0 ≤ nE → k < fuel → stand.getD (t.probeStart (hashP w (kqdP d))) = wlk t.mask n0 (st t.mask (hashP w (kqdP d))) → (∀ j, j < n0 → at_ t.mask (hashP w (kqdP d)) j ∈ l) →
      (∀ (j i : Nat) (e : Int × Value), j < n0 → l[i]? = some (at_ t.mask (hashP w (kqdP d)) j) → es.toList[i]? = some e → ¬ Mb w s.heap e d) →
      wpAny (model prog w) A (setSearchFrom S x (hashP w (kqdP d)) true fuel stand) Q E s := by
  have hf : t.fits es.size = true := L.fits (by simp)
  intro k
  induction k using Nat.strongRecOn with
  | _ k ih =>
  intro n0 fuel stand hk hn hfu hst hin hne
  obtain ⟨fuel, rfl⟩ : ∃ f, fuel = f + 1 := ⟨fuel - 1, by omega⟩
  unfold setSearchFrom
  refine wpAny_bind (wpAny_setState_of ho hd hf ?_); dsimp only; rw [hg]; simp only [Bool.false_eq_true, if_false]
  have go := fun (f : Nat → Int) (r : Option SetTable.Met) (hr : t.probe f (hashP w (kqdP d)) (stand.getD (t.probeStart (hashP w (kqdP d)))) = r) => L.search' (n0 := n0) hr hst
  split
  · rename_i met hpr
    obtain ⟨n, g1, g2, g3⟩ := go _ _ hpr (fun i h' e => by
      show (es[i]?.map (·.1)).getD 0 = h'
      rw [List.getElem?_map, Array.getElem?_toList] at e
      rw [e]; rfl)
    have hnE : n ≤ nE := by
      rcases Nat.lt_or_ge nE n with z | z
      · obtain ⟨i, z1, _⟩ := g2 nE hn z
        exact absurd (List.mem_of_getElem? z1) hE
      · exact z
    have hin' : ∀ j, j < n → at_ t.mask (hashP w (kqdP d)) j ∈ l := by
      intro j hj
      rcases Nat.lt_or_ge j n0 with z | z
      · exact hin j z
      · obtain ⟨i, z1, _⟩ := g2 j z hj
        exact List.mem_of_getElem? z1
    have hne' : ∀ (j i : Nat) (e : Int × Value), j < n → l[i]? = some (at_ t.mask (hashP w (kqdP d)) j) → es.toList[i]? = some e → ¬ Mb w s.heap e d := by
      intro j i e hj hi he
      rcases Nat.lt_or_ge j n0 with z | z
      · exact hne j i e z hi he
      · obtain ⟨i', z1, z2⟩ := g2 j z hj
        intro mb
        have hii : i' = i := by
          rcases Nat.lt_trichotomy i' i with y | y | y
          · have := List.pairwise_iff_getElem.mp L.srt i' i (List.getElem?_eq_some_iff.mp z1).1 (List.getElem?_eq_some_iff.mp hi).1 y
            rw [(List.getElem?_eq_some_iff.mp z1).2, (List.getElem?_eq_some_iff.mp hi).2] at this; omega
          · exact y
          · have := List.pairwise_iff_getElem.mp L.srt i i' (List.getElem?_eq_some_iff.mp hi).1 (List.getElem?_eq_some_iff.mp z1).1 y
            rw [(List.getElem?_eq_some_iff.mp z1).2, (List.getElem?_eq_some_iff.mp hi).2] at this; omega
        subst hii
        exact z2 (by rw [List.getElem?_map, he, ← mb.2.2]; rfl)
    rcases g3 with ⟨y1, y2⟩ | ⟨i, y1, y2, y3⟩
    · cases y2
      dsimp only
      refine wpAny_pure (q2 n y1 hin' fun e he mb => ?_)
      obtain ⟨i, hi⟩ := List.mem_iff_getElem?.mp he
      obtain ⟨j, z1, z2⟩ := L.ahead y1 (i := i) (by rw [List.getElem?_map, hi, ← mb.2.2]; rfl)
      exact hne' j i e z1 z2 hi mb
    · cases y3
      dsimp only
      obtain ⟨e, he⟩ : ∃ e, es.toList[i]? = some e := by
        rw [List.getElem?_map] at y2
        cases hq : es.toList[i]? with
        | none => rw [hq] at y2; cases y2
        | some e => exact ⟨e, rfl⟩
      have hea : es[i]? = some e := by rw [← Array.getElem?_toList]; exact he
      obtain ⟨de, mb⟩ := hm e (List.mem_of_getElem? he)
      obtain ⟨ge, ⟨bs, re⟩, hh⟩ := id mb
      have seen : ∀ {Q' : Bool → Shared → Prop}, Q' false s → wpAny (model prog w) A (searchCouldBeSeen x ((es.filter (·.1 == hashP w (kqdP d))).toList.map (·.2))) Q' E s := fun {Q'} q' => by
        refine seen_rd gx.2.1 rx (fun y hy => ?_) q'
        obtain ⟨e', h1, h2⟩ := List.mem_map.mp hy
        obtain ⟨d', m1, ⟨cs, m2⟩, _⟩ := hm e' (by
          have := Array.mem_toList_iff.mp h1
          exact Array.mem_toList_iff.mpr (Array.mem_filter.mp this).1)
        exact ⟨_, cs, m1.2.1, by rw [← h2]; exact m2⟩
      obtain ⟨e1, e2⟩ := e
      obtain ⟨a, ea⟩ : ∃ a, e2 = .ref a := by
        obtain ⟨xs, ex⟩ := ge.2.2
        have re' : Reads s.heap e2 (kqdP de) bs := re
        rw [ex] at re'
        cases re' with
        | tuple _ _ _ _ => exact ⟨_, rfl⟩
      cases ea
      by_cases hl : t.led = true
      all_goals simp only [hl, Bool.not_true, Bool.not_false, Bool.false_eq_true, if_false, if_true]
      · skip
        rw [hea]; dsimp only; refine wpAny_bind (wpAny_holding (eq_rd ge gx re rx hu (wpAny_bind (wpAny_setState_of ho hd hf ?_)))); dsimp only
        by_cases hde : de = d
        · rw [decide_eq_true hde]; exact wpAny_pure (q1 ⟨_, List.mem_of_getElem? he, hde ▸ mb⟩)
        · rw [decide_eq_false hde]; simp only [Bool.and_false, Bool.false_eq_true, if_false]
          rw [show t.sameMemory t.moves t.mask = some true by simp [SetTable.sameMemory]]; dsimp only; rw [if_pos rfl, slot_live L.place L.srt y1]; dsimp only; rw [hea]; dsimp only
          refine wpAny_bind (wpAny_isSame_ref_self (wpAny_bind (wpAny_pure ?_))); rw [if_pos rfl]; dsimp only
          have hnn : n < nE := by
            rcases Nat.lt_or_ge n nE with z | z
            · exact z
            · have : n = nE := by omega
              subst this; exact absurd (List.mem_of_getElem? y1) hE
          refine ih (nE - (n + 1)) (by omega) (n + 1) fuel _ rfl hnn (by omega) rfl ?_ ?_
          · intro j hj
            rcases Nat.lt_or_ge j n with z | z
            · exact hin' j z
            · have : j = n := by omega
              subst this; exact List.mem_of_getElem? y1
          · intro j i' e' hj hi he' mb'
            rcases Nat.lt_or_ge j n with z | z
            · exact hne' j i' e' z hi he' mb'
            · have : j = n := by omega
              subst this
              have hii : i' = i := by have a1 := below_at L.srt hi; have a2 := below_at L.srt y1; omega
              subst hii
              rw [he] at he'; cases he'
              obtain ⟨_, ⟨cs, c2⟩, _⟩ := mb'
              exact hde (rd_uniq ge gx re c2)
      · refine wpAny_bind (seen ?_); simp only [Bool.false_eq_true, if_false]
        rw [hea]; dsimp only; refine wpAny_bind (wpAny_holding (eq_rd ge gx re rx hu (wpAny_bind (wpAny_setState_of ho hd hf ?_)))); dsimp only
        by_cases hde : de = d
        · rw [decide_eq_true hde]; exact wpAny_pure (q1 ⟨_, List.mem_of_getElem? he, hde ▸ mb⟩)
        · rw [decide_eq_false hde]; simp only [Bool.and_false, Bool.false_eq_true, if_false]
          rw [show t.sameMemory t.moves t.mask = some true by simp [SetTable.sameMemory]]; dsimp only; rw [if_pos rfl, slot_live L.place L.srt y1]; dsimp only; rw [hea]; dsimp only
          refine wpAny_bind (wpAny_isSame_ref_self (wpAny_bind (wpAny_pure ?_))); rw [if_pos rfl]; dsimp only
          have hnn : n < nE := by
            rcases Nat.lt_or_ge n nE with z | z
            · exact z
            · have : n = nE := by omega
              subst this; exact absurd (List.mem_of_getElem? y1) hE
          refine ih (nE - (n + 1)) (by omega) (n + 1) fuel _ rfl hnn (by omega) rfl ?_ ?_
          · intro j hj
            rcases Nat.lt_or_ge j n with z | z
            · exact hin' j z
            · have : j = n := by omega
              subst this; exact List.mem_of_getElem? y1
          · intro j i' e' hj hi he' mb'
            rcases Nat.lt_or_ge j n with z | z
            · exact hne' j i' e' z hi he' mb'
            · have : j = n := by omega
              subst this
              have hii : i' = i := by have a1 := below_at L.srt hi; have a2 := below_at L.srt y1; omega
              subst hii
              rw [he] at he'; cases he'
              obtain ⟨_, ⟨cs, c2⟩, _⟩ := mb'
              exact hde (rd_uniq ge gx re c2)
  · rename_i hpr
    exfalso
    cases hq : t.probe (fun i => (es[i]?.map (·.1)).getD 0) (hashP w (kqdP d)) (stand.getD (t.probeStart (hashP w (kqdP d)))) with
    | some met => exact hpr met hq
    | none =>
      obtain ⟨n, _, _, g3⟩ := go _ _ hq (fun i h' e => by
        rw [List.getElem?_map, Array.getElem?_toList] at e
        show (es[i]?.map (·.1)).getD 0 = h'; rw [e]; rfl)
      rcases g3 with ⟨_, y⟩ | ⟨_, _, _, y⟩ <;> cases y
end
end L2
namespace L2
open PySem PySem.Spec PyProof.Rows
open PySem.W (Dat kqdP kqdOk)
open Classical in
noncomputable def cntR : List Dat → Nat
  | [] => 0
  | d :: ds => cntR ds + if d ∈ ds then 0 else 1
noncomputable def cnt (ds : List Dat) : Nat := cntR ds.reverse
open Classical in
theorem cnt_snoc (ds : List Dat) (d : Dat) : cnt (ds ++ [d]) = cnt ds + if d ∈ ds then 0 else 1 := by
  unfold cnt
  rw [List.reverse_append]
  show cntR (d :: ds.reverse) = _
  rw [cntR]
  simp
theorem cntR_le : ∀ ds : List Dat, cntR ds ≤ ds.length
  | [] => Nat.le_refl _
  | d :: ds => by
    have := cntR_le ds
    rw [cntR, List.length_cons]
    split <;> omega
theorem cnt_le (ds : List Dat) : cnt ds ≤ ds.length := by have := cntR_le ds.reverse; simpa [cnt] using this
theorem cntR_nodup : ∀ ds : List Dat, cntR ds = ds.length ↔ ds.Nodup
  | [] => by simp [cntR]
  | d :: ds => by
    have h1 := cntR_le ds
    have h2 := cntR_nodup ds
    rw [cntR, List.length_cons, List.nodup_cons]
    split
    · rename_i h
      constructor
      · intro e; omega
      · intro e; exact absurd h e.1
    · rename_i h
      rw [← h2]
      constructor
      · intro e; exact ⟨h, by omega⟩
      · intro e; omega
theorem cnt_nodup (ds : List Dat) : cnt ds = ds.length ↔ ds.Nodup := by
  have := cntR_nodup ds.reverse
  rw [List.length_reverse, (List.reverse_perm ds).nodup_iff] at this
  exact this
def Roomy (t : SetTable) (n : Nat) : Prop := (t.mask = 7 ∧ n ≤ 4) ∨ (t.mask = 31 ∧ n ≤ 18)
def SetZ (w : World) (h0 : Heap) (S : Addr) (ds : List Dat) (h : Heap) : Prop := (∀ b o, h0.get? b = some o → h.get? b = some o) ∧ h0.get? S = none ∧ ∃ o es ep t l, h.get? S = some o ∧ o.ExactSet ∧ o.data = .set es ep t ∧ Lain t l (es.toList.map (·.1)) ∧ Roomy t l.length ∧
  (∀ e ∈ es.toList, ∃ d ∈ ds, Mb w h0 e d) ∧ (∀ d ∈ ds, ∃ e ∈ es.toList, Mb w h0 e d) ∧ es.size = cnt ds
theorem Mb.at {w : World} {h h' : Heap} {e : Int × Value} {d : Dat} (m : Mb w h e d) (k : ∀ b o, h.get? b = some o → h'.get? b = some o) : Mb w h' e d := by
  obtain ⟨g, ⟨as, r⟩, x⟩ := m
  exact ⟨g, ⟨as, Reads.keeps k r⟩, x⟩
theorem Mb.uniq {w : World} {h : Heap} {e : Int × Value} {d d' : Dat} (m : Mb w h e d) (m' : Mb w h e d') : d = d' := by
  obtain ⟨g, ⟨as, r⟩, _⟩ := m
  obtain ⟨g', ⟨as', r'⟩, _⟩ := m'
  exact rd_uniq g g' r r'
section
variable {prog : Program} {w : World} {A : Around} {E : Value → Shared → Prop} {s : Shared}
theorem relay_rd {S : Addr} {o : Obj} {es : Array (Int × Value)} {ep : Nat} {t : SetTable} {l : List Nat} {n : Nat} {Q : Unit → Shared → Prop} (ho : s.heap.get? S = some o) (hd : o.data = .set es ep t) (L : Lain t l (es.toList.map (·.1))) (hn : n = 20) (he : es.size ≤ 18)
    (q : ∀ es' t' l', Lain t' l' (es'.toList.map (·.1)) → t'.mask = 31 → es'.size = es.size → (∀ e, e ∈ es'.toList ↔ e ∈ es.toList) → Q () { s with heap := s.heap.update S (Obj.putSet es' t') }) :
    wpAny (model prog w) A (setRelay S n) Q E s := by
  have hf : t.fits es.size = true := L.fits (by simp)
  unfold setRelay
  refine wpAny_bind (wpAny_setState_of ho hd hf ?_); dsimp only; subst hn
  rw [if_neg (by rw [sizeLine_eq]; decide)]
  obtain ⟨t', l', ws, e1, L', w1, w2, w3, e2, _, _⟩ := laid_spec full31 (es.toList.map (·.1)) (by simp; omega) t.finger (t.movedTo 31) t.led t.plain
  have e3 : t.relaid (es.map (·.1)) 20 = some (t', ws.toArray) := by
    unfold SetTable.relaid
    rw [show SetTable.sizeAbove 20 - 1 = 31 by decide, ← e1]
    congr 1
    apply Array.ext'; simp
  rw [e3]
  have ef : (ws.toArray.filterMap (es[·]?)).toList = ws.filterMap (es.toList[·]?) := by simp
  have len : (ws.filterMap (es.toList[·]?)).length = ws.length := by
    clear e1 L' w2 w3 e3 ef
    induction ws with
    | nil => rfl
    | cons v ws ih =>
      have hv := w1 v List.mem_cons_self
      rw [List.length_map] at hv
      rw [List.filterMap_cons, List.getElem?_eq_getElem hv]
      simp only [List.length_cons]
      rw [ih fun u hu => w1 u (List.mem_cons_of_mem _ hu)]
  have maps : (ws.filterMap (es.toList[·]?)).map (·.1) = ws.map ((es.toList.map (·.1)).getD · 0) := by
    clear e1 L' w2 w3 e3 ef len
    induction ws with
    | nil => rfl
    | cons v ws ih =>
      have hv := w1 v List.mem_cons_self
      rw [List.length_map] at hv
      rw [List.filterMap_cons, List.getElem?_eq_getElem hv]
      simp only [List.map_cons]
      rw [ih fun u hu => w1 u (List.mem_cons_of_mem _ hu)]
      congr 1
      rw [List.getD_eq_getElem?_getD, List.getElem?_map, List.getElem?_eq_getElem hv]; rfl
  have sz : (ws.toArray.filterMap (es[·]?)).size = es.size := by
    rw [← Array.length_toList, ef, len, w3]; simp
  refine wpAny_bind ?_
  show wpAny _ _ (if ((ws.toArray.filterMap (es[·]?)).size != es.size) = true then _ else pure (ws.toArray.filterMap (es[·]?), t')) _ _ _
  rw [if_neg (by rw [sz]; simp)]; refine wpAny_pure ?_
  refine wpAny_storeSet_of ho hd ?_ (by rw [sz, sizeLine_eq]; omega)
  refine q _ t' l' (by rw [ef, maps]; exact L') e2 sz fun e => ?_
  rw [ef, List.mem_filterMap]
  constructor
  · rintro ⟨v, _, h2⟩
    exact List.mem_of_getElem? h2
  · intro h
    obtain ⟨v, hv⟩ := List.mem_iff_getElem?.mp h
    refine ⟨v, w2 v ?_, hv⟩
    rw [List.length_map]; exact (List.getElem?_eq_some_iff.mp hv).1
theorem put_at {h : Heap} {S : Addr} {o : Obj} {es : Array (Int × Value)} {ep : Nat} {t : SetTable} (es' : Array (Int × Value)) (t' : SetTable) (e : h.get? S = some o) (hd : o.data = .set es ep t) (x : o.ExactSet) :
    ∃ o', (h.update S (Obj.putSet es' t')).get? S = some o' ∧ o'.ExactSet ∧ o'.data = .set es' (ep + 1) t' := by
  have z : Obj.putSet es' t' o = { o with data := .set es' (ep + 1) t' } := putSet_of es' t' hd
  refine ⟨_, Heap.get?_update_self (Obj.putSet es' t') e (by rw [z]; rfl), ?_, by rw [z]⟩
  rw [z]; exact x
open Classical in
theorem add_rd {h0 : Heap} {S : Addr} {ds : List Dat} {x : Value} {d : Dat} {as : List Addr} {Q : Bool → Shared → Prop} (Z : SetZ w h0 S ds s.heap) (gx : Good d) (rx : Reads h0 x (kqdP d) as) (hu : A.units + 16 < cLine) (hn : ds.length < 18)
    (q : ∀ b h' tk, SetZ w h0 S (ds ++ [d]) h' → (∀ b, b ≠ S → h'.get? b = s.heap.get? b) → Q b { s with heap := h', toks := tk }) :
    wpAny (model prog w) A (setAdd S x) Q E s := by
  obtain ⟨k0, hS0, o, es, ep, t, l, ho, hx, hd, L, R, m1, m2, c⟩ := Z
  have hl : l.length = es.size := by rw [L.size]; simp
  have hle : es.size ≤ ds.length := by rw [c]; exact cnt_le ds
  unfold setAdd
  refine wpAny_holding (wpAny_bind (hash_rd 8 _ x A s _ as gx.2.1 (Reads.keeps k0 rx) (by omega) fun tk => ?_))
  unfold setAddHashed
  refine wpAny_holding ?_
  unfold setAddHashedIn
  have hf : t.fits es.size = true := L.fits (by simp)
  refine wpAny_bind (wpAny_setState_of (s := { s with toks := tk }) ho hd hf ?_); dsimp only
  have nos : byScan x es = false := by
    obtain ⟨xs, ex⟩ := gx.2.2
    rw [ex] at rx
    cases rx with
    | tuple _ _ _ _ => rfl
  rw [nos]; simp only [Bool.false_eq_true, if_false]
  have hg : t.gaveWay = false := by
    unfold SetTable.gaveWay
    rcases R with ⟨e, _⟩ | ⟨e, _⟩ <;> rw [e] <;> decide
  obtain ⟨j, hj, hjl⟩ := some_free L.fill
  obtain ⟨nE, hE1, hE2⟩ := hits L.full (p := st t.mask (hashP w (kqdP d))) (st_more _ _) (st_perturb _ _) hj
  have hE : at_ t.mask (hashP w (kqdP d)) nE ∉ l := by unfold at_; rw [hE2]; exact hjl
  have hmask : t.mask ≤ 31 := by rcases R with ⟨e, _⟩ | ⟨e, _⟩ <;> omega
  have mbs : ∀ e ∈ es.toList, ∃ d, Mb w ({ s with toks := tk } : Shared).heap e d := fun e he => by
    obtain ⟨d', _, m⟩ := m1 e he
    exact ⟨d', m.at k0⟩
  have new : ∀ {e : Int × Value}, e ∈ es.toList → (Mb w s.heap e d ↔ Mb w h0 e d) := fun {e} he => by
    obtain ⟨d', _, m⟩ := m1 e he
    constructor
    · intro z
      have := z.uniq (m.at k0)
      rw [this]; exact m
    · intro z; exact z.at k0
  unfold setSearch
  refine wpAny_bind (search_rd (s := { s with toks := tk }) ho hd L mbs hg gx (Reads.keeps k0 rx) hu hE ?_ ?_ (nE - 0) 0 100000 none rfl (Nat.zero_le _) (by unfold SetTable.turns at hE1; omega) rfl (fun j hj => absurd hj (by omega)) (fun j i e hj => absurd hj (by omega)))
  · rintro ⟨e, he, mb⟩
    dsimp only
    refine wpAny_pure (q _ s.heap tk ⟨k0, hS0, o, es, ep, t, l, ho, hx, hd, L, R, ?_, ?_, ?_⟩ fun _ _ => rfl)
    · intro e' he'
      obtain ⟨d', h1, h2⟩ := m1 e' he'
      exact ⟨d', List.mem_append_left _ h1, h2⟩
    · intro d' hd'
      rcases List.mem_append.mp hd' with h1 | h1
      · exact m2 d' h1
      · cases List.mem_singleton.mp h1
        exact ⟨e, he, (new he).mp mb⟩
    · obtain ⟨d', h1, h2⟩ := m1 e he
      have : d' = d := h2.uniq ((new he).mp mb)
      subst this
      rw [cnt_snoc, if_pos h1, c]; rfl
  · intro n n1 n2 n3
    dsimp only
    refine wpAny_bind (wpAny_setState_of (s := { s with toks := tk }) ho hd hf ?_); dsimp only
    obtain ⟨p, p1, p2, L2', p3, p4, p5, p6⟩ := L.put n1 n2 (by rcases R with ⟨e, _⟩ | ⟨e, _⟩ <;> omega)
    have dn : d ∉ ds := fun z => by
      obtain ⟨e, he, mb⟩ := m2 d z
      exact n3 e he ((new he).mpr mb)
    have hsr : ∀ (h' : Heap) (es' : Array (Int × Value)) (t' : SetTable) (l' : List Nat) (o' : Obj) (ep' tk' : Nat), (∀ b, b ≠ S → h'.get? b = s.heap.get? b) → h'.get? S = some o' → o'.ExactSet → o'.data = .set es' ep' t' → Lain t' l' (es'.toList.map (·.1)) → Roomy t' l'.length → es'.size = es.size + 1 →
        (∀ e, e ∈ es'.toList ↔ e = (hashP w (kqdP d), x) ∨ e ∈ es.toList) → Q true { s with heap := h', toks := tk' } := by
      intro h' es' t' l' o' ep' tk' r1 r2 r3 r4 r5 r6 r7 r8
      refine q _ h' tk' ⟨fun b ob hb => ?_, hS0, o', es', ep', t', l', r2, r3, r4, r5, r6, ?_, ?_, ?_⟩ r1
      · rw [r1 b (fun z => by rw [z, hS0] at hb; cases hb)]; exact k0 b ob hb
      · intro e he
        rcases (r8 e).mp he with rfl | he
        · exact ⟨d, List.mem_append_right _ List.mem_cons_self, gx, ⟨as, rx⟩, rfl⟩
        · obtain ⟨d', h1, h2⟩ := m1 e he
          exact ⟨d', List.mem_append_left _ h1, h2⟩
      · intro d' hd'
        rcases List.mem_append.mp hd' with h1 | h1
        · obtain ⟨e, he, mb⟩ := m2 d' h1
          exact ⟨e, (r8 e).mpr (.inr he), mb⟩
        · cases List.mem_singleton.mp h1
          exact ⟨_, (r8 _).mpr (.inl rfl), gx, ⟨as, rx⟩, rfl⟩
      · rw [cnt_snoc, if_neg dn, r7, c]
    have esl : SetTable.insertAt es p (hashP w (kqdP d), x) = (es.toList.take p ++ (hashP w (kqdP d), x) :: es.toList.drop p).toArray := by
      have := insertAt_list es.toList p (hashP w (kqdP d), x) (by simp; omega)
      simpa using this
    have tail : ∀ (t1 : SetTable), Lain t1 (l.take p ++ at_ t.mask (hashP w (kqdP d)) n :: l.drop p) ((es.toList.map (·.1)).take p ++ hashP w (kqdP d) :: (es.toList.map (·.1)).drop p) → t1.mask = t.mask →
        wpAny (model prog w) A (do
          storeSet S (SetTable.insertAt es p (hashP w (kqdP d), x)) t1
          if (!false && t1.tooFull) = true then do
            setRelay S (SetTable.grown (es.size + 1))
            pure true
          else pure true) Q E { s with toks := tk } := by
      intro t1 L1 hmk
      have L1' : Lain t1 (l.take p ++ at_ t.mask (hashP w (kqdP d)) n :: l.drop p) ((SetTable.insertAt es p (hashP w (kqdP d), x)).toList.map (·.1)) := by rw [esl]; simpa using L1
      have szi : (SetTable.insertAt es p (hashP w (kqdP d), x)).size = es.size + 1 := by rw [esl]; simp; omega
      have mem : ∀ e, e ∈ (SetTable.insertAt es p (hashP w (kqdP d), x)).toList ↔ e = (hashP w (kqdP d), x) ∨ e ∈ es.toList := fun e => by rw [esl]; exact mem_ins
      have ll : (l.take p ++ at_ t.mask (hashP w (kqdP d)) n :: l.drop p).length = es.size + 1 := by simp; omega
      obtain ⟨o1, u1, u2, u3⟩ := put_at (SetTable.insertAt es p (hashP w (kqdP d), x)) t1 ho hd hx
      refine wpAny_bind (wpAny_storeSet_of (s := { s with toks := tk }) ho hd ?_ (by rw [szi, sizeLine_eq]; omega))
      by_cases tf : t1.tooFull = true
      · rw [tf]; simp only [Bool.not_false, Bool.and_self, if_true]
        have h5 : t.mask = 7 ∧ es.size = 4 := by
          unfold SetTable.tooFull SetTable.fill at tf
          rw [L1'.place, L1'.nodum, hmk] at tf
          have tf' := of_decide_eq_true tf
          rw [List.size_toArray, ll] at tf'
          rcases R with ⟨e, e'⟩ | ⟨e, e'⟩
          · rw [e] at tf'; simp at tf'; exact ⟨e, by omega⟩
          · rw [e] at tf'; simp at tf'; omega
        refine wpAny_bind (relay_rd (s := { s with toks := tk, heap := s.heap.update S (Obj.putSet (SetTable.insertAt es p (hashP w (kqdP d), x)) t1) }) u1 u3 L1' (by rw [h5.2]; decide) (by rw [szi]; omega) fun es2 t2 l2 L2 v1 v2 v3 => ?_)
        obtain ⟨o2, w1, w2, w3⟩ := put_at es2 t2 u1 u3 u2
        refine wpAny_pure (hsr _ es2 t2 l2 o2 _ tk (fun b hb => ?_) w1 w2 w3 L2 (.inr ⟨v1, ?_⟩) (by rw [v2, szi]) fun e => (v3 e).trans (mem e))
        · rw [Heap.get?_update_other _ _ (Ne.symm hb), Heap.get?_update_other _ _ (Ne.symm hb)]
        · rw [L2.size]; simp; omega
      · rw [Bool.eq_false_iff.mpr tf]; simp only [Bool.and_false, Bool.false_eq_true, if_false]
        refine wpAny_pure (hsr _ _ t1 _ o1 _ tk (fun b hb => Heap.get?_update_other _ _ (Ne.symm hb)) u1 u2 u3 L1' ?_ szi mem)
        rw [ll]
        unfold SetTable.tooFull SetTable.fill at tf
        rw [L1'.place, L1'.nodum, hmk, List.size_toArray, ll] at tf
        rcases R with ⟨e, e'⟩ | ⟨e, e'⟩
        · refine .inl ⟨hmk.trans e, ?_⟩
          rw [e] at tf; simp at tf; omega
        · exact .inr ⟨hmk.trans e, by omega⟩
    rw [p2]
    split
    · refine wpAny_bind (hbv_rd 8 8 (s := { s with toks := tk }) gx.2.1 (Nat.le_refl _) (Reads.keeps k0 rx) fun b => ?_)
      cases b
      · exact tail _ (L2'.plain false) p3
      · exact tail _ L2' p3
    · exact wpAny_bind (wpAny_pure (tail _ L2' p3))
end
end L2
namespace L2
open PySem PySem.Spec PyProof.Rows
open PySem.W (Dat kqdP kqdOk)
section
variable {prog : Program} {w : World} {A : Around} {R : Result → Shared → Prop} {I : Addr} {fp wr : List Addr} {n : Nat} {P : Nat → Value → Prop} {St : Nat → Heap → Prop}
theorem set_loop (W : Walks prog w A.in1 I fp wr n P St) (S : Addr) (nS : S ∉ fp) (Z : Nat → Heap → Prop) (zk : ∀ i h h', Z i h → (∀ b o, b ∉ wr → h.get? b = some o → h'.get? b = some o) → Z i h')
    (za : ∀ i v (s : Shared) (Q : Bool → Shared → Prop) (E : Value → Shared → Prop), i < n → P i v → Z i s.heap → (∀ r h' tk, Z (i + 1) h' → (∀ b, b ≠ S → h'.get? b = s.heap.get? b) → Q r { s with heap := h', toks := tk }) → wpAny (model prog w) A.in1 (setAdd S v) Q E s) :
    ∀ (k i : Nat) (s : Shared), n - i = k → i ≤ n → St i s.heap → Z i s.heap → (∀ h' tk, Z n h' → (∀ b o, b ∉ S :: wr → s.heap.get? b = some o → h'.get? b = some o) → R (.ok (.ret .none)) { s with heap := h', toks := tk }) →
      codeAny (model prog w) A (.builtin "set.update.loop" ⟨[.ref S, .ref I], []⟩) R s := by
  have nw : S ∉ wr := fun h => nS (W.sub _ h)
  intro k
  induction k with
  | zero =>
    intro i s hk hi hst hz hR
    obtain rfl : i = n := by omega
    refine codeAny_builtin F.entry_set_update_loop ?_; rw [Around.under_plainId F.plain_set_update_loop _]
    refine (show wpAny _ A.in1 (pyNext (.ref I) >>= _) _ _ s from wpAny_bind (W.done s _ _ hst fun h' tk hm => ?_))
    refine (show wpAny _ A.in1 (ret Value.none) _ _ _ from wpAny_pure (hR h' tk (zk _ _ _ hz hm) fun b o hb e => hm b o (fun z => hb (List.mem_cons_of_mem _ z)) e))
  | succ k ih =>
    intro i s hk hi hst hz hR
    have hlt : i < n := by omega
    refine codeAny_builtin F.entry_set_update_loop ?_; rw [Around.under_plainId F.plain_set_update_loop _]
    refine (show wpAny _ A.in1 (pyNext (.ref I) >>= _) _ _ s from wpAny_bind (W.item i s _ _ hlt hst fun v h' tk hP hst' hm => ?_))
    refine (show wpAny _ A.in1 (holding [v] (setAdd S v) >>= _) _ _ _ from wpAny_bind (wpAny_holding (za i v _ _ _ hlt hP (zk _ _ _ hz hm) fun r h2 tk2 z2 k2 => ?_)))
    refine wpAny_pure ⟨plainId_quiet F.plain_set_update_loop _, ih (i + 1) _ (by omega) hlt (W.frame _ _ _ hst' fun b hb o e => ?_) z2 fun h3 tk3 z3 k3 => hR h3 tk3 z3 fun b o hb e => ?_⟩
    · exact (k2 b fun z => nS (z ▸ hb)).trans e
    · refine k3 b o hb ((k2 b fun z => hb (z ▸ List.mem_cons_self)).trans (hm b o (fun z => hb (List.mem_cons_of_mem _ z)) e))
end
namespace F
theorem sub_tuple_set : isSubtype (.type "tuple") (.type "set") = pure false := by rw [isSubtype_type]; kernel_rfl
theorem sub_tuple_frozenset : isSubtype (.type "tuple") (.type "frozenset") = pure false := by rw [isSubtype_type]; kernel_rfl
end F
section
variable {prog : Program} {w : World} {A : Around} {E : Value → Shared → Prop} {s : Shared}
theorem Kn.walks (k : Kn) (hh : A.handled = none) (I ax : Addr) (hne : ax ≠ I) (items : Array Value) : Walks prog w A I [I, ax] [I] items.size (fun i v => items[i]? = some v) (fun i h => k.it h I ax i ∧ k.seq h ax items) := by
  cases k
  · exact Walks.list hh I ax hne items
  · exact Walks.tuple hh I ax hne items
def sob (led : Bool) : Obj := { cls := .type "set", dict := none, data := .set #[] 0 (.fresh 0 0 led) }
set_option maxRecDepth 100000 in
set_option maxHeartbeats 3200000 in
theorem set_call (k : Kn) {l : Addr} {items : Array Value} {Q : Value → Shared → Prop} (hh : A.handled = none) (hl : k.seq s.heap l items) (Z : Nat → Heap → Prop)
    (z0 : ∀ led h, h.get? s.heap.objs.size = some (sob led) → (∀ b o, s.heap.get? b = some o → h.get? b = some o) → Z 0 h) (zk : ∀ i h h', Z i h → (∀ b o, b ≠ s.heap.objs.size + 1 → h.get? b = some o → h'.get? b = some o) → Z i h')
    (za : ∀ (A' : Around) i v (s' : Shared) (Q : Bool → Shared → Prop) (E : Value → Shared → Prop), A'.units ≤ A.units + 8 → i < items.size → items[i]? = some v → Z i s'.heap → (∀ r h' tk, Z (i + 1) h' → (∀ b, b ≠ s.heap.objs.size → h'.get? b = s'.heap.get? b) → Q r { s' with heap := h', toks := tk }) → wpAny (model prog w) A' (setAdd s.heap.objs.size v) Q E s')
    (q : ∀ h' tk, Z items.size h' → (∀ b o, b < s.heap.objs.size → s.heap.get? b = some o → h'.get? b = some o) → Q (.ref s.heap.objs.size) { s with heap := h', toks := tk }) : wpAny (model prog w) A (call (.type "set") [.ref l]) Q E s := by
  obtain ⟨c, tl, hmro⟩ := F.called_set.mro; have hmade := F.called_set.made; have hsub := F.called_set.sub
  refine wpAny_call (codeAny_of_tree ?_); show wpAny _ _ (callAny (.type "set") _) _ _ _
  refine wpAny_pure ⟨Code.quiet_builtin _ (by decide +kernel), codeAny_builtin F.entry_type_call ?_⟩; rw [Around.under_plain (weight_type_call_type "set" [.ref l] []) rfl]
  have h1 := F.called_set.notType; have h2 := F.called_set.canCreate; have hct := F.typeCall_set_1 (.ref l)
  repeat (any_goals (first | assumption | wp_step))
  refine codeAny_mono (code_set_new_1 (.ref l) (E := E) (Q₁ := fun obj s₁ => ∃ led : Bool, obj = .ref s.heap.objs.size ∧ s₁ = { s with heap := s.heap.push (sob led) }) fun led => ⟨led, rfl, rfl⟩) fun r s₁ hr => ?_
  cases r with
  | error e => exact hr
  | ok fl =>
    cases fl with
    | ret obj =>
      obtain ⟨led, rfl, rfl⟩ := hr
      have hS : (s.heap.push (sob led)).get? s.heap.objs.size = some (sob led) := Heap.get?_push_size _ rfl
      have hT : Shared.TypeIs { s with heap := s.heap.push (sob led) } (.ref s.heap.objs.size) "set" := ⟨_, hS, rfl⟩
      have hli := F.called_set.init.lookup; have hbi := F.called_set.init.bind (.ref s.heap.objs.size)
      repeat (any_goals (first | assumption | wp_step))
      refine codeAny_mono (codeAny_call_builtin (R := wants (fun r s₂ => r = .none ∧ ∃ h' tk, s₂ = { s with heap := h', toks := tk } ∧ Z items.size h' ∧ (∀ b o, b < s.heap.objs.size → s.heap.get? b = some o → h'.get? b = some o)) E) F.called_set.init.plain F.entry_set_init (check_set_init_1 hT ?_)) fun r₂ s₂ hr₂ => ?_
      · have hlt : l < s.heap.objs.size := k.lt hl
        have hl1 : k.seq (s.heap.push (sob led)) l items := k.seqAt hl fun o e => Heap.get?_push_of_some _ e
        have nI : l ≠ (s.heap.push (sob led)).objs.size := by rw [Heap.size_push]; exact Nat.ne_of_lt (Nat.lt_succ_of_lt hlt)
        have nS : s.heap.objs.size ∉ [(s.heap.push (sob led)).objs.size, l] := by
          rw [Heap.size_push]; simp only [List.mem_cons, List.not_mem_nil, or_false, not_or]; exact ⟨Nat.ne_of_lt (Nat.lt_succ_self _), Nat.ne_of_gt hlt⟩
        have fin : ∀ (A' : Around) (R' : Result → Shared → Prop), A'.in1.handled = none → A'.in1.units ≤ A.units + 8 → (∀ h' tk, Z items.size h' → (∀ b o, b < s.heap.objs.size → s.heap.get? b = some o → h'.get? b = some o) → R' (.ok (.ret .none)) { s with heap := h', toks := tk }) →
            codeAny (model prog w) A' (.builtin "set.update.loop" ⟨[.ref s.heap.objs.size, .ref (s.heap.push (sob led)).objs.size], []⟩) R' { s with heap := (s.heap.push (sob led)).push (k.obj l) } := by
          intro A' R' ha hu hR
          refine set_loop (k.walks ha _ l nI items) s.heap.objs.size nS Z (fun i h h' z kp => zk i h h' z fun b o hb e => kp b o (by rw [Heap.size_push]; simpa using hb) e) (fun i v s' Q' E' hi hv hz hq => za _ i v s' Q' E' hu hi hv hz hq) (items.size - 0) 0 _ rfl (Nat.zero_le _) ⟨k.it0 _ l, k.seqAt hl1 fun o e => Heap.get?_push_of_some _ e⟩ (z0 led _ (Heap.get?_push_of_some _ hS) fun b o e => Heap.get?_push_of_some _ (Heap.get?_push_of_some _ e)) fun h' tk z kp => hR h' tk z fun b o hb e => kp b o ?_ (Heap.get?_push_of_some _ (Heap.get?_push_of_some _ e))
          rw [Heap.size_push]; simp only [List.mem_cons, List.not_mem_nil, or_false, not_or]; exact ⟨Nat.ne_of_lt hb, Nat.ne_of_lt (Nat.lt_succ_of_lt hb)⟩
        cases k
        · have hl2 : (s.heap.push (sob led)).IsList l items := hl1
          obtain ⟨ol, hol, hcl, nl, hdl⟩ := hl1; obtain ⟨ocls, odict, odata, oslots⟩ := ol
          simp only at hcl hdl; subst hcl; subst hdl
          have hsls := F.sub_list_set; have hslf := F.sub_list_frozenset; have hne : (Value.type "list" == Value.type "dict") = false := by decide
          unfold Builtin.«set.__init__» noKeywords Builtin.Frozenset.updateFrom; generalize hPI : pyIter = PI; wp_walk; subst hPI
          refine Kn.iter .L hl2 (wpAny_bind (wpAny_runValue (fin _ _ (by simp [hh]) (by simp) fun h' tk z kp => ?_)))
          refine (show wpAny _ _ _ _ _ _ from wpAny_pure (show wpAny _ _ (ret Value.none) _ _ _ from wpAny_pure ⟨rfl, h', tk, rfl, z, kp⟩))
        · have hl2 : (s.heap.push (sob led)).IsTuple l items := hl1
          obtain ⟨ol, hol, hcl, nl, hdl⟩ := hl1; obtain ⟨ocls, odict, odata, oslots⟩ := ol
          simp only at hcl hdl; subst hcl; subst hdl
          have hsls := F.sub_tuple_set; have hslf := F.sub_tuple_frozenset; have hne : (Value.type "tuple" == Value.type "dict") = false := by decide
          unfold Builtin.«set.__init__» noKeywords Builtin.Frozenset.updateFrom; generalize hPI : pyIter = PI; wp_walk; subst hPI
          refine Kn.iter .T hl2 (wpAny_bind (wpAny_runValue (fin _ _ (by simp [hh]) (by simp) fun h' tk z kp => ?_)))
          refine (show wpAny _ _ _ _ _ _ from wpAny_pure (show wpAny _ _ (ret Value.none) _ _ _ from wpAny_pure ⟨rfl, h', tk, rfl, z, kp⟩))
      · cases r₂ with
        | error e => exact hr₂
        | ok fl₂ =>
          cases fl₂ with
          | ret r =>
            obtain ⟨rfl, h', tk, rfl, hz, hk'⟩ := hr₂
            repeat (any_goals (first | assumption | wp_step))
            exact q _ _ hz hk'
          | _ => exact hr₂.elim
    | _ => exact hr.elim
end
end L2
namespace L2
open PySem PySem.Spec PyProof.Rows
open PySem.W (Dat kqdP kqdOk)
def SizeIs (h : Heap) (S : Addr) (n : Nat) : Prop := ∃ o es ep t, h.get? S = some o ∧ o.ExactSet ∧ o.data = .set es ep t ∧ t.fits es.size = true ∧ es.size = n
def SetR (X : Cx) (r : V → Hp → (Nat → Hp → Prop) → Prop) : Prop :=
  ∀ (pins : List (Addr × Obj)) (s : Shared) (σ : St) (H : Hp) (x : V) (u : Value) (Q : Nat → Hp → Prop), Inv X pins σ H s → RelV x u → r x H Q →
    wpAny (model X.prog X.w) X.A (call (.type "set") [u]) (fun v s' => ∃ S n, v = .ref S ∧ SizeIs s'.heap S n ∧ Inv X pins σ H s' ∧ Q n H) X.xe s
theorem none_at (h : Heap) : h.get? h.objs.size = none := by
  cases e : h.get? h.objs.size with
  | none => rfl
  | some o => exact absurd (Heap.lt_size e) (Nat.lt_irrefl _)
def rSetD (K : PySem.W.Frag) : V → Hp → (Nat → Hp → Prop) → Prop := fun x H Q => ∃ k a xs ds, x = .ref a ∧ Kn.sq k K H a xs ∧ RepL K H xs ds ∧ (∀ d ∈ ds, Good d) ∧ ds.length < 18 ∧ Q (cnt ds) H
theorem set_tuples {X : Cx} (hc : X.calm = true) (hu : X.A.units + 64 < cLine) : SetR X (rSetD X.K) := by
  intro pins s σ H x u Q I r h
  obtain ⟨k, a, xs, ds, rfl, q1, q2, gd, hl, q⟩ := h
  cases r
  obtain ⟨its, rv, sq⟩ := k.inv I q1
  have len1 : its.length = ds.length := by rw [← Paired.length rv]; exact q2.length
  have rd : ∀ (i : Nat) (v : Value), its.toArray[i]? = some v → ∃ d as, ds[i]? = some d ∧ Reads s.heap v (kqdP d) as := by
    intro i v hv
    rw [List.getElem?_toArray] at hv
    obtain ⟨hi, e⟩ := List.getElem?_eq_some_iff.mp hv
    have hx : i < xs.length := by rw [Paired.length rv]; exact hi
    obtain ⟨v', e1, rl⟩ := rv.get (List.getElem?_eq_getElem hx)
    obtain ⟨d, d1, d2⟩ := RepL.get q2 (List.getElem?_eq_getElem hx)
    obtain ⟨as, p⟩ := Rep.reads I d2 rl
    rw [hv] at e1; cases e1
    exact ⟨d, as, d1, p⟩
  have hS0 := none_at s.heap
  refine set_call k (I.ok.hd hc) sq (fun i h => SetZ X.w s.heap s.heap.objs.size (ds.take i) h) ?_ ?_ ?_ ?_
  · intro led h g kp
    refine ⟨kp, hS0, _, #[], 0, .fresh 0 0 led, [], g, ⟨rfl, rfl, rfl⟩, rfl, Lain.fresh 0 0 led, .inl ⟨rfl, Nat.zero_le _⟩, fun e he => absurd he (by simp), fun d hd => absurd hd (by simp), ?_⟩
    simp [cnt, cntR]
  · rintro i h h' ⟨k0, k1, o, es, ep, t, l, ho, rest⟩ kp
    refine ⟨fun b ob hb => kp b ob (fun z => ?_) (k0 b ob hb), k1, o, es, ep, t, l, kp _ _ (Nat.ne_of_lt (Nat.lt_succ_self _)) ho, rest⟩
    have := Heap.lt_size hb
    rw [z] at this
    exact absurd this (Nat.not_lt.mpr (Nat.le_succ _))
  · intro A' i v s' Q' E' hA hi hv hz hq
    obtain ⟨d, as, d1, d2⟩ := rd i v hv
    have ht : ds.take (i + 1) = ds.take i ++ [d] := by rw [List.take_add_one, d1]; rfl
    refine add_rd (prog := X.prog) hz (gd d (List.mem_of_getElem? d1)) d2 (by omega) (by rw [List.length_take]; omega) fun b h' tk z kp => hq b h' tk (by rw [ht]; exact z) kp
  · intro h' tk z kp
    have ez : ds.take its.toArray.size = ds := by rw [List.size_toArray, len1, List.take_length]
    rw [ez] at z
    obtain ⟨k0, _, o, es, ep, t, l, ho, hx, hd, L, _, _, _, c⟩ := z
    exact ⟨_, cnt ds, rfl, ⟨o, es, ep, t, ho, hx, hd, L.fits (by simp), c⟩, I.kept (t' := tk) k0, q⟩
def rSetS (K : PySem.W.Frag) : V → Hp → (Nat → Hp → Prop) → Prop := fun x H Q => ∃ (k : Kn) (a : Addr) (ns : List Str), x = .ref a ∧ Kn.sq k K H a (ns.map V.str) ∧ ns.length < 4000 ∧ Q (cnt (ns.map Dat.str)) H
theorem set_texts {X : Cx} (hc : X.calm = true) : SetR X (rSetS X.K) := by
  intro pins s σ H x u Q I r h
  obtain ⟨k, a, ns, rfl, q1, hl, q⟩ := h
  cases r
  obtain ⟨its, rv, sq⟩ := k.inv I q1
  have len1 : its.length = ns.length := by have := Paired.length rv; simpa using this.symm
  have rd : ∀ (i : Nat) (v : Value), its.toArray[i]? = some v → ∃ y t, ns[i]? = some y ∧ v = .str y t := by
    intro i v hv
    rw [List.getElem?_toArray] at hv
    obtain ⟨hi, e⟩ := List.getElem?_eq_some_iff.mp hv
    have hx : i < ns.length := by omega
    obtain ⟨v', e1, rl⟩ := rv.get (i := i) (x := .str ns[i]) (by rw [List.getElem?_map, List.getElem?_eq_getElem hx]; rfl)
    rw [hv] at e1; cases e1
    obtain ⟨t, et⟩ := (show ∃ t, v = Value.str ns[i] t from rl)
    exact ⟨_, t, List.getElem?_eq_getElem hx, et⟩
  refine set_call k (I.ok.hd hc) sq (fun i h => (∀ b o, s.heap.get? b = some o → h.get? b = some o) ∧ h.SetOf (strKind X.prog X.w) s.heap.objs.size (fun y => decide (y ∈ ns.take i)) (cnt ((ns.take i).map Dat.str))) ?_ ?_ ?_ ?_
  · intro led h g kp
    refine ⟨kp, _, #[], 0, .fresh 0 0 led, g, ⟨rfl, rfl, rfl⟩, rfl, fun e he => absurd he (by simp), fun y => ?_, by decide, by rfl, ?_⟩
    · simp
    · simp [cnt, cntR]
  · rintro i h h' ⟨k0, o, es, ep, t, ho, rest⟩ kp
    refine ⟨fun b ob hb => kp b ob (fun z => ?_) (k0 b ob hb), o, es, ep, t, kp _ _ (Nat.ne_of_lt (Nat.lt_succ_self _)) ho, rest⟩
    have := Heap.lt_size hb
    rw [z] at this
    exact absurd this (Nat.not_lt.mpr (Nat.le_succ _))
  · intro A' i v s' Q' E' hA hi hv hz hq
    obtain ⟨y, t, d1, rfl⟩ := rd i v hv
    have ht : ns.take (i + 1) = ns.take i ++ [y] := by rw [List.take_add_one, d1]; rfl
    have his : (strKind X.prog X.w).is y (.str y t) = true := strKind_is X.prog X.w y t
    unfold setAdd
    refine wpAny_holding (wpAny_bind ((strKind X.prog X.w).pyHash (k := y) his ?_))
    have hcl := cnt_le ((ns.take i).map Dat.str)
    rw [List.length_map, List.length_take] at hcl
    refine wpAny_setAddHashed_of (knd := strKind X.prog X.w) (s := { s' with toks := s'.toks + 1 }) his rfl hz.2 (by unfold scanBound; omega) fun h' sb z => hq _ h' _ ⟨fun b o e => ?_, ?_⟩ fun b hb => sb.2 b hb
    · have hb : b ≠ s.heap.objs.size := Nat.ne_of_lt (Heap.lt_size e)
      rw [sb.2 b hb]; exact hz.1 b o e
    · refine SetOf_congr z (fun y' => ?_) ?_
      · rw [ht]; simp [List.mem_append]
      · rw [ht, List.map_append, List.map_cons, List.map_nil, cnt_snoc]
        have hm : (Dat.str y ∈ (ns.take i).map Dat.str) ↔ y ∈ ns.take i := ⟨fun z => by obtain ⟨y', h1, h2⟩ := List.mem_map.mp z; cases h2; exact h1, fun z => List.mem_map.mpr ⟨y, z, rfl⟩⟩
        by_cases g : y ∈ ns.take i
        · rw [if_pos (hm.mpr g), decide_eq_true g]; rfl
        · rw [if_neg (fun z => g (hm.mp z)), decide_eq_false g]; rfl
  · intro h' tk z kp
    have ez : ns.take its.toArray.size = ns := by rw [List.size_toArray, len1, List.take_length]
    rw [ez] at z
    obtain ⟨k0, o, es, ep, t, ho, hx, hd, _, _, _, hf, c⟩ := z
    exact ⟨_, _, rfl, ⟨o, es, ep, t, ho, hx, hd, hf, c⟩, I.kept (t' := tk) k0, q⟩
def tLenSet (r : V → Hp → (Nat → Hp → Prop) → Prop) (te : TE) : TE := fun σ H Q => te σ H fun x H1 => r x H1 fun n H2 => (n : Int) < 2 ^ 63 ∧ Q (.int n) H2
theorem bb_set : bootBuiltins "set" = some (.type "set") := by decide +kernel
theorem pe_lenset {X : Cx} {r : V → Hp → (Nat → Hp → Prop) → Prop} {e : Expr} {te : TE} {p p2 pos pos2 : Pos} (hr : SetR X r) (hgl : Gl X "len") (hml : X.mg "len" = none) (hgs : Gl X "set") (hms : X.mg "set" = none) (he : PE X e te)
    (hs : starEach [e] X.env = [(false, eval e X.env)] := by rfl) (hs2 : starEach [Expr.Call (.Name "set" p2) [e] [] pos2] X.env = [(false, eval (.Call (.Name "set" p2) [e] [] pos2) X.env)] := by rfl) :
    PE X (.Call (.Name "len" p) [.Call (.Name "set" p2) [e] [] pos2] [] pos) (tLenSet r te) := by
  intro pins s σ H Q I h
  refine wpAny_Call_Name_kw (ld_blt I hgl hml bb_len ?_)
  refine PyProof.Rows.callWith_builtin1 ?_ hs2 rfl
  rw [hs2]
  refine (show wpAny _ _ (spliced ((false, eval (.Call (.Name "set" p2) [e] [] pos2) X.env) :: backTo pos [])) _ _ s from Calls.spliced_cons ?_)
  refine wpAny_Call_Name_kw (ld_blt I hgs hms bb_set ?_)
  refine PyProof.Rows.callWith_type1 ?_ hs rfl
  rw [hs]
  refine (show wpAny _ _ (spliced ((false, eval e X.env) :: backTo pos2 [])) _ _ s from Calls.spliced_cons (thn (he pins s σ H _ I h) fun u s1 ⟨x, H1, I1, r1, q1⟩ => Calls.spliced_nil ?_))
  refine thn (hr pins s1 σ H1 x u _ I1 r1 q1) fun v s2 ⟨S, n, ev, sz, I2, z, q2⟩ => Calls.spliced_nil ?_
  obtain ⟨o, es, ep, t, ho, hx, hd, hf, c⟩ := sz
  cases ev
  refine PySem.call_len_set ho hx hd hf (by rw [c]; exact z) ⟨.int n, H1, I2.kept (t' := s2.toks + 1 + 1) (fun _ _ z => z), ⟨_, by rw [c]⟩, q2⟩
end L2
namespace L2
open PySem PySem.Spec PyProof.Rows
def Ite (K : PySem.W.Frag) (a : Addr) : It :=
  ⟨fun i H => ∃ xs, SqL K H a xs ∧ i < xs.length, fun i H v H' => ∃ T x, H T = none ∧ v = .ref T ∧ H' = upd H T (.tup [.int i, x]) ∧ ∀ xs, SqL K H a xs → xs[i]? = some x, fun i H => ∃ xs, SqL K H a xs ∧ xs.length ≤ i⟩
theorem turn_enum {P : Program} {w : World} {K : PySem.W.Frag} {elts : List Expr} {x1} {pos : Pos} {a e it : Addr} (n1 : e ≠ it) (n2 : a ≠ it) :
    Turn P w K (.Tuple elts x1 pos) (Ite K a) [e, it] e (fun i h => (∃ old, IsEnum h e it (i : Int) old) ∧ h.IsListIter it a i) where
  mem := by simp
  obj := fun i h ⟨⟨old, he⟩, t⟩ c hc => by
    simp only [List.mem_cons, List.not_mem_nil, or_false] at hc
    rcases hc with rfl | rfl
    · exact ⟨_, he, fun v q => by cases (show Data.fields _ = Data.cell v from q)⟩
    · obtain ⟨o, ho, _, d⟩ := t; exact ⟨o, ho, fun v q => by rw [d] at q; cases q⟩
  keep := fun i h h' ⟨⟨old, he⟩, t⟩ kp => ⟨⟨old, kp e (by simp) _ he⟩, t.at fun o z => kp it (by simp) o z⟩
  item := by
    intro X hP hw hK hc i pins s σ H E I hf ⟨⟨old, he⟩, t⟩ hg
    subst hP hw hK
    obtain ⟨xs, q1, l1⟩ := hg
    obtain ⟨its, r1, p, _⟩ := I.list q1
    obtain ⟨u1, e1, ru1⟩ := r1.get (List.getElem?_eq_getElem l1)
    refine wpAny_pyNext_enum_item he t p.isList (x := u1) (by simpa using e1) n1 fun h' he' t' hT sz all => ⟨_, rfl, ?_⟩
    refine wpAny_letOwnedTupleGo_enum (s := { s with heap := h', toks := s.toks + 1 }) he' fun h2 he2 sb => ?_
    have hfr : H s.heap.objs.size = none := I.hok.fresh (Nat.le_refl _)
    have nT : ∀ c ∈ [e, it], c ≠ s.heap.objs.size := fun c hc' => by
      simp only [List.mem_cons, List.not_mem_nil, or_false] at hc'
      rcases hc' with rfl | rfl
      · exact Nat.ne_of_lt (Heap.lt_size he)
      · obtain ⟨o, ho, _⟩ := t; exact Nat.ne_of_lt (Heap.lt_size ho)
    have I1 : Inv X pins σ (upd H s.heap.objs.size (.tup [.int i, xs[i]])) { s with heap := s.heap.push { cls := .type "tuple", data := .seq #[.int i s.toks, u1] } } :=
      I.laid (t' := s.toks) (fun b u z => Heap.get?_push_of_some _ z) (Nat.le_refl _) ⟨by show 2 ≤ sizeLine; decide, [.int i s.toks, u1], .cons ⟨_, rfl⟩ (.cons ru1 .nil), ⟨_, Heap.get?_push_size _ rfl, rfl, _, rfl⟩⟩
    have I2 : Inv X pins σ (upd H s.heap.objs.size (.tup [.int i, xs[i]])) { s with heap := h2, toks := s.toks + 1 } := Inv.turnedL (s := { s with heap := s.heap.push { cls := .type "tuple", data := .seq #[.int i s.toks, u1] } }) (t' := s.toks + 1) (fp := [e, it]) I1 (fun c o hc' z => by
      have c1 : c ≠ e := fun x => hc' (by simp [x])
      have c2 : c ≠ it := fun x => hc' (by simp [x])
      rcases Heap.get?_push_cases z with ⟨ec, eo⟩ | z
      · rw [ec, eo]; exact sb.extBut _ _ (nT e (by simp)).symm hT
      · exact sb.extBut _ _ c1 (all c o c1 c2 z)) fun c hc' => ⟨by rw [upd_ne (nT c hc')]; exact (hf c hc').1, (hf c hc').2⟩
    exact ⟨.ref s.heap.objs.size, _, I2, rfl, ⟨s.heap.objs.size, xs[i], hfr, rfl, rfl, fun zs hz => by rw [I.list_inj hz q1, List.getElem?_eq_getElem l1]⟩, ⟨⟨_, he2⟩, t'.at fun o z => sb.extBut _ _ n1.symm z⟩, fun c hc' => by rw [upd_ne (nT c hc')]; exact (hf c hc').1⟩
  done := by
    intro X hP hw hK hc i pins s σ H E I hf ⟨⟨old, he⟩, t⟩ hg
    subst hP hw hK
    obtain ⟨xs, q1, le⟩ := hg
    obtain ⟨its, r1, p, _⟩ := I.list q1
    have e1 := r1.length
    exact wpAny_pyNext_enum_end (I.ok.hd hc) he t p.isList (by simp; omega) fun h' all => ⟨rfl, I.turnedL (t' := s.toks) (fun c o hc' z => all c o (fun x => hc' (by simp [x])) z) hf⟩
  self := fun _ _ _ _ _ st q => let ⟨⟨_, he⟩, _⟩ := st; wpAny_pyIter_enum he q
def iEnum (K : PySem.W.Frag) (ta : TA) : TI := fun σ H R => ta σ H fun vs H1 => ∃ a xs, vs = [.ref a] ∧ SqL K H1 a xs ∧ R (Ite K a) H1
theorem bb_enumerate : bootBuiltins "enumerate" = some (.type "enumerate") := by decide +kernel
section
variable {X : Cx}
theorem pi_enum {x : Expr} {ta : TA} {elts : List Expr} {x1} {p pos tp : Pos} (hg : Gl X "enumerate") (hm : X.mg "enumerate" = none) (ha : PA X [x] ta) (hs : starEach [x] X.env = [(false, eval x X.env)] := by rfl) :
    PI X (.Tuple elts x1 tp) (.Call (.Name "enumerate" p) [x] [] pos) (iEnum X.K ta) := by
  intro pins s σ H R I h
  refine Call_ (ld_blt I hg hm bb_enumerate (PyProof.Rows.callWith_type1 (thn (ha pos pins s σ H _ I h) fun us s1 ⟨vs, H1, I1, r1, q1⟩ => ?_) (by rw [hs]; rfl) (by rfl)))
  obtain ⟨a, xs, e, sq, q⟩ := q1
  subst e
  obtain ⟨u1, rfl, ra⟩ := vals1 r1
  cases ra
  obtain ⟨its, rv, p1, _⟩ := I1.list sq
  have lt : a < s1.heap.objs.size := by obtain ⟨_, z, _⟩ := p1.isList; exact Heap.lt_size z
  refine call_enumerate_list p1.isList fun h' he t sz kp => ?_
  refine wpAny_pyIter_enum (s := { s1 with heap := h' }) he ?_
  refine ⟨s1.heap.objs.size + 1, [s1.heap.objs.size + 1, s1.heap.objs.size], _, _, H1, rfl, I1.kept (t' := s1.toks) kp, turn_enum (Nat.succ_ne_self _) (Nat.ne_of_lt lt), ⟨⟨_, he⟩, t⟩, fun c hc => ?_, q⟩
  have le2 : s1.heap.objs.size ≤ c := by
    simp only [List.mem_cons, List.not_mem_nil, or_false] at hc
    rcases hc with rfl | rfl
    · exact Nat.le_succ _
    · exact Nat.le_refl _
  exact I1.fpOk le2 (I1.hok.fresh le2)
end
section
variable {K : PySem.W.Frag} {te : TE} {tc : TT} {σ : St} {Q : VK} {H : Hp} {D : Ends}
theorem k_enum {ta : TA} {R : It → Hp → Prop} (h : ta σ H fun vs H1 => ∃ a xs, vs = [.ref a] ∧ SqL K H1 a xs ∧ R (Ite K a) H1) : iEnum K ta σ H R := h
theorem fat_enum {a : Addr} {xs : List V} {g : TG} {tb : TS} (Pv : Nat → St → Hp → Prop) (h0 : Pv 0 σ H) (hl : ∀ i σ H, i ≤ xs.length → Pv i σ H → SqL K H a xs)
    (hs : ∀ i x σ H T, xs[i]? = some x → Pv i σ H → H T = none → g (.ref T) σ (upd H T (.tup [.int i, x])) fun σ2 H2 => tb { D with nx := Pv (i + 1), ct := Pv (i + 1), bk := D.nx } σ2 H2) (hd : ∀ σ H, Pv xs.length σ H → D.nx σ H) : FAt (Ite K a) g tb D σ H := by
  refine ⟨fun i m σ H => m = xs.length - i ∧ i ≤ xs.length ∧ Pv i σ H, ⟨_, rfl, Nat.zero_le _, h0⟩, ?_⟩
  rintro i m σ H ⟨rfl, hi, p⟩
  have q := hl i σ H hi p
  by_cases hlt : i < xs.length
  · refine .inr ⟨⟨xs, q, hlt⟩, Pv (i + 1), fun σ' H' p' => ⟨xs.length - (i + 1), by omega, rfl, hlt, p'⟩, fun v H' y => ?_⟩
    obtain ⟨T, x, nT, rfl, rfl, z⟩ := y
    exact hs i x σ H T (z xs q) p nT
  · have e : i = xs.length := by omega
    subst e
    exact .inl ⟨⟨xs, q, Nat.le_refl _⟩, hd σ H p⟩
end
end L2
namespace L2
open PySem PySem.Spec PyProof.Rows
section
variable {X : Cx}
end
section
variable {prog : Program} {w : World} {A : Around} {E : Value → Shared → Prop} {s : Shared}
end
section
variable {X : Cx} {tg : Expr}
end
section
variable {K : PySem.W.Frag} {σ : St} {Q : VK} {H : Hp} {D : Ends}
end
open PySem.W (Dat kqdOk kqdP kqdPs)
section
variable {K : PySem.W.Frag} {σ : St} {Q : VK} {H : Hp} {td ty : TE} {D : Ends}
end
end L2
namespace L2
open PySem PySem.Spec PyProof.Rows
open PySem.W (Dat kqdOk kqdP kqdPs)
section
variable {K : PySem.W.Frag} {te : TE} {tc : TT} {σ : St} {Q : VK} {H : Hp}
end
section
variable {X : Cx}
end
end L2
namespace L2
open PySem PySem.Spec PyProof.Rows
section
variable {X : Cx} {ys M : List Str} {scope : Scope} {C : Addr} {s : Shared} {H : Hp} {fp : List Addr} {pins : List (Addr × Obj)} {σ : St}
end
end L2
namespace Rk
end Rk
namespace Dn
open Rk
end Dn
namespace L2
open PySem PySem.Spec PyProof.Rows
open PySem.W (Dat KasT kas_sort kas_ask KatLex KatTups)
section
variable {prog : Program} {w : World} {A : Around} {E : Value → Shared → Prop} {s : Shared}
end
section
variable {X : Cx}
end
end L2
namespace L2
open PySem PySem.Spec PyProof.Rows
section
variable {prog : Program} {w : World} {A : Around} {E : Value → Shared → Prop} {s : Shared} {z TI TO i1 i2 i3 l1 l2 l3 : Addr} {xs ys zs : Array Value} {S1 S2 S3 : Nat → Heap → Prop} {k : Nat}
end
section
variable {X : Cx}
end
section
variable {K : PySem.W.Frag} {te : TE} {σ : St} {Q : VK} {H : Hp}
end
end L2
namespace Rk
end Rk
namespace L2
open PySem PySem.Spec PyProof.Rows
section
variable {prog : Program} {w : World} {A : Around} {E : Value → Shared → Prop} {s : Shared}
end
section
variable {prog : Program} {w : World} {A : Around} {E : Value → Shared → Prop} {s : Shared}
end
end L2
namespace L2
open PySem PySem.Spec PyProof.Rows
section
variable {prog : Program} {w : World} {A : Around} {E : Value → Shared → Prop} {s : Shared}
end
end L2
namespace L2
open PySem PySem.Spec PyProof.Rows
namespace F7
end F7
section
variable {prog : Program} {w : World} {A : Around} {E : Value → Shared → Prop} {s : Shared} {S I : Addr} {es : Array (Int × Value)} {ep : Nat} {t : SetTable}
end
end L2
namespace L2
open PySem PySem.Spec PyProof.Rows
open PySem.W (Dat)
section
variable {X : Cx}
end
end L2
namespace L2
open PySem PySem.Spec PyProof.Rows
open PySem.W (Dat)
section
variable {X : Cx}
end
end L2
namespace L2
open PySem PySem.Spec PyProof.Rows
section
variable {prog : Program} {w : World} {A : Around} {E : Value → Shared → Prop} {s : Shared} {z TI TO i1 i2 i3 l1 l2 l3 : Addr} {xs ys zs : Array Value} {S1 S2 S3 : Nat → Heap → Prop} {k : Nat}
end
section
variable {X : Cx}
end
section
variable {K : PySem.W.Frag} {te : TE} {σ : St} {Q : VK} {H : Hp}
end
end L2
namespace L2
open PySem PySem.Spec PyProof.Rows
open PySem.W (Dat)
end L2
namespace L2
open PySem PySem.Spec PyProof.Rows
open PySem.Builtin.Str (occurrences lastOccurrence strSub subAt partsBetween)
def Occ (z y : Str) (i : Nat) : Prop := i + y.length ≤ z.length ∧ subAt z y i = true
def rPart : V → List V → Hp → VK → Prop := fun x xs H Q => ∃ z y, x = .str z ∧ xs = [.str y] ∧ y.length ≠ 0 ∧ z.length ≤ sizeLine ∧
  ((∃ i, Occ z y i ∧ (∀ k, k < i → ¬ Occ z y k) ∧ ∀ p, H p = none → Q (.ref p) (upd H p (.tup [.str (strSub z 0 i), .str y, .str (strSub z (i + y.length) z.length)]))) ∨
   ((∀ i, ¬ Occ z y i) ∧ ∀ p, H p = none → Q (.ref p) (upd H p (.tup [.str z, .str Str.empty, .str Str.empty]))))
section
variable {X : Cx}
theorem mt_partition : MtR X "str.partition" rPart := by
  intro pins s σ H x xs v us Q I rx rv h
  obtain ⟨z, y, rfl, rfl, hy, hz, h⟩ := h
  obtain ⟨t, rfl⟩ := rx
  obtain ⟨u, rfl, t', rfl⟩ := vals1 rv
  refine call_meets PySem.F.slot_str_partition (typeIs_str _ _ _) PySem.F.entry_str_partition (PySem.F.args_str_partition_2 _ _) (meets_str_partition z y t t' (by simpa using hy) hz) ?_
  have new : ∀ (a b c : Str) (ta tb tc : Tok) (k : Nat), (∀ p, H p = none → Q (.ref p) (upd H p (.tup [.str a, .str b, .str c]))) → EP X pins σ Q (.ref s.heap.objs.size) { s with toks := k, heap := s.heap.push { cls := .type "tuple", data := .seq [.str a ta, .str b tb, .str c tc].toArray } } := by
    intro a b c ta tb tc k q
    refine ⟨.ref s.heap.objs.size, _, I.laid (t' := k) (o := .tup [.str a, .str b, .str c]) (fun b ob q => Heap.get?_push_of_some _ q) (Nat.le_refl _) ?_, rfl, q _ (I.hok.fresh (Nat.le_refl _))⟩
    exact ⟨by show 3 ≤ sizeLine; decide, _, .cons ⟨ta, rfl⟩ (.cons ⟨tb, rfl⟩ (.cons ⟨tc, rfl⟩ .nil)), IsTup.new _ _⟩
  rcases h with ⟨i, hi, mi, q⟩ | ⟨no, q⟩
  · rcases StrLaws.occ_head z y 1 (Nat.le_refl _) with ⟨_, n⟩ | ⟨j, r, e, hj, mj⟩
    · exact absurd hi (n i)
    · have : j = i := by
        rcases Nat.lt_trichotomy j i with l | l | l
        · exact absurd hj (mi j l)
        · exact l
        · exact absurd hi (mj i l)
      subst this
      show wants _ _ _ (match occurrences z y 0 z.length 1 with | i :: _ => _ | [] => _)
      rw [e]
      exact new _ _ _ _ _ _ _ q
  · rcases StrLaws.occ_head z y 1 (Nat.le_refl _) with ⟨e, _⟩ | ⟨j, r, e, hj, mj⟩
    · show wants _ _ _ (match occurrences z y 0 z.length 1 with | i :: _ => _ | [] => _)
      rw [e]
      exact new _ _ _ _ _ _ _ q
    · exact absurd hj (no j)
end
def rRPart : V → List V → Hp → VK → Prop := fun x xs H Q => ∃ z y, x = .str z ∧ xs = [.str y] ∧ y.length ≠ 0 ∧ z.length ≤ sizeLine ∧
  ((∃ i, Occ z y i ∧ (∀ k, i < k → ¬ Occ z y k) ∧ ∀ p, H p = none → Q (.ref p) (upd H p (.tup [.str (strSub z 0 i), .str y, .str (strSub z (i + y.length) z.length)]))) ∨
   ((∀ i, ¬ Occ z y i) ∧ ∀ p, H p = none → Q (.ref p) (upd H p (.tup [.str Str.empty, .str Str.empty, .str z]))))
def occs (z y : Str) : List Nat := (List.range (z.length + 1)).filter fun i => decide (i + y.length ≤ z.length) && subAt z y i
theorem mem_occs {z y : Str} {i : Nat} : i ∈ occs z y ↔ Occ z y i := by
  unfold occs Occ
  rw [List.mem_filter, List.mem_range, Bool.and_eq_true, decide_eq_true_iff]
  exact ⟨fun h => h.2, fun h => ⟨by have := h.1; omega, h⟩⟩
def Apart (z y : Str) : Prop := ∀ i j, Occ z y i → Occ z y j → i < j → i + y.length ≤ j
theorem occ_run {z y : Str} {lim : Nat} (ap : Apart z y) (hy : y.length ≠ 0) : ∀ (n a : Nat) (arr : Array Nat) (fr : Nat), (∀ i, Occ z y i → a ≤ i → fr ≤ i) → arr.size + n ≤ lim →
    (forIn (List.range' a n) (arr, fr) (StrLaws.occBody z y z.length lim)).run.fst.toList = arr.toList ++ (List.range' a n).filter fun i => decide (i + y.length ≤ z.length) && subAt z y i
  | 0, a, arr, fr, _, _ => by simp
  | n + 1, a, arr, fr, hf, hl => by
    rw [List.range'_succ, List.forIn_cons, List.filter_cons]
    unfold StrLaws.occBody
    by_cases h : Occ z y a
    · have c : ((arr.size < lim ∧ fr ≤ a) ∧ a + y.length ≤ z.length) ∧ subAt z y a = true := ⟨⟨⟨by omega, hf a h (Nat.le_refl _)⟩, h.1⟩, h.2⟩
      rw [if_pos c, if_pos (by rw [Bool.and_eq_true, decide_eq_true_iff]; exact h)]
      have ih := occ_run (lim := lim) ap hy n (a + 1) (arr.push a) (a + y.length) (fun i hi l => ap a i h hi (by omega)) (by rw [Array.size_push]; omega)
      rw [Array.toList_push, List.append_assoc] at ih
      exact ih
    · have c : ¬ (((arr.size < lim ∧ fr ≤ a) ∧ a + y.length ≤ z.length) ∧ subAt z y a = true) := fun q => h ⟨q.1.2, q.2⟩
      rw [if_neg c, if_neg (by rw [Bool.and_eq_true, decide_eq_true_iff]; exact h)]
      exact occ_run (lim := lim) ap hy n (a + 1) arr fr (fun i hi l => hf i hi (by omega)) (by omega)
theorem occ_all {z y : Str} (ap : Apart z y) (hy : y.length ≠ 0) : occurrences z y 0 z.length (z.length + 1) = occs z y := by
  rw [StrLaws.occ_eq]
  have := occ_run (lim := z.length + 1) ap hy (z.length + 1) 0 #[] 0 (fun _ _ _ => Nat.zero_le _) (by simp)
  rw [show z.length + 1 - 0 = z.length + 1 from rfl, this]
  unfold occs
  rw [List.range_eq_range']
  rfl
def rSplit : V → List V → Hp → VK → Prop := fun x xs H Q => ∃ z y, x = .str z ∧ xs = [.str y] ∧ y.length ≠ 0 ∧ z.length ≤ 1000 ∧ Apart z y ∧ z.cps.all (· < 128) = true ∧ y.cps.all (· < 128) = true ∧ ∀ p, H p = none → Q (.ref p) (upd H p (.lst ((StrLaws.partsFrom z y.length 0 (occs z y)).map V.str)))
theorem parts_len (z : Str) (w : Nat) : ∀ (a : Nat) (cs : List Nat), (StrLaws.partsFrom z w a cs).length = cs.length + 1
  | _, [] => rfl
  | _, c :: cs => by
    show (StrLaws.partsFrom z w (c + w) cs).length + 1 = _
    rw [parts_len z w _ cs]
    rfl
theorem strs_from : ∀ (tk : Nat) (xs : List Str), Vals (xs.map V.str) (strsFrom tk xs)
  | _, [] => .nil
  | tk, x :: xs => .cons ⟨tk, rfl⟩ (strs_from (tk + 1) xs)
section
variable {X : Cx}
theorem mt_rpartition : MtR X "str.rpartition" rRPart := by
  intro pins s σ H x xs v us Q I rx rv h
  obtain ⟨z, y, rfl, rfl, hy, hz, h⟩ := h
  obtain ⟨t, rfl⟩ := rx
  obtain ⟨u, rfl, t', rfl⟩ := vals1 rv
  refine call_meets PySem.F.slot_str_rpartition (typeIs_str _ _ _) PySem.F.entry_str_rpartition (PySem.F.args_str_rpartition_2 _ _) (meets_str_rpartition z y t t' (by simpa using hy) hz) ?_
  have new : ∀ (a b c : Str) (ta tb tc : Tok) (k : Nat), (∀ p, H p = none → Q (.ref p) (upd H p (.tup [.str a, .str b, .str c]))) → EP X pins σ Q (.ref s.heap.objs.size) { s with toks := k, heap := s.heap.push { cls := .type "tuple", data := .seq [.str a ta, .str b tb, .str c tc].toArray } } := by
    intro a b c ta tb tc k q
    refine ⟨.ref s.heap.objs.size, _, I.laid (t' := k) (o := .tup [.str a, .str b, .str c]) (fun b ob q => Heap.get?_push_of_some _ q) (Nat.le_refl _) ?_, rfl, q _ (I.hok.fresh (Nat.le_refl _))⟩
    exact ⟨by show 3 ≤ sizeLine; decide, _, .cons ⟨ta, rfl⟩ (.cons ⟨tb, rfl⟩ (.cons ⟨tc, rfl⟩ .nil)), IsTup.new _ _⟩
  rcases h with ⟨i, hi, mi, q⟩ | ⟨no, q⟩
  · rcases StrLaws.last_spec z y with ⟨_, n⟩ | ⟨j, e, hj, mj⟩
    · exact absurd hi (n i)
    · have : j = i := by
        rcases Nat.lt_trichotomy j i with l | l | l
        · exact absurd hi (mj i l)
        · exact l
        · exact absurd hj (mi j l)
      subst this
      show wants _ _ _ (match lastOccurrence z y 0 z.length with | some i => _ | none => _)
      rw [e]
      exact new _ _ _ _ _ _ _ q
  · rcases StrLaws.last_spec z y with ⟨e, _⟩ | ⟨j, e, hj, mj⟩
    · show wants _ _ _ (match lastOccurrence z y 0 z.length with | some i => _ | none => _)
      rw [e]
      exact new _ _ _ _ _ _ _ q
    · exact absurd hj (no j)
theorem mt_split : MtR X "str.split" rSplit := by
  intro pins s σ H x xs v us Q I rx rv h
  obtain ⟨z, y, rfl, rfl, hy, hz, ap, az, ay, q⟩ := h
  obtain ⟨t, rfl⟩ := rx
  obtain ⟨u, rfl, t', rfl⟩ := vals1 rv
  have hyb : (y.length == 0) = false := by simpa using hy
  have kz : ∀ {w : Str}, w.cps.all (· < 128) = true → PySem.Builtin.Str.strKind w = 1 := fun {w} h => by
    unfold PySem.Builtin.Str.strKind
    rw [if_pos]
    rw [Array.all_eq_true_iff_forall_mem] at h ⊢
    intro c hc
    have := of_decide_eq_true (h c hc)
    exact decide_eq_true (by omega)
  have new : ∀ (ps : List Str) (vs : List Value) (k : Nat), Vals (ps.map V.str) vs → ps.length ≤ 2000 → (∀ p, H p = none → Q (.ref p) (upd H p (.lst (ps.map V.str)))) → EP X pins σ Q (.ref s.heap.objs.size) { s with toks := k, heap := s.heap.push { cls := .type "list", data := .seq vs.toArray } } := by
    intro ps vs k rv lp q
    refine ⟨.ref s.heap.objs.size, _, I.laid (t' := k) (o := .lst (ps.map V.str)) (fun b ob q => Heap.get?_push_of_some _ q) (Nat.le_refl _) ?_, rfl, q _ (I.hok.fresh (Nat.le_refl _))⟩
    exact ⟨by rw [List.length_map]; exact Nat.le_trans lp (by decide), vs, 0, rv, Heap.get?_push_size _ rfl⟩
  have ea := occ_all ap hy
  have lo : (occs z y).length ≤ z.length + 1 := by
    unfold occs
    exact Nat.le_trans (List.length_filter_le _ _) (by rw [List.length_range]; exact Nat.le_refl _)
  by_cases h1 : z.length < y.length
  · have e0 : occs z y = [] := List.eq_nil_iff_forall_not_mem.mpr fun i hi => by
      have := (mem_occs.mp hi).1
      omega
    rw [e0] at q
    have q' : ∀ p, H p = none → Q (.ref p) (upd H p (.lst ([z].map V.str))) := fun p np => by
      have := q p np
      rw [show StrLaws.partsFrom z y.length 0 [] = [strSub z 0 z.length] from rfl, StrLaws.sub_whole] at this
      exact this
    exact call_meets PySem.F.slot_str_split (typeIs_str _ _ _) PySem.F.entry_str_split (PySem.F.args_str_split_2 _ _) (meets_str_split_cannot_occur z y t t' (by rw [decide_eq_true h1]; rfl)) (new [z] _ _ (.cons ⟨t, rfl⟩ .nil) (show 1 ≤ 2000 by decide) q')
  · have hk : (decide (z.length < y.length) || decide (PySem.Builtin.Str.strKind z < PySem.Builtin.Str.strKind y)) = false := by
      rw [decide_eq_false h1, kz az, kz ay]
      rfl
    cases ec : occs z y with
    | nil =>
      rw [ec] at q
      have q' : ∀ p, H p = none → Q (.ref p) (upd H p (.lst ([z].map V.str))) := fun p np => by
        have := q p np
        rw [show StrLaws.partsFrom z y.length 0 [] = [strSub z 0 z.length] from rfl, StrLaws.sub_whole] at this
        exact this
      exact call_meets PySem.F.slot_str_split (typeIs_str _ _ _) PySem.F.entry_str_split (PySem.F.args_str_split_2 _ _) (meets_str_split_not_found z y t t' hk hyb (by rw [ea, ec]; rfl)) (new [z] _ _ (.cons ⟨t, rfl⟩ .nil) (show 1 ≤ 2000 by decide) q')
    | cons c cs =>
      have lp : (StrLaws.partsFrom z y.length 0 (occs z y)).length ≤ 2000 := by rw [parts_len]; omega
      refine call_meets PySem.F.slot_str_split (typeIs_str _ _ _) PySem.F.entry_str_split (PySem.F.args_str_split_2 _ _) (meets_str_split_sep z y t t' hk hyb (by rw [ea, ec]; rfl) (Nat.le_trans hz (by decide)) (by rw [ea, StrLaws.partsBetween_eq]; exact Nat.le_trans lp (by decide))) ?_
      show wants _ _ _ _
      rw [ea, StrLaws.partsBetween_eq]
      exact new _ _ _ (strs_from _ _) lp q
end
end L2
namespace L2
open PySem PySem.Spec PyProof.Rows PySem.W
end L2
namespace L2
open PySem PySem.Spec PyProof.Rows PySem.W
abbrev rIntT : List V → Hp → VK → Prop := fun xs H Q => ∃ z i, xs = [.str z] ∧ PySem.intText? z = some i ∧ z.length ≤ 640 ∧ Q (.int i) H
theorem call_intT {X : Cx} : CallR X (.type "int") rIntT := by
  intro pins s σ H xs us Q I r h
  obtain ⟨z, i, rfl, hi, hz, q⟩ := h
  obtain ⟨u, rfl, t, rfl⟩ := vals1 r
  exact KIN.call_text hi hz ⟨.int i, H, I.tok _, ⟨_, rfl⟩, q⟩
theorem int_reads {n : Int} (h0 : 0 ≤ n) (h1 : n ≤ 10000000000) : PySem.intText? (istr n) = some n ∧ (istr n).length ≤ 640 := by
  have hl : (istr n).length ≤ 11 := PyProof.Rows.toString_length_le h0 (by decide) (by omega)
  obtain ⟨m, rfl⟩ := Int.eq_ofNat_of_zero_le h0
  have hd : NumText.AllDigits (istr ((m : Nat) : Int)).cps.toList := by
    intro c hc
    rw [show (istr ((m : Nat) : Int)).cps.toList = _ from KIN.signs_num m] at hc
    obtain ⟨ch, hch, e⟩ := List.mem_map.mp hc
    rw [← e]
    exact digit_range (Nat.isDigit_of_mem_toDigits (by decide) (by decide) hch)
  have hne : (istr ((m : Nat) : Int)).cps.toList ≠ [] := by
    rw [show (istr ((m : Nat) : Int)).cps.toList = _ from KIN.signs_num m]
    intro e
    have h := PySem.toDigits_len_ge 10 m
    rw [List.map_eq_nil_iff.mp e] at h
    exact absurd h (by decide)
  have e := PySem.intText_digits hd hne (Nat.le_trans hl (by decide))
  rw [show (istr ((m : Nat) : Int)).cps.toList = _ from KIN.signs_num m, KIN.val_back] at e
  exact ⟨e, Nat.le_trans hl (by decide)⟩
structure KD (P : Program) (w : World) (K : Frag) (mg : Str → Option Value) (x : Str) (D : Addr) (kvs : List (Key × V)) : Prop where
  at_ : mg x = some (.ref D)
  ns : (D == sysModules) = false
  dd : ∀ h : Heap, K.In h → ∃ vs, KV kvs vs ∧ h.DictOf (mixKind P w) D vs
def tKGet (kvs : List (Key × V)) (ty tx : TE) : TE := fun σ H Q => ty σ H fun y H2 => tx σ H2 fun z H3 => ∃ k, y = kV k ∧ Q ((valV kvs k).getD z) H3
theorem pe_kget {X : Cx} {x : Str} {D : Addr} {kvs : List (Key × V)} {e f : Expr} {np apos cpos : Pos} {ty tx : TE} (hg : Gl X x) (d : KD X.prog X.w X.K X.mg x D kvs) (he : PE X e ty) (hf : PE X f tx) (m : M2 X (.Name x np) "get" apos e f cpos) (hdb : (x == ("__debug__" : Str)) = false := by decide) :
    PE X (.Call (.Attribute (.Name x np) "get" apos) [e, f] [] cpos) (tKGet kvs ty tx) := by
  intro pins s σ H Q I h
  refine wpAny_Call_method m.base m.few m.line PySem.F.plainAttrs_dict PySem.F.slot_dict_get PySem.F.type_dict_get (ld_glob I hg d.at_ ?_ hdb)
  obtain ⟨vs, rel, dd⟩ := d.dd _ I.kIn
  refine ⟨dd.typeIs, fun b q => ?_, ?_⟩
  · cases q
    obtain ⟨ob, _, _, h1, h2, _⟩ := dd
    exact ⟨ob, h1, h2.2.1⟩
  rw [m.trees]
  refine Calls.callWith_builtin rfl (Calls.evalArgs_plain (Calls.spliced_cons (thn (he pins s σ H _ I h) fun iv s2 ⟨y, H2, I2, ry, q2⟩ =>
    Calls.spliced_cons (thn (hf pins s2 σ H2 _ I2 q2) fun fv s3 ⟨z, H3, I3, rz, k, ey, q3⟩ => Calls.spliced_nil ?_))))
  subst ey
  obtain ⟨vs3, rel3, dd3⟩ := d.dd _ I3.kIn
  refine call_meetsIn PySem.F.slot_dict_get dd3.typeIs PySem.F.entry_dict_get (PySem.F.args_dict_get_3 _ _ _) (meets_dict_get_default (mixKind X.prog X.w) D (kV_is ry) d.ns fv) ⟨_, dd3.mapOf, ?_⟩
  exact ⟨_, H3, I3.tok _, (rel3.val k).getD rz, q3⟩
end L2
namespace L2
open PySem PySem.Spec PyProof.Rows PySem.W
section
variable {X : Cx} {e k : Expr} {te tk : TE} {p2 pos : Pos}
def tRevL (K : Frag) (te tk : TE) : TE := fun σ H Q => te σ H fun x H1 => tk σ H1 fun i H2 => ∃ a xs, x = .ref a ∧ i = .int (-1) ∧ SqL K H2 a xs ∧ ∀ p, H2 p = none → Q (.ref p) (upd H2 p (.lst xs.reverse))
theorem pe_revL (he : PE X e te) (hk : PE X k tk) : PE X (.Subscript e (.Slice none none (some k) p2) pos) (tRevL X.K te tk) := by
  intro pins s σ H Q I h
  refine Subscript_ (thn (he pins s σ H _ I h) fun v s1 ⟨x, H1, I1, r1, q1⟩ => wpAny_Slice ?_)
  rw [evalPart_none]
  refine wpAny_pure (wpAny_pure (thn (hk pins s1 σ H1 _ I1 q1) fun u s2 ⟨y, H2, I2, r2, a, xs, ex, ey, sq, q⟩ => ?_))
  subst ex ey
  cases r1
  obtain ⟨t, rfl⟩ := r2
  have I3 : Inv X pins σ H2 { s2 with heap := s2.heap.push { cls := .type "slice", data := .fields #[.none, .none, .int (-1) t] } } := I2.kept (t' := s2.toks) fun b ob q => Heap.get?_push_of_some _ q
  obtain ⟨its, rv, ht3, hz⟩ := I3.list sq
  have hlen := rv.length
  show wpAny (model X.prog X.w) X.A (subscriptTail e (.Slice none none (some k) p2) (.ref a) (.ref s2.heap.objs.size)) (EP X pins σ Q) X.xe { s2 with heap := s2.heap.push { cls := .type "slice", data := .fields #[.none, .none, .int (-1) t] } }
  refine tail_any (ops := [.ref a, .ref s2.heap.objs.size]) ht3.isList.typeIs slot_list_getitem.lookup (wpAny_getItem_list_slice ht3.isList (Heap.IsSliceOf.new ..) .none .none (.int (-1) t) (by simp) ?_ (by rw [List.size_toArray]; omega)) (by with_unfolding_all rfl)
  rw [krv_pick]
  have vr : Vals xs.reverse its.reverse := by
    clear q hz ht3 sq I3 hlen
    induction rv with
    | nil => exact .nil
    | cons a b ih => rw [List.reverse_cons, List.reverse_cons]; exact ih.append (.cons a .nil)
  refine ⟨.ref _, _, I3.laid (t' := s2.toks) (o := .lst xs.reverse) (fun b ob q => Heap.get?_push_of_some _ q) (Nat.le_refl _) ?_, rfl, q _ (I3.hok.fresh (Nat.le_refl _))⟩
  exact ⟨by rw [List.length_reverse]; exact hz, its.reverse, 0, vr, Heap.get?_push_size _ rfl⟩
theorem k_revL {K : Frag} {σ : St} {H : Hp} {Q : VK} (h : te σ H fun x H1 => tk σ H1 fun i H2 => ∃ a xs, x = .ref a ∧ i = .int (-1) ∧ SqL K H2 a xs ∧ ∀ p, H2 p = none → Q (.ref p) (upd H2 p (.lst xs.reverse))) : tRevL K te tk σ H Q := h
end
end L2
set_option Elab.async false
set_option linter.all false
set_option maxRecDepth 100000
set_option maxHeartbeats 4000000
open L2
local macro_rules | `(tactic| walk_at "side") => `(tactic| first
  | (show (0 : Int) < _; omega)
  | (unfold CDiv; omega)
  | (unfold CMul; omega)
  | exact ⟨by decide, by decide, by decide⟩)
local macro_rules | `(tactic| walk_at "rd1") => `(tactic| first
  | with_reducible refine k_seq ?_
  | with_reducible refine k_asg ?_
  | with_reducible refine k_gName ?_
  | ((with_reducible refine' k_var ?k1 ?_); (case k1 => exact rfl))
  | with_reducible refine k_c ?_
  | with_reducible refine k_op ?_
  | with_reducible refine k_rI0 ?_
  | with_reducible refine k_eqI ?_
  | with_reducible refine k_neI ?_
  | with_reducible refine k_eqS ?_
  | with_reducible refine k_eqB ?_
  | with_reducible refine k_neB ?_
  | with_reducible refine k_ifS ?_
  | with_reducible refine k_test ?_
  | with_reducible refine k_tB ?_
  | with_reducible refine k_bl ?_
  | with_reducible refine k_ret ?_
  | with_reducible refine k_next ?_
  | with_reducible refine k_drop ?_
  | with_reducible refine k_not ?_
  | with_reducible refine k_and ?_
  | with_reducible refine k_or ?_
  | with_reducible refine k_andV ?_
  | with_reducible refine k_orV ?_
  | with_reducible refine k_notV ?_
  | with_reducible refine k_if ?_
  | with_reducible refine k_chain ?_
  | with_reducible refine k_nil ?_
  | with_reducible refine k_cons ?_
  | with_reducible refine k_call ?_
  | with_reducible refine k_cB ?_
  | with_reducible refine k_tup ?_
  | with_reducible refine k_lst ?_
  | with_reducible refine k_un ?_
  | with_reducible refine k_rU ?_
  | with_reducible refine k_sl ?_
  | with_reducible refine k_noPart ?_
  | with_reducible refine k_part ?_
  | with_reducible refine k_int ?_
  | with_reducible refine k_retN ?_
  | with_reducible refine k_dput ?_
  | with_reducible refine k_revT ?_
  | with_reducible refine k_compG ?_
  | with_reducible refine k_compF ?_
  | with_reducible refine k_iStr ?_
  | with_reducible refine k_iSeq ?_
  | with_reducible refine k_isLT ?_
  | with_reducible refine k_enum ?_
  | with_reducible refine k_rev ?_
  | with_reducible refine k_dget ?_
  | with_reducible refine k_dnotIn ?_
  | with_reducible refine k_dget1 ?_
  | with_reducible refine k_par ?_
  | with_reducible refine k_fmtS ?_
  | with_reducible refine k_fmtI ?_
  | with_reducible refine k_jn ?_
  | with_reducible refine k_jn0 ?_
  | with_reducible refine k_zip ?_
  | with_reducible refine k_isN ?_
  | with_reducible refine k_notN ?_
  | with_reducible refine k_for ?_
  | with_reducible refine k_comp ?_
  | with_reducible refine k_rng1 ?_
  | with_reducible refine k_rng2 ?_
  | with_reducible refine k_iList ?_
  | with_reducible refine k_iTup ?_
  | with_reducible refine k_bm ?_
  | with_reducible refine k_bm0 ?_
  | with_reducible refine k_elt ?_
  | with_reducible refine k_gCons ?_
  | with_reducible refine k_gNil ?_
  | with_reducible refine k_break ?_
  | with_reducible refine k_cont ?_
  | with_reducible refine k_int1 ?_
  | with_reducible refine k_intB ?_
  | with_reducible refine k_abs ?_
  | with_reducible refine iteT ?_
  | with_reducible refine iteF ?_
  | with_reducible refine k_iteNT ?_
  | with_reducible refine k_iteNF ?_
  | with_reducible refine k_iteNNT ?_
  | with_reducible refine k_iteNNF ?_
  | ((with_reducible refine' k_rI ?k1 ?_); (case k1 => walk_at "side"))
  | ((with_reducible refine' k_r1F ?k1 ?_); (case k1 => (constructor <;> omega)))
  | ((with_reducible refine' k_r1C ?k1 ?_); (case k1 => (constructor <;> omega))))
local macro_rules | `(tactic| walk_at "rd") => `(tactic| repeat walk_at "rd1")
namespace G1
open PySem L2 Fr
open PySem.W (Dat kqdOk)
abbrev ends (Q : VK) : Ends := { nx := fun _ H' => Q .non H', rt := Q }
def Mx (n : Int) : Prop := 0 ≤ n ∧ n < 2147483647
def spMixed (K : PySem.W.Frag) : Sp := fun vs H Q _ => ∃ c m : Int, vs = [.int c, .int m] ∧ 0 ≤ m ∧ m ≤ 100 ∧ ∀ (p : Addr) (H' : Hp) (ns : List Int), AccZ K H p H' (ns.map Dat.int) → ns.length = m.toNat → (∀ n ∈ ns, Mx n) → Q (.ref p) H'
theorem len_mixed {K : PySem.W.Frag} {vs : List V} {H : Hp} {Q : VK} {E : XK} {y z : Str} (h : spMixed K vs H Q E) : vs.length = [y, z].length := by
  obtain ⟨a, b, rfl, _⟩ := h
  rfl
def t_mixed (K : PySem.W.Frag) : TS := (tSeq (tAsg (tLst tNil) (gName 2))
  (tSeq (tAsg (tOp rDiv (tVar 0) (tC (.int 2))) (gName 3))
  (tSeq (tIfS (tTest (tOp rEq (tOp rMod (tVar 0) (tC (.int 2))) (tC (.int 1))))
  (tSeq (tFor (iRng1 (tCons (tVar 1) tNil)) (gName 4)
  (tSeq (tDrop (tBM K "list" rAppend (tVar 2) (tCons (tOp rMod (tVar 3) (tC (.int 5040))) tNil)))
  (tAsg (tOp rDiv (tVar 3) (tC (.int 5040))) (gName 3))))
  (tRet (tVar 2)))
  tNext)
  (tSeq (tAsg (tOp rMod (tOp qAdd (tOp (rI CMul fun i j => .int (i * j)) (tOp rMod (tVar 3) (tC (.int 2147483647))) (tC (.int 16807))) (tC (.int 11))) (tC (.int 2147483647))) (gName 3))
  (tSeq (tFor (iRng1 (tCons (tVar 1) tNil)) (gName 4)
  (tSeq (tAsg (tOp rMod (tOp qAdd (tOp qAdd (tOp qAdd (tOp (rI CMul fun i j => .int (i * j)) (tVar 3) (tVar 3)) (tOp (rI CMul fun i j => .int (i * j)) (tC (.int 48271)) (tVar 3))) (tVar 4)) (tC (.int 1))) (tC (.int 2147483647))) (gName 3))
  (tDrop (tBM K "list" rAppend (tVar 2) (tCons (tVar 3) tNil)))))
  (tRet (tVar 2)))))))
theorem rd_mixed {K : PySem.W.Frag} {vs : List V} {H : Hp} {Q : VK} {E : XK} {N : List Str} (hN : N.length = 5) (h : spMixed K vs H Q E) : t_mixed K (ends Q) (L2.start N vs) H := by
  obtain ⟨c, m, rfl, h0, h1, k⟩ := h
  rw [show L2.start N [.int c, .int m] = [some (.int c), some (.int m), none, none, none] by unfold L2.start; rw [hN]; rfl]
  unfold t_mixed
  walk_at "rd"
  refine ⟨by decide, fun l nl => ?_⟩
  walk_at "rd"
  refine k_ite (fun _ => ?_) (fun _ => ?_)
  · walk_at "rd"
    refine fat_range (fun i σ H2 => ∃ (ns : List Int) (z : Int) (v : Option V), σ = [some (.int c), some (.int m), some (.ref l), some (.int z), v] ∧ AccZ K H l H2 (ns.map Dat.int) ∧ ns.length = i ∧ ∀ n ∈ ns, Mx n) ⟨[], _, none, rfl, AccZ.start (Same.refl _) nl, rfl, by simp⟩ ?_ ?_
    · rintro i σ H2 hi ⟨ns, z, v, rfl, A, hl, hb⟩
      walk_at "rd"
      refine ⟨A.ty, ?_⟩
      walk_at "rd"
      refine k_appZ A (.int _) (small1000 (by rw [List.length_map]; omega)) fun H3 A3 _ _ _ => ?_
      walk_at "rd"
      refine ⟨ns ++ [z % 5040], _, _, rfl, by simpa using A3, by simp [hl], fun n hn => ?_⟩
      rcases List.mem_append.mp hn with q | q
      · exact hb n q
      · rw [List.mem_singleton.mp q]
        exact ⟨by omega, by omega⟩
    · rintro σ H2 ⟨ns, z, v, rfl, A, hl, hb⟩
      walk_at "rd"
      exact k l H2 ns A hl hb
  · walk_at "rd"
    refine fat_range (fun i σ H2 => ∃ (ns : List Int) (z : Int) (v : Option V), σ = [some (.int c), some (.int m), some (.ref l), some (.int z), v] ∧ Mx z ∧ AccZ K H l H2 (ns.map Dat.int) ∧ ns.length = i ∧ ∀ n ∈ ns, Mx n) ⟨[], _, none, rfl, ⟨by omega, by omega⟩, AccZ.start (Same.refl _) nl, rfl, by simp⟩ ?_ ?_
    · rintro i σ H2 hi ⟨ns, z, v, rfl, ⟨hz0, hz1⟩, A, hl, hb⟩
      walk_at "rd"
      refine ⟨A.ty, ?_⟩
      walk_at "rd"
      refine k_appZ A (.int _) (small1000 (by rw [List.length_map]; omega)) fun H3 A3 _ _ _ => ?_
      have w : Mx ((z * z + 48271 * z + (0 + (i : Int)) + 1) % 2147483647) := ⟨by omega, by omega⟩
      walk_at "rd"
      refine ⟨ns ++ [(z * z + 48271 * z + (0 + (i : Int)) + 1) % 2147483647], _, _, rfl, w, by rw [List.map_append]; exact A3, by simp [hl], fun n hn => ?_⟩
      rcases List.mem_append.mp hn with q | q
      · exact hb n q
      · rw [List.mem_singleton.mp q]
        exact w
    · rintro σ H2 ⟨ns, z, v, rfl, _, A, hl, hb⟩
      walk_at "rd"
      exact k l H2 ns A hl hb
def HeapOk (n : Nat) (hs : List Int) : Prop := hs.length = n ∧ ∀ x ∈ hs, 0 ≤ x ∧ x ≤ 3
abbrev dI (ns : List Int) : Dat := .tuple (ns.map Dat.int)
def spHeap (K : PySem.W.Frag) : Sp := fun vs H Q _ => ∃ n m t : Int, vs = [.int n, .int m, .int t] ∧ 0 ≤ m ∧ m ≤ 100 ∧ 0 ≤ t ∧ t ≤ 3 ∧ ∀ (p : Addr) (H' : Hp) (hs : List Int), Same H H' → HeapOk m.toNat hs → Rz K H' (.ref p) (dI hs) → Q (.ref p) H'
theorem len_heap {K : PySem.W.Frag} {vs : List V} {H : Hp} {Q : VK} {E : XK} {x y z : Str} (h : spHeap K vs H Q E) : vs.length = [x, y, z].length := by
  obtain ⟨a, b, c, rfl, _⟩ := h
  rfl
theorem AccZ.ints {K : PySem.W.Frag} {H0 H : Hp} {l : Addr} {ns : List Int} (A : AccZ K H0 l H (ns.map Dat.int)) : H l = some (.lst (ns.map V.int)) := by
  obtain ⟨xs, h1, h2⟩ := A.at_
  rw [RpL.ints_of h2] at h1
  exact h1
theorem AccZ.strs {K : PySem.W.Frag} {H0 H : Hp} {l : Addr} {ns : List Str} (A : AccZ K H0 l H (ns.map Dat.str)) : H l = some (.lst (ns.map V.str)) := by
  obtain ⟨xs, h1, h2⟩ := A.at_
  rw [RpL.strs_of h2] at h1
  exact h1
def t_heap (K : PySem.W.Frag) : TS := (tSeq (tAsg (tLst tNil) (gName 3))
  (tSeq (tFor (iRng1 (tCons (tVar 1) tNil)) (gName 4)
  (tSeq (tDrop (tBM K "list" rAppend (tVar 3) (tCons (tOp rMod (tVar 0) (tOp qAdd (tVar 2) (tC (.int 1)))) tNil)))
  (tAsg (tOp rDiv (tVar 0) (tOp qAdd (tVar 2) (tC (.int 1)))) (gName 0))))
  (tRet (tCB (rTupOf K) (tCons (tVar 3) tNil)))))
theorem rd_heap {K : PySem.W.Frag} {vs : List V} {H : Hp} {Q : VK} {E : XK} {N : List Str} (hN : N.length = 5) (h : spHeap K vs H Q E) : t_heap K (ends Q) (L2.start N vs) H := by
  obtain ⟨n0, m, t, rfl, h0, h1, t0, t1, k⟩ := h
  rw [show L2.start N [.int n0, .int m, .int t] = [some (.int n0), some (.int m), some (.int t), none, none] by unfold L2.start; rw [hN]; rfl]
  unfold t_heap
  walk_at "rd"
  refine ⟨by decide, fun l nl => ?_⟩
  walk_at "rd"
  refine fat_range (fun i σ H2 => ∃ (ns : List Int) (z : Int) (v : Option V), σ = [some (.int z), some (.int m), some (.int t), some (.ref l), v] ∧ AccZ K H l H2 (ns.map Dat.int) ∧ HeapOk i ns) ⟨[], _, none, rfl, AccZ.start (Same.refl _) nl, rfl, by simp⟩ ?_ ?_
  · rintro i σ H2 hi ⟨ns, z, v, rfl, A, hl, hb⟩
    walk_at "rd"
    refine ⟨A.ty, ?_⟩
    walk_at "rd"
    refine k_appZ A (.int _) (small1000 (by rw [List.length_map]; omega)) fun H3 A3 _ _ _ => ?_
    walk_at "rd"
    refine ⟨ns ++ [_], _, _, rfl, by simpa using A3, by simp [hl], fun n hn => ?_⟩
    rcases List.mem_append.mp hn with q | q
    · exact hb n q
    · rw [List.mem_singleton.mp q]
      have e1 := Int.emod_nonneg z (b := t + 1) (by omega)
      have e2 := Int.emod_lt_of_pos z (b := t + 1) (by omega)
      exact ⟨by omega, by omega⟩
  · rintro σ H2 ⟨ns, z, v, rfl, A, hh⟩
    walk_at "rd"
    have e := AccZ.ints A
    refine k_tupL (SqL.of e) fun p np => ?_
    exact k p _ ns (A.same.trans (same_new np _)) hh (.tup upd_same (RpL.ints ns))
abbrev az : Str := "abcdefghijklmnopqrstuvwxyz"
theorem az_at : ∀ j : Nat, j < 26 → az.cps.toList[j]? = some (97 + j) := by decide +kernel
theorem az_find : ∀ j : Nat, j < 26 → Txt.find az ⟨#[97 + j]⟩ = (j : Int) := by decide +kernel
theorem az_len : az.length ≤ sizeLine := by decide +kernel
theorem az_ix {i : Int} (h0 : 0 ≤ i) (h1 : i < 26) : atI az.cps.toList i = some (97 + i.toNat) := by
  have e : i = ((i.toNat : Nat) : Int) := by omega
  have q := atI_nat (az_at i.toNat (by omega))
  rw [← e] at q
  exact q
def Low (z : Str) : Prop := ∀ x ∈ z.cps.toList, 97 ≤ x ∧ x ≤ 122
theorem cl_len (z : Str) : z.cps.toList.length = z.length := by simp [Str.length]
theorem low_one {c : Nat} (h0 : 97 ≤ c) (h1 : c ≤ 122) : Low ⟨#[c]⟩ := fun x hx => by
  have : x = c := by simpa using hx
  omega
theorem low_app {a b : Str} (ha : Low a) (hb : Low b) : Low (a ++ b) := fun x hx => by
  rw [Str.cps_append, Array.toList_append] at hx
  rcases List.mem_append.mp hx with q | q
  · exact ha x q
  · exact hb x q
theorem low_cut {z : Str} {lo hi : Option Int} (h : Low z) : Low (scut z lo hi) := fun x hx => by
  have q : x ∈ (hiL z.cps.toList hi).drop (lo.getD 0).toNat := by simpa [scut] using hx
  have q2 := List.mem_of_mem_drop q
  cases hi with
  | none => exact h x q2
  | some j => exact h x (List.mem_of_mem_take q2)
theorem scut_len (z : Str) (lo hi : Option Int) : (scut z lo hi).length = (hiL z.cps.toList hi).length - (lo.getD 0).toNat := by
  show (List.drop (lo.getD 0).toNat (hiL z.cps.toList hi)).toArray.size = _
  rw [List.size_toArray, List.length_drop]
def spBase : Sp := fun vs H Q _ => ∃ c m : Int, vs = [.int c, .int m] ∧ 0 ≤ m ∧ m ≤ 100 ∧ ∀ z : Str, z.length = m.toNat → Low z → Q (.str z) H
theorem len_base {vs : List V} {H : Hp} {Q : VK} {E : XK} {y z : Str} (h : spBase vs H Q E) : vs.length = [y, z].length := by
  obtain ⟨a, b, rfl, _⟩ := h
  rfl
def t_base (K : PySem.W.Frag) : TS := (tSeq (tAsg (tOp rMod (tOp qAdd (tOp (rI CMul fun i j => .int (i * j)) (tOp rMod (tVar 0) (tC (.int 2147483647))) (tC (.int 16807))) (tC (.int 11))) (tC (.int 2147483647))) (gName 2))
  (tSeq (tAsg (tC (.str "")) (gName 3))
  (tSeq (tFor (iRng1 (tCons (tVar 1) tNil)) (gName 4)
  (tSeq (tAsg (tOp rMod (tOp qAdd (tOp qAdd (tOp qAdd (tOp (rI CMul fun i j => .int (i * j)) (tVar 2) (tVar 2)) (tOp (rI CMul fun i j => .int (i * j)) (tC (.int 48271)) (tVar 2))) (tVar 4)) (tC (.int 1))) (tC (.int 2147483647))) (gName 2))
  (tAsg (tOp rAddS (tVar 3) (tOp rIxS (tC (.str "abcdefghijklmnopqrstuvwxyz")) (tOp rMod (tVar 2) (tC (.int 26))))) (gName 3))))
  (tRet (tVar 3)))))
theorem rd_base {K : PySem.W.Frag} {vs : List V} {H : Hp} {Q : VK} {E : XK} {N : List Str} (hN : N.length = 5) (h : spBase vs H Q E) : t_base K (ends Q) (L2.start N vs) H := by
  obtain ⟨c, m, rfl, h0, h1, k⟩ := h
  rw [show L2.start N [.int c, .int m] = [some (.int c), some (.int m), none, none, none] by unfold L2.start; rw [hN]; rfl]
  unfold t_base
  walk_at "rd"
  refine fat_range (fun i σ H2 => ∃ (z : Int) (w : Str) (v : Option V), σ = [some (.int c), some (.int m), some (.int z), some (.str w), v] ∧ Mx z ∧ H2 = H ∧ w.length = i ∧ Low w) ⟨_, "", none, rfl, ⟨by omega, by omega⟩, rfl, rfl, by intro x hx; exact absurd hx (by decide +revert)⟩ ?_ ?_
  · rintro i σ H2 hi ⟨z, w, v, rfl, ⟨hz0, hz1⟩, rfl, hl, hw⟩
    walk_at "rd"
    refine k_ixS az_len (az_ix (by omega) (by omega)) ?_
    refine k_addS ?_ ?_
    · rw [hl]
      exact Nat.le_of_lt (small1000 (by show i + 1 ≤ 1000; omega))
    walk_at "rd"
    refine ⟨_, _, _, rfl, ⟨by omega, by omega⟩, rfl, ?_, low_app hw (low_one (by omega) (by omega))⟩
    rw [Str.length_append, hl]
    rfl
  · rintro σ H2 ⟨z, w, v, rfl, _, rfl, hl, hw⟩
    walk_at "rd"
    exact k w hl hw
def spWord : Sp := fun vs H Q _ => ∃ (b : Str) (p s k : Int), vs = [.str b, .int p, .int s, .int k] ∧ b.length = 8 ∧ Low b ∧ 0 ≤ p ∧ p < s ∧ s ≤ 8 ∧ 0 ≤ k ∧ k ≤ 100 ∧
  ∀ (w : Str) (c : Nat), w.length = s.toNat → Low w → b.cps.toList[p.toNat]? = some c → w.cps.toList[p.toNat]? = some (97 + (((c : Int) - 97 + 3 * k) % 26).toNat) → Q (.str w) H
theorem len_word {vs : List V} {H : Hp} {Q : VK} {E : XK} {x y z u : Str} (h : spWord vs H Q E) : vs.length = [x, y, z, u].length := by
  obtain ⟨a, b, c, d, rfl, _⟩ := h
  rfl
def t_word (K : PySem.W.Frag) : TS := (tSeq (tAsg (tC (.str "abcdefghijklmnopqrstuvwxyz")) (gName 4))
  (tSeq (tAsg (tOp rIxS (tVar 4) (tOp rMod (tOp qAdd (tBM K "str" rFind (tVar 4) (tCons (tOp rIxS (tVar 0) (tVar 1)) tNil)) (tOp (rI CMul fun i j => .int (i * j)) (tC (.int 3)) (tVar 3))) (tC (.int 26)))) (gName 5))
  (tRet (tOp rAddS (tOp rAddS (tSl rSlS (tVar 0) tNoPart (tPart (tVar 1))) (tVar 5)) (tSl rSlS (tVar 0) (tPart (tOp qAdd (tVar 1) (tC (.int 1)))) (tPart (tVar 2)))))))
theorem rd_word {K : PySem.W.Frag} {vs : List V} {H : Hp} {Q : VK} {E : XK} {N : List Str} (hN : N.length = 6) (h : spWord vs H Q E) : t_word K (ends Q) (L2.start N vs) H := by
  obtain ⟨b, p, s, k, rfl, hb, lb, p0, p1, s8, k0, k1, q⟩ := h
  rw [show L2.start N [.str b, .int p, .int s, .int k] = [some (.str b), some (.int p), some (.int s), some (.int k), none, none] by unfold L2.start; rw [hN]; rfl]
  unfold t_word
  have hp : p.toNat < b.cps.toList.length := by rw [cl_len]; omega
  have hc := lb _ (List.getElem_mem hp)
  have e1 : b.cps.toList[p.toNat]? = some b.cps.toList[p.toNat] := List.getElem?_eq_getElem hp
  generalize b.cps.toList[p.toNat] = c at hc e1
  have e2 : atI b.cps.toList p = some c := by
    have e : p = ((p.toNat : Nat) : Int) := by omega
    have q := atI_nat e1
    rw [← e] at q
    exact q
  have bl : b.length ≤ sizeLine := by rw [hb]; decide
  walk_at "rd"
  refine ⟨rfl, ?_⟩
  walk_at "rd"
  refine k_ixS bl e2 ?_
  refine ⟨_, _, rfl, rfl, ?_⟩
  have ec : (⟨#[c]⟩ : Str) = ⟨#[97 + (c - 97)]⟩ := by
    have : c = 97 + (c - 97) := by omega
    rw [← this]
  rw [ec, az_find (c - 97) (by omega)]
  walk_at "rd"
  have ej : (((c - 97 : Nat) : Int) + 3 * k) % 26 = ((c : Int) - 97 + 3 * k) % 26 := by congr 1; omega
  rw [ej]
  refine k_ixS az_len (az_ix (by omega) (by omega)) ?_
  walk_at "rd"
  refine ⟨_, rfl, bl, trivial, p0, ?_⟩
  have n1 := scut_len b none (some p)
  have n2 := scut_len b (some (p + 1)) (some s)
  simp only [hiL, List.length_take, cl_len, hb, Option.getD] at n1 n2
  have n1' : (scut b none (some p)).length = p.toNat := by
    rw [n1]
    have : (0 : Int).toNat = 0 := rfl
    omega
  have n2' : (scut b (some (p + 1)) (some s)).length = s.toNat - (p.toNat + 1) := by
    rw [n2]
    omega
  walk_at "rd"
  refine k_addS ?_ ?_
  · rw [n1']
    exact Nat.le_of_lt (small1000 (by show p.toNat + 1 ≤ 1000; omega))
  walk_at "rd"
  refine ⟨_, rfl, bl, (by show 0 ≤ p + 1; omega), (by show 0 ≤ s; omega), ?_⟩
  refine k_addS ?_ ?_
  · rw [Str.length_append, n1', n2']
    exact Nat.le_of_lt (small1000 (by show p.toNat + 1 + _ ≤ 1000; omega))
  refine q _ c ?_ (low_app (low_app (low_cut lb) (low_one (by omega) (by omega))) (low_cut lb)) e1 ?_
  · rw [Str.length_append, Str.length_append, n1', n2']
    show p.toNat + 1 + _ = _
    omega
  · rw [Str.cps_append, Str.cps_append, Array.toList_append, Array.toList_append, List.append_assoc, List.getElem?_append_right (by rw [cl_len, n1']; exact Nat.le_refl _), cl_len, n1', Nat.sub_self]
    rfl
end G1
namespace G1
open PySem L2 Fr
open PySem.W (Dat kqdOk)
def WordOk (w : Str) : Prop := 1 ≤ w.length ∧ w.length ≤ 8 ∧ Low w
def WordsOk (ws : List Str) : Prop := ws.Nodup ∧ ∀ w ∈ ws, WordOk w
def spWords (K : PySem.W.Frag) : Sp := fun vs H Q _ => ∃ (a : Addr) (ns : List Int) (t m : Int), vs = [.ref a, .int t, .int m] ∧ SqL K H a (ns.map V.int) ∧ 0 ≤ t ∧ 1 ≤ m ∧ m ≤ 5 ∧
  ∀ (p : Addr) (H' : Hp) (ws : List Str), AccZ K H p H' (ws.map Dat.str) → WordsOk ws → ws.length = m.toNat → Q (.ref p) H'
theorem len_words {K : PySem.W.Frag} {vs : List V} {H : Hp} {Q : VK} {E : XK} {x y z : Str} (h : spWords K vs H Q E) : vs.length = [x, y, z].length := by
  obtain ⟨a, b, c, d, rfl, _⟩ := h
  rfl
theorem nodup_snoc {α : Type} {xs : List α} {x : α} (h : xs.Nodup) (n : x ∉ xs) : (xs ++ [x]).Nodup := by
  rw [List.nodup_append]
  refine ⟨h, by simp, ?_⟩
  intro a ha b hb e
  rw [List.mem_singleton.mp hb] at e
  exact n (e ▸ ha)
theorem all_snoc {α : Type} {P : α → Prop} {xs : List α} {x : α} (h : ∀ y ∈ xs, P y) (n : P x) : ∀ y ∈ xs ++ [x], P y := fun y hy => by
  rcases List.mem_append.mp hy with q | q
  · exact h y q
  · rw [List.mem_singleton.mp q]
    exact n
def t_words (K : PySem.W.Frag) : TS := (tSeq (tAsg (tCall (spCell K) [] E0 (tCons (tVar 0) (tCons (tVar 1) tNil))) (gName 3))
  (tSeq (tAsg (tOp qAdd (tC (.int 1)) (tOp rMod (tVar 3) (tC (.int 8)))) (gName 4))
  (tSeq (tAsg (tCall spBase [] E0 (tCons (tCall (spCell K) [] E0 (tCons (tVar 0) (tCons (tOp qAdd (tVar 1) (tC (.int 1))) tNil))) (tCons (tC (.int 8)) tNil))) (gName 5))
  (tSeq (tAsg (tLst tNil) (gName 6))
  (tSeq (tFor (iRng1 (tCons (tVar 2) tNil)) (gName 7)
  (tSeq (tAsg (tCall spWord [] E0 (tCons (tVar 5) (tCons (tOp rMod (tOp rDiv (tVar 3) (tC (.int 32))) (tVar 4)) (tCons (tVar 4) (tCons (tVar 7) tNil))))) (gName 8))
  (tSeq (tIfS (tTest (tOp rEq (tOp rMod (tOp rDiv (tVar 3) (tC (.int 8))) (tC (.int 4))) (tC (.int 1))))
  (tAsg (tSl rSlS (tVar 5) tNoPart (tPart (tOp qAdd (tVar 7) (tC (.int 1))))) (gName 8))
  tNext)
  (tDrop (tBM K "list" rAppend (tVar 6) (tCons (tVar 8) tNil))))))
  (tRet (tVar 6)))))))
theorem rd_words {K : PySem.W.Frag} {vs : List V} {H : Hp} {Q : VK} {E : XK} {N : List Str} (hN : N.length = 9) (h : spWords K vs H Q E) : t_words K (ends Q) (L2.start N vs) H := by
  obtain ⟨a, ns, t, m, rfl, hS, t0, m1, m5, k⟩ := h
  rw [show L2.start N [.ref a, .int t, .int m] = [some (.ref a), some (.int t), some (.int m), none, none, none, none, none, none] by unfold L2.start; rw [hN]; rfl]
  unfold t_words
  walk_at "rd"
  refine ⟨a, ns, t, rfl, hS, t0, ?_⟩
  generalize cellOf ns t = c
  walk_at "rd"
  refine ⟨a, ns, t + 1, rfl, hS, by omega, ?_⟩
  generalize cellOf ns (t + 1) = c2
  walk_at "rd"
  refine ⟨c2, 8, rfl, by decide, by decide, fun b hb lb => ?_⟩
  walk_at "rd"
  refine ⟨by decide, fun l nl => ?_⟩
  walk_at "rd"
  have sp : 0 < 1 + c % 8 := by omega
  refine fat_range (fun i σ H2 => ∃ (ws : List Str) (v7 v8 : Option V), σ = [some (.ref a), some (.int t), some (.int m), some (.int c), some (.int (1 + c % 8)), some (.str b), some (.ref l), v7, v8] ∧ AccZ K H l H2 (ws.map Dat.str) ∧ ws.length = i ∧ WordsOk ws ∧
      ∀ (j : Nat) (w : Str), ws[j]? = some w → (c / 8 % 4 = 1 → w.length = j + 1) ∧ (c / 8 % 4 ≠ 1 → ∃ e : Nat, b.cps.toList[(c / 32 % (1 + c % 8)).toNat]? = some e ∧ w.cps.toList[(c / 32 % (1 + c % 8)).toNat]? = some (97 + (((e : Int) - 97 + 3 * (j : Int)) % 26).toNat)))
    ⟨[], none, none, rfl, AccZ.start (Same.refl _) nl, rfl, ⟨List.nodup_nil, by simp⟩, by simp⟩ ?_ ?_
  · rintro i σ H2 hi ⟨ws, v7, v8, rfl, A, hl, hw, hj⟩
    have pm0 := Int.emod_nonneg (c / 32) (b := 1 + c % 8) (by omega)
    have pm1 := Int.emod_lt_of_pos (c / 32) sp
    walk_at "rd"
    refine ⟨b, c / 32 % (1 + c % 8), 1 + c % 8, 0 + (i : Int), rfl, hb, lb, pm0, pm1, by omega, by omega, by omega, fun w e n1 n2 e1 e2 => ?_⟩
    have fin : ∀ x : Str, WordOk x → ((c / 8 % 4 = 1 → x.length = i + 1) ∧ (c / 8 % 4 ≠ 1 → ∃ e : Nat, b.cps.toList[(c / 32 % (1 + c % 8)).toNat]? = some e ∧ x.cps.toList[(c / 32 % (1 + c % 8)).toNat]? = some (97 + (((e : Int) - 97 + 3 * (i : Int)) % 26).toNat))) →
        WordsOk (ws ++ [x]) ∧ ∀ (j : Nat) (w : Str), (ws ++ [x])[j]? = some w → (c / 8 % 4 = 1 → w.length = j + 1) ∧ (c / 8 % 4 ≠ 1 → ∃ e : Nat, b.cps.toList[(c / 32 % (1 + c % 8)).toNat]? = some e ∧ w.cps.toList[(c / 32 % (1 + c % 8)).toNat]? = some (97 + (((e : Int) - 97 + 3 * (j : Int)) % 26).toNat)) := by
      intro x ox px
      refine ⟨⟨nodup_snoc hw.1 fun hx => ?_, all_snoc hw.2 ox⟩, fun j w e => ?_⟩
      · obtain ⟨j, hj1, hj2⟩ := List.mem_iff_getElem.mp hx
        have g : ws[j]? = some x := by rw [List.getElem?_eq_getElem hj1, hj2]
        obtain ⟨q1, q2⟩ := hj j x g
        by_cases f : c / 8 % 4 = 1
        · have := q1 f
          have := px.1 f
          omega
        · obtain ⟨e', g1, g2⟩ := q2 f
          obtain ⟨e'', g3, g4⟩ := px.2 f
          rw [g1] at g3
          cases g3
          rw [g2] at g4
          have g5 := Option.some.inj g4
          omega
      · by_cases lt : j < ws.length
        · rw [List.getElem?_append_left lt] at e
          exact hj j w e
        · rw [List.getElem?_append_right (by omega)] at e
          have z : j - ws.length = 0 := by
            rcases Nat.eq_zero_or_pos (j - ws.length) with z | z
            · exact z
            · rw [List.getElem?_eq_none (by simp; omega)] at e
              cases e
          rw [z] at e
          have e' : x = w := by simpa using e
          have ej : j = i := by omega
          rw [← e', ej]
          exact px
    walk_at "rd"
    refine k_ite (fun f => ?_) (fun f => ?_)
    · walk_at "rd"
      refine ⟨_, rfl, by rw [hb]; decide, trivial, (by show 0 ≤ 0 + (i : Int) + 1; omega), ?_⟩
      have sl := scut_len b none (some (0 + (i : Int) + 1))
      simp only [hiL, List.length_take, cl_len, hb, Option.getD] at sl
      have sl' : (scut b none (some (0 + (i : Int) + 1))).length = i + 1 := by
        rw [sl]
        have : (0 : Int).toNat = 0 := rfl
        have : (8 : Int).toNat = 8 := rfl
        omega
      walk_at "rd"
      refine ⟨A.ty, ?_⟩
      walk_at "rd"
      refine k_appZ A (.str _) (small1000 (by rw [List.length_map]; omega)) fun H3 A3 _ _ _ => ?_
      walk_at "rd"
      obtain ⟨r1, r2⟩ := fin (scut b none (some (0 + (i : Int) + 1))) ⟨by omega, by omega, low_cut lb⟩ ⟨fun _ => sl', fun z => absurd f z⟩
      exact ⟨ws ++ [_], _, _, rfl, by rw [List.map_append]; exact A3, by simp [hl], r1, r2⟩
    · walk_at "rd"
      refine ⟨A.ty, ?_⟩
      walk_at "rd"
      refine k_appZ A (.str _) (small1000 (by rw [List.length_map]; omega)) fun H3 A3 _ _ _ => ?_
      walk_at "rd"
      have ei : (0 : Int) + (i : Int) = (i : Int) := by omega
      rw [ei] at e2
      obtain ⟨r1, r2⟩ := fin w ⟨by omega, by omega, n2⟩ ⟨fun z => absurd z f, fun _ => ⟨e, e1, e2⟩⟩
      exact ⟨ws ++ [w], _, _, rfl, by rw [List.map_append]; exact A3, by simp [hl], r1, r2⟩
  · rintro σ H2 ⟨ws, v7, v8, rfl, A, hl, hw, hj⟩
    walk_at "rd"
    exact k l H2 ws A hw hl
def PaceOk (q d : Int) : Prop := 0 < q ∧ 0 < d ∧ Gd.gd q d = 1 ∧ q ≤ 10000000000 ∧ d ≤ 10000000000
def spLowP (K : PySem.W.Frag) : Sp := fun vs H Q _ => ∃ t b : Int, vs = [.int t, .int b] ∧ 0 < t ∧ 0 < b ∧ t ≤ 10000000000 ∧ b ≤ 10000000000 ∧ ∀ (p : Addr) (q d : Int) (H' : Hp), Same H H' → PaceOk q d → Rz K H' (.ref p) (dI [q, d]) → Q (.ref p) H'
theorem len_lowP {K : PySem.W.Frag} {vs : List V} {H : Hp} {Q : VK} {E : XK} {y z : Str} (h : spLowP K vs H Q E) : vs.length = [y, z].length := by
  obtain ⟨a, b, rfl, _⟩ := h
  rfl
theorem rd_lowP {K : PySem.W.Frag} {vs : List V} {H : Hp} {Q : VK} {E : XK} {N : List Str} (hN : N.length = 3) (h : spLowP K vs H Q E) : tLow0 (ends Q) (L2.start N vs) H := by
  obtain ⟨t, b, rfl, t0, b0, t1, b1, k⟩ := h
  rw [show L2.start N [.int t, .int b] = [some (.int t), some (.int b), none] by unfold L2.start; rw [hN]; rfl]
  unfold tLow0
  walk_at "rd"
  refine k_ite (fun z => absurd z (by omega)) (fun _ => ?_)
  walk_at "rd"
  refine k_ite (fun z => absurd z (by omega)) (fun _ => ?_)
  unfold tLowT
  walk_at "rd"
  refine ⟨t, b, rfl, ?_⟩
  have nb : b ≠ 0 := by omega
  have gp := Gd.gd_pos (a := t) nb
  have gl := Gd.gd_le (a := t) nb
  have wd : (Gd.gd t b).natAbs < 2 ^ 9000 := Gd.wide (by omega)
  have L := Gd.low_of (t := t) (b := b) (d := Gd.gd t b) nb (.inl ⟨rfl, b0⟩)
  have M := Gd.low_abs (t := t) (b := b) (d := Gd.gd t b) nb (.inl ⟨rfl, b0⟩)
  walk_at "rd"
  refine k_rI ⟨by omega, wd⟩ ?_
  walk_at "rd"
  refine k_rI ⟨by omega, wd⟩ ?_
  walk_at "rd"
  refine ⟨by show 2 ≤ sizeLine; decide, fun p np => ?_⟩
  have q0 : 0 < t.fdiv (Gd.gd t b) := by
    have w := L.worth
    have := L.pos
    by_cases z : 0 < t.fdiv (Gd.gd t b)
    · exact z
    · have h1 : t.fdiv (Gd.gd t b) * b ≤ 0 := Int.mul_nonpos_of_nonpos_of_nonneg (by omega) (by omega)
      have h2 : 0 < t * b.fdiv (Gd.gd t b) := Int.mul_pos t0 L.pos
      omega
  have := L.pos
  exact k p _ _ _ (same_new np _) ⟨q0, L.pos, L.low, by omega, by omega⟩ (.tup upd_same (RpL.ints [_, _]))
def spPace (K : PySem.W.Frag) : Sp := fun vs H Q _ => ∃ (a b : Int) (g : Bool), vs = [.int a, .int b, .bl g] ∧ Mx a ∧ Mx b ∧ ∀ (p : Addr) (q d : Int) (H' : Hp), Same H H' → PaceOk q d → Rz K H' (.ref p) (dI [q, d]) → Q (.ref p) H'
theorem len_pace {K : PySem.W.Frag} {vs : List V} {H : Hp} {Q : VK} {E : XK} {x y z : Str} (h : spPace K vs H Q E) : vs.length = [x, y, z].length := by
  obtain ⟨a, b, g, rfl, _⟩ := h
  rfl
def t_pace (K : PySem.W.Frag) : TS := (tSeq (tIfS (tB (tVar 2))
  (tRet (tCall (spLowP K) [] E0 (tCons (tOp qAdd (tC (.int 1)) (tOp rMod (tOp (rI CMul fun i j => .int (i * j)) (tVar 0) (tC (.int 9))) (tOp qSub (tOp rPow (tC (.int 10)) (tC (.int 10))) (tC (.int 1))))) (tCons (tOp qAdd (tC (.int 1)) (tOp rMod (tOp (rI CMul fun i j => .int (i * j)) (tVar 1) (tC (.int 7))) (tOp qSub (tOp rPow (tC (.int 10)) (tC (.int 10))) (tC (.int 1))))) tNil))))
  tNext)
  (tRet (tCall (spLowP K) [] E0 (tCons (tOp qAdd (tC (.int 1)) (tOp rMod (tVar 0) (tC (.int 9)))) (tCons (tOp qAdd (tC (.int 1)) (tOp rMod (tVar 1) (tC (.int 4)))) tNil)))))
theorem p10 : (10 : Int) ^ (10 : Int).toNat = 10000000000 := by decide +kernel
theorem rd_pace {K : PySem.W.Frag} {vs : List V} {H : Hp} {Q : VK} {E : XK} {N : List Str} (hN : N.length = 3) (h : spPace K vs H Q E) : t_pace K (ends Q) (L2.start N vs) H := by
  obtain ⟨a, b, g, rfl, ⟨a0, a1⟩, ⟨b0, b1⟩, k⟩ := h
  rw [show L2.start N [.int a, .int b, .bl g] = [some (.int a), some (.int b), some (.bl g)] by unfold L2.start; rw [hN]; rfl]
  unfold t_pace
  walk_at "rd"
  cases g
  · walk_at "rd"
    exact ⟨_, _, rfl, by omega, by omega, by omega, by omega, k⟩
  · walk_at "rd"
    rw [p10]
    walk_at "rd"
    rw [p10]
    walk_at "rd"
    exact ⟨_, _, rfl, by omega, by omega, by omega, by omega, k⟩
theorem ok_dI (ns : List Int) (n : Nat) : kqdOk (n + 1) (dI ns) = true := by
  show ((ns.map Dat.int).all (kqdOk n)) = true
  rw [List.all_eq_true]
  intro x hx
  obtain ⟨i, _, rfl⟩ := List.mem_map.mp hx
  cases n <;> rfl
theorem dI_inj {a b : List Int} (h : dI a = dI b) : a = b := by
  have := Dat.tuple.inj h
  exact (List.map_inj_right (fun x y e => Dat.int.inj e)).mp this
theorem mem_dI {a : List Int} {hs : List (List Int)} : dI a ∈ hs.map dI ↔ a ∈ hs := by
  rw [List.mem_map]
  constructor
  · rintro ⟨b, hb, e⟩
    rw [← dI_inj e]
    exact hb
  · intro h
    exact ⟨a, h, rfl⟩
def PoolOk (n : Nat) (hs : List (List Int)) : Prop := hs.Nodup ∧ ∀ h ∈ hs, HeapOk n h
def spPool (K : PySem.W.Frag) : Sp := fun vs H Q _ => ∃ (a : Addr) (ns : List Int) (t m : Int), vs = [.ref a, .int t, .int m] ∧ SqL K H a (ns.map V.int) ∧ 0 ≤ t ∧ 1 ≤ m ∧ m ≤ 5 ∧
  ∀ (p : Addr) (H' : Hp) (hs : List (List Int)), AccZ K H p H' (hs.map dI) → PoolOk m.toNat hs → 2 ≤ hs.length → hs.length ≤ 8 → Q (.ref p) H'
theorem len_pool {K : PySem.W.Frag} {vs : List V} {H : Hp} {Q : VK} {E : XK} {x y z : Str} (h : spPool K vs H Q E) : vs.length = [x, y, z].length := by
  obtain ⟨a, b, c, d, rfl, _⟩ := h
  rfl
def t_pool (K : PySem.W.Frag) : TS := (tSeq (tAsg (tCall (spCell K) [] E0 (tCons (tVar 0) (tCons (tVar 1) tNil))) (gName 3))
  (tSeq (tAsg (tOp (rIxL K) (tLst (tCons (tC (.int 1)) (tCons (tC (.int 2)) (tCons (tC (.int 3)) (tCons (tC (.int 1)) tNil))))) (tOp rMod (tVar 3) (tC (.int 4)))) (gName 4))
  (tSeq (tAsg (tLst tNil) (gName 5))
  (tSeq (tFor (iRng1 (tCons (tOp qAdd (tC (.int 2)) (tOp rMod (tOp rDiv (tVar 3) (tC (.int 4))) (tC (.int 7)))) tNil)) (gName 6)
  (tSeq (tAsg (tCall (spHeap K) [] E0 (tCons (tOp (rIxL K) (tCall (spMixed K) [] E0 (tCons (tCall (spCell K) [] E0 (tCons (tVar 0) (tCons (tOp qAdd (tOp qAdd (tVar 1) (tC (.int 1))) (tVar 6)) tNil))) (tCons (tC (.int 1)) tNil))) (tC (.int 0))) (tCons (tVar 2) (tCons (tVar 4) tNil)))) (gName 7))
  (tIfS (tTest (tOp (rInD K true) (tVar 7) (tVar 5)))
  (tDrop (tBM K "list" rAppend (tVar 5) (tCons (tVar 7) tNil)))
  tNext)))
  (tSeq (tIfS (tTest (tOp rLt (tCB (rLenQ K) (tCons (tVar 5) tNil)) (tC (.int 2))))
  (tDrop (tBM K "list" rAppend (tVar 5) (tCons (tCB (rTupOf K) (tCons (tOp rCat (tLst (tCons (tCB rInt1 (tCons (tOp rEq (tOp (rIxT K) (tOp (rIxL K) (tVar 5) (tC (.int 0))) (tC (.int 0))) (tC (.int 0))) tNil)) tNil)) (tComp (iRng1 (tCons (tOp qSub (tVar 2) (tC (.int 1))) tNil)) (tC (.int 0)))) tNil)) tNil)))
  tNext)
  (tRet (tVar 5)))))))
theorem four (i : Int) (h0 : 0 ≤ i) (h1 : i < 4) : ∃ j : Int, atI [V.int 1, .int 2, .int 3, .int 1] i = some (.int j) ∧ 0 ≤ j ∧ j ≤ 3 := by
  rcases (by omega : i = 0 ∨ i = 1 ∨ i = 2 ∨ i = 3) with rfl | rfl | rfl | rfl
  · exact ⟨1, rfl, by decide, by decide⟩
  · exact ⟨2, rfl, by decide, by decide⟩
  · exact ⟨3, rfl, by decide, by decide⟩
  · exact ⟨1, rfl, by decide, by decide⟩
theorem rd_pool {K : PySem.W.Frag} {vs : List V} {H : Hp} {Q : VK} {E : XK} {N : List Str} (hN : N.length = 8) (h : spPool K vs H Q E) : t_pool K (ends Q) (L2.start N vs) H := by
  obtain ⟨a, ns, t, m, rfl, hS, t0, m1, m5, k⟩ := h
  rw [show L2.start N [.ref a, .int t, .int m] = [some (.ref a), some (.int t), some (.int m), none, none, none, none, none] by unfold L2.start; rw [hN]; rfl]
  unfold t_pool
  walk_at "rd"
  refine ⟨a, ns, t, rfl, hS, t0, ?_⟩
  generalize cellOf ns t = c
  walk_at "rd"
  refine ⟨by show 4 ≤ sizeLine; decide, fun l4 n4 => ?_⟩
  have S4 := same_new n4 (.lst [V.int 1, .int 2, .int 3, .int 1])
  obtain ⟨mo, e4, mo0, mo3⟩ := four (c % 4) (by omega) (by omega)
  walk_at "rd"
  refine k_ixL (SqL.of upd_same) e4 ?_
  generalize hH1 : upd H l4 (.lst [V.int 1, .int 2, .int 3, .int 1]) = H1 at S4 ⊢
  walk_at "rd"
  refine ⟨by decide, fun l nl => ?_⟩
  walk_at "rd"
  refine fat_range (fun i σ H2 => ∃ (hs : List (List Int)) (v6 v7 : Option V), σ = [some (.ref a), some (.int t), some (.int m), some (.int c), some (.int mo), some (.ref l), v6, v7] ∧ AccZ K H l H2 (hs.map dI) ∧ hs.length ≤ i ∧ PoolOk m.toNat hs ∧ (0 < i → hs ≠ []))
    ⟨[], none, none, rfl, AccZ.start S4 nl, Nat.le_refl _, ⟨List.nodup_nil, by simp⟩, by simp⟩ ?_ ?_
  · rintro i σ H2 hi ⟨hs, v6, v7, rfl, A, hl, hp, _⟩
    walk_at "rd"
    refine ⟨a, ns, t + 1 + (0 + (i : Int)), rfl, A.same.seq hS, by omega, ?_⟩
    generalize cellOf ns (t + 1 + (0 + (i : Int))) = c1
    walk_at "rd"
    refine ⟨c1, 1, rfl, by decide, by decide, fun px H3 xs X3 lx bx => ?_⟩
    obtain ⟨x, rfl⟩ : ∃ x, xs = [x] := List.length_eq_one_iff.mp lx
    have S3 := X3.same
    have sx : SqL K H3 px ([x].map V.int) := SqL.of (AccZ.ints X3)
    walk_at "rd"
    refine k_ixL sx (v := .int x) rfl ?_
    walk_at "rd"
    refine ⟨x, m, mo, rfl, by omega, by omega, mo0, mo3, fun ph H4 h S4' oh rh => ?_⟩
    have A4 := (A.on S3).on S4'
    walk_at "rd"
    refine k_notInD rh.rep A4.rep (fun e he => by obtain ⟨b, _, rfl⟩ := List.mem_map.mp he; exact ok_dI b 7) (ok_dI h 7) (fun nm => ?_) (fun mm => ?_)
    · walk_at "rd"
      refine ⟨A4.ty, ?_⟩
      walk_at "rd"
      refine k_appZ A4 rh (small1000 (by rw [List.length_map]; omega)) fun H5 A5 _ _ _ => ?_
      walk_at "rd"
      exact ⟨hs ++ [h], _, _, rfl, by rw [List.map_append]; exact A5, by simp; omega, ⟨nodup_snoc hp.1 fun z => nm (mem_dI.mpr z), all_snoc hp.2 oh⟩, by simp⟩
    · walk_at "rd"
      exact ⟨hs, _, _, rfl, A4, by omega, hp, fun _ z => by rw [z] at mm; cases mm⟩
  · rintro σ H2 ⟨hs, v6, v7, rfl, A, hl, hp, hne⟩
    have ne := hne (by omega)
    obtain ⟨xs, sx, lx, rx⟩ := A.sq
    rw [List.length_map] at lx
    walk_at "rd"
    refine k_lenL sx ?_
    walk_at "rd"
    refine k_ite (fun few => ?_) (fun few => ?_)
    · have l1 : hs.length = 1 := by
        have := List.length_pos_iff.mpr ne
        omega
      obtain ⟨h, rfl⟩ : ∃ x, hs = [x] := List.length_eq_one_iff.mp l1
      have oh := hp.2 h (by simp)
      obtain ⟨h1, hr, eh⟩ : ∃ h1 hr, h = h1 :: hr := List.exists_cons_of_length_pos (by have := oh.1; omega)
      obtain ⟨v, ev, rv⟩ := RpL.get' (i := 0) rx (d := dI h) rfl
      obtain ⟨ah, ys, e1, sh, rh⟩ := rv.tup_of
      cases e1
      cases RpL.ints_of rh
      walk_at "rd"
      refine ⟨A.ty, ?_⟩
      walk_at "rd"
      refine k_ixL sx (atI_nat (j := 0) ev) ?_
      walk_at "rd"
      refine k_ixT sh (v := .int h1) (atI_nat (j := 0) (by rw [eh]; rfl)) ?_
      walk_at "rd"
      refine ⟨by show 1 ≤ sizeLine; decide, fun q1 nq1 => ?_⟩
      have Sq1 := same_new nq1 (.lst [V.int (if decide (h1 = 0) = true then 1 else 0)])
      have eq1 : upd H2 q1 (.lst [V.int (if decide (h1 = 0) = true then 1 else 0)]) q1 = some (.lst [V.int (if decide (h1 = 0) = true then 1 else 0)]) := upd_same
      generalize upd H2 q1 (.lst [V.int (if decide (h1 = 0) = true then 1 else 0)]) = H3 at Sq1 eq1 ⊢
      walk_at "rd"
      refine comp_range fun Dl nD => ⟨fun j H4 => AccZ K H3 Dl H4 ((List.replicate j (0 : Int)).map Dat.int), AccZ.start (Same.refl _) nD, ?_, ?_⟩
      · intro j H4 hj B
        walk_at "rd"
        refine pushed hj ?_
        obtain ⟨zs, z1, z2⟩ := B.at_
        refine ⟨zs, z1, ?_, ⟨B.upd_same, B.new, _, upd_same, ?_⟩⟩
        · rw [z2.length, List.length_map, List.length_replicate]
          exact small1000 (by omega)
        · have w := RzL.upd (K := K) (o := .lst (zs ++ [.int 0])) (z2.append (.cons (.int 0) .nil)) z1
          rw [List.replicate_succ', List.map_append]
          exact w
      · intro H4 B
        have eB : H4 Dl = some (.lst ((List.replicate (m - 1).toNat (0 : Int)).map V.int)) := by
          obtain ⟨zs, z1, z2⟩ := B.at_
          rw [RpL.ints_of z2] at z1
          exact z1
        have Sc := B.same
        walk_at "rd"
        refine ⟨q1, Dl, _, _, rfl, rfl, Sc _ _ eq1, eB, ?_, fun q2 nq2 => ?_⟩
        · rw [List.length_map, List.length_replicate]
          exact Nat.le_of_lt (small1000 (by show 1 + _ ≤ 1000; omega))
        have Sq2 := same_new nq2 (.lst ([V.int (if decide (h1 = 0) = true then 1 else 0)] ++ (List.replicate (m - 1).toNat (0 : Int)).map V.int))
        have eq2 : upd H4 q2 (.lst ([V.int (if decide (h1 = 0) = true then 1 else 0)] ++ (List.replicate (m - 1).toNat (0 : Int)).map V.int)) q2 = some (.lst (((if decide (h1 = 0) = true then (1 : Int) else 0) :: List.replicate (m - 1).toNat (0 : Int)).map V.int)) := upd_same
        generalize upd H4 q2 (.lst ([V.int (if decide (h1 = 0) = true then 1 else 0)] ++ (List.replicate (m - 1).toNat (0 : Int)).map V.int)) = H5 at Sq2 eq2 ⊢
        walk_at "rd"
        refine k_tupL (SqL.of eq2) fun p np => ?_
        walk_at "rd"
        have Sp := same_new np (.tup (((if decide (h1 = 0) = true then (1 : Int) else 0) :: List.replicate (m - 1).toNat (0 : Int)).map V.int))
        have A5 := ((((A.on Sq1).on Sc).on Sq2).on Sp)
        refine k_appZ A5 (d := dI ((if decide (h1 = 0) = true then (1 : Int) else 0) :: List.replicate (m - 1).toNat (0 : Int))) (.tup upd_same (RpL.ints _)) (small1000 (by simp)) fun H6 A6 _ _ _ => ?_
        walk_at "rd"
        refine k l H6 ([h] ++ [_]) (by rw [List.map_append]; exact A6) ⟨nodup_snoc hp.1 fun z => ?_, all_snoc hp.2 ⟨?_, fun x hx => ?_⟩⟩ (by simp) (by simp)
        · have z' := List.mem_singleton.mp z
          rw [eh] at z'
          have z2 := (List.cons.inj z').1
          by_cases h10 : h1 = 0
          · rw [decide_eq_true h10] at z2
            simp at z2
            omega
          · rw [decide_eq_false h10] at z2
            simp at z2
            omega
        · simp
          omega
        · rcases List.mem_cons.mp hx with e | e
          · rw [e]
            by_cases h10 : h1 = 0
            · rw [decide_eq_true h10]
              simp
            · rw [decide_eq_false h10]
              simp
          · rw [(List.mem_replicate.mp e).2]
            decide
    · walk_at "rd"
      exact k l H2 hs A hp (by omega) (by omega)
end G1
namespace L2
open PySem PySem.W
mutual
def noL : Dat → Bool
  | .list _ => false
  | .tuple ds => noLs ds
  | _ => true
def noLs : List Dat → Bool
  | [] => true
  | d :: ds => noL d && noLs ds
end
mutual
theorem Rp.toZ {K : Frag} {S : Addr → Prop} {H : Hp} : ∀ {v : V} {d : Dat}, noL d = true → Rp K S H v d → Rz K H v d
  | _, _, _, .non => .non
  | _, _, _, .bl b => .bl b
  | _, _, _, .int i => .int i
  | _, _, _, .str x => .str x
  | _, _, h, .tup e r => .tup e (RpL.toZ (by simpa [noL] using h) r)
  | _, _, h, .lst _ _ _ => by simp [noL] at h
theorem RpL.toZ {K : Frag} {S : Addr → Prop} {H : Hp} : ∀ {vs : List V} {ds : List Dat}, noLs ds = true → RpL K S H vs ds → RzL K H vs ds
  | _, _, _, .nil => .nil
  | _, d :: ds, h, .cons a r => by
    have h' : noL d = true ∧ noLs ds = true := by simpa [noLs] using h
    exact .cons (Rp.toZ h'.1 a) (RpL.toZ h'.2 r)
end
theorem noLs_map {α : Type} {f : α → Dat} (h : ∀ a, noL (f a) = true) : ∀ xs : List α, noLs (xs.map f) = true
  | [] => rfl
  | x :: xs => by
    show (noL (f x) && noLs (xs.map f)) = true
    rw [h x, noLs_map h xs]
    rfl
end L2
namespace G1
open PySem L2 Fr
open PySem.W (Dat kqdOk)
theorem noL_dI (ns : List Int) : noL (dI ns) = true := noLs_map (fun _ => rfl) ns
structure Tn where
  fr : List Int
  to : List Int
  q : Int
  d : Int
def dT (t : Tn) : Dat := .tuple [dI t.fr, dI t.to, dI [t.q, t.d]]
def TurnOk (hs : List (List Int)) (t : Tn) : Prop := t.fr ∈ hs ∧ t.to ∈ hs ∧ t.fr ≠ t.to ∧ PaceOk t.q t.d
def ends2 (t : Tn) : List Int × List Int := (t.fr, t.to)
structure TurnsOk (hs : List (List Int)) (ts : List Tn) : Prop where
  ne : ts ≠ []
  le : ts.length ≤ 8
  nd : (ts.map ends2).Nodup
  ok : ∀ t ∈ ts, TurnOk hs t
def dP (p : Nat × Nat) : Dat := dI [(p.1 : Int), (p.2 : Int)]
theorem dP_inj {a b : Nat × Nat} (h : dP a = dP b) : a = b := by
  have e := dI_inj h
  have e1 : (a.1 : Int) = b.1 := (List.cons.inj e).1
  have e2 : (a.2 : Int) = b.2 := (List.cons.inj (List.cons.inj e).2).1
  obtain ⟨a1, a2⟩ := a
  obtain ⟨b1, b2⟩ := b
  have e1' : a1 = b1 := Int.ofNat.inj e1
  have e2' : a2 = b2 := Int.ofNat.inj e2
  rw [e1', e2']
theorem mem_dP {a : Nat × Nat} {ps : List (Nat × Nat)} : dP a ∈ ps.map dP ↔ a ∈ ps := by
  rw [List.mem_map]
  constructor
  · rintro ⟨b, hb, e⟩
    rw [← dP_inj e]
    exact hb
  · intro h
    exact ⟨a, h, rfl⟩
def PairOk (n : Nat) (p : Nat × Nat) : Prop := p.1 < n ∧ p.2 < n ∧ p.1 ≠ p.2
def two (hs : List (List Int)) (p : Nat × Nat) : List Int × List Int := (hs.getD p.1 [], hs.getD p.2 [])
structure Good (hs : List (List Int)) (ps : List (Nat × Nat)) (ts : List Tn) : Prop where
  nd : ps.Nodup
  le : ps.length ≤ 8
  eq : ts.map ends2 = ps.map (two hs)
  ok : ∀ p ∈ ps, PairOk hs.length p
  pc : ∀ t ∈ ts, PaceOk t.q t.d
theorem Good.nil (hs : List (List Int)) : Good hs [] [] := ⟨List.nodup_nil, by simp, rfl, by simp, by simp⟩
theorem Good.push {hs : List (List Int)} {ps : List (Nat × Nat)} {ts : List Tn} (g : Good hs ps ts) {p : Nat × Nat} {q d : Int} (n : p ∉ ps) (l : ps.length < 8) (o : PairOk hs.length p) (c : PaceOk q d) : Good hs (ps ++ [p]) (ts ++ [⟨hs.getD p.1 [], hs.getD p.2 [], q, d⟩]) :=
  ⟨nodup_snoc g.nd n, by simp; omega, by rw [List.map_append, List.map_append, g.eq]; rfl, all_snoc g.ok o, all_snoc g.pc c⟩
theorem getD_mem {hs : List (List Int)} {i : Nat} (h : i < hs.length) : hs.getD i [] ∈ hs := by
  rw [List.getD_eq_getElem?_getD, List.getElem?_eq_getElem h]
  exact List.getElem_mem h
theorem getD_inj {hs : List (List Int)} (nd : hs.Nodup) {i j : Nat} (hi : i < hs.length) (hj : j < hs.length) (e : hs.getD i [] = hs.getD j []) : i = j := by
  rw [List.getD_eq_getElem?_getD, List.getElem?_eq_getElem hi, List.getD_eq_getElem?_getD, List.getElem?_eq_getElem hj] at e
  have e' : hs[i] = hs[j] := e
  have pw := List.pairwise_iff_getElem.mp nd
  rcases Nat.lt_trichotomy i j with z | z | z
  · exact absurd e' (pw i j hi hj z)
  · exact z
  · exact absurd e'.symm (pw j i hj hi z)
theorem nodup_map_on {α β : Type} {f : α → β} : ∀ {xs : List α}, xs.Nodup → (∀ a ∈ xs, ∀ b ∈ xs, f a = f b → a = b) → (xs.map f).Nodup
  | [], _, _ => List.nodup_nil
  | x :: xs, h, hf => by
    rw [List.map_cons, List.nodup_cons]
    refine ⟨fun hm => ?_, nodup_map_on (List.nodup_cons.mp h).2 fun a ha b hb => hf a (List.mem_cons_of_mem _ ha) b (List.mem_cons_of_mem _ hb)⟩
    obtain ⟨y, hy, e⟩ := List.mem_map.mp hm
    rw [← hf y (List.mem_cons_of_mem _ hy) x List.mem_cons_self e] at h
    exact (List.nodup_cons.mp h).1 hy
theorem Good.turns {hs : List (List Int)} {ps : List (Nat × Nat)} {ts : List Tn} (g : Good hs ps ts) (nd : hs.Nodup) (ne : ps ≠ []) : TurnsOk hs ts := by
  have len : ts.length = ps.length := by have := congrArg List.length g.eq; simpa using this
  refine ⟨fun z => ?_, by rw [len]; exact g.le, ?_, fun t ht => ?_⟩
  · rw [z] at len
    exact ne (List.length_eq_zero_iff.mp len.symm)
  · rw [g.eq]
    refine nodup_map_on g.nd fun a ha b hb e => ?_
    have oa := g.ok a ha
    have ob := g.ok b hb
    have e1 := getD_inj nd oa.1 ob.1 (congrArg Prod.fst e)
    have e2 := getD_inj nd oa.2.1 ob.2.1 (congrArg Prod.snd e)
    obtain ⟨a1, a2⟩ := a
    obtain ⟨b1, b2⟩ := b
    simp only at e1 e2
    rw [e1, e2]
  · have hm : ends2 t ∈ ps.map (two hs) := by rw [← g.eq]; exact List.mem_map.mpr ⟨t, ht, rfl⟩
    obtain ⟨p, hp, e⟩ := List.mem_map.mp hm
    have op := g.ok p hp
    have e1 : hs.getD p.1 [] = t.fr := congrArg Prod.fst e
    have e2 : hs.getD p.2 [] = t.to := congrArg Prod.snd e
    refine ⟨e1 ▸ getD_mem op.1, e2 ▸ getD_mem op.2.1, fun z => op.2.2 ?_, g.pc t ht⟩
    rw [← e1, ← e2] at z
    exact getD_inj nd op.1 op.2.1 z
def spTurn (K : PySem.W.Frag) : Sp := fun vs H Q _ => ∃ (a pl : Addr) (ns : List Int) (t : Int) (S : Addr → Prop) (hs : List (List Int)), vs = [.ref a, .int t, .ref pl] ∧ SqL K H a (ns.map V.int) ∧ 0 ≤ t ∧ Rp K S H (.ref pl) (.list (hs.map dI)) ∧ hs.Nodup ∧ 2 ≤ hs.length ∧ hs.length ≤ 8 ∧
  ∀ (p : Addr) (H' : Hp) (ts : List Tn), AccZ K H p H' (ts.map dT) → TurnsOk hs ts → Q (.ref p) H'
theorem len_turn {K : PySem.W.Frag} {vs : List V} {H : Hp} {Q : VK} {E : XK} {x y z : Str} (h : spTurn K vs H Q E) : vs.length = [x, y, z].length := by
  obtain ⟨a, b, c, d, _, _, rfl, _⟩ := h
  rfl
def t_turnIn (K : PySem.W.Frag) : TS := (tFor (iList K (tSl (rSlL K) (tLst (tCons (tTup (tCons (tVar 8) (tCons (tVar 9) tNil))) (tCons (tTup (tCons (tVar 9) (tCons (tVar 8) tNil))) tNil))) tNoPart (tPart (tOp qAdd (tC (.int 1)) (tCB rInt1 (tCons (tOp rEq (tOp rMod (tVar 3) (tC (.int 4))) (tC (.int 2))) tNil)))))) (gName 10)
  (tIfS (tAnd (tTest (tOp (rInD K true) (tVar 10) (tVar 4))) (tTest (tOp rLt (tCB (rLenQ K) (tCons (tVar 4) tNil)) (tC (.int 8)))))
  (tSeq (tDrop (tBM K "list" rAppend (tVar 4) (tCons (tVar 10) tNil)))
  (tSeq (tAsg (tCall (spPace K) [] E0 (tCons (tOp (rIxL K) (tVar 7) (tOp qAdd (tC (.int 2)) (tOp rMod (tOp (rIxT K) (tVar 10) (tC (.int 0))) (tC (.int 2))))) (tCons (tOp (rIxL K) (tVar 7) (tOp qAdd (tC (.int 4)) (tOp rMod (tOp (rIxT K) (tVar 10) (tC (.int 0))) (tC (.int 2))))) (tCons (tOp rEq (tOp rMod (tOp rDiv (tVar 3) (tC (.int 32))) (tC (.int 4))) (tC (.int 1))) tNil)))) (gName 11))
  (tDrop (tBM K "list" rAppend (tVar 5) (tCons (tTup (tCons (tOp (rIxL K) (tVar 2) (tOp (rIxT K) (tVar 10) (tC (.int 0)))) (tCons (tOp (rIxL K) (tVar 2) (tOp (rIxT K) (tVar 10) (tC (.int 1)))) (tCons (tVar 11) tNil)))) tNil)))))
  tNext))
def t_turn (K : PySem.W.Frag) : TS := (tSeq (tAsg (tCall (spCell K) [] E0 (tCons (tVar 0) (tCons (tVar 1) tNil))) (gName 3))
  (tSeq (tAsg (tLst tNil) (gName 4))
  (tSeq (tAsg (tLst tNil) (gName 5))
  (tSeq (tFor (iRng1 (tCons (tOp qAdd (tC (.int 1)) (tOp rMod (tOp rDiv (tVar 3) (tC (.int 4))) (tC (.int 8)))) tNil)) (gName 6)
  (tSeq (tAsg (tCall (spMixed K) [] E0 (tCons (tCall (spCell K) [] E0 (tCons (tVar 0) (tCons (tOp qAdd (tOp qAdd (tVar 1) (tC (.int 1))) (tVar 6)) tNil))) (tCons (tC (.int 6)) tNil))) (gName 7))
  (tSeq (tAsg (tOp rMod (tOp (rIxL K) (tVar 7) (tC (.int 0))) (tCB (rLenQ K) (tCons (tVar 2) tNil))) (gName 8))
  (tSeq (tAsg (tOp rMod (tOp qAdd (tOp qAdd (tVar 8) (tC (.int 1))) (tOp rMod (tOp (rIxL K) (tVar 7) (tC (.int 1))) (tOp qSub (tCB (rLenQ K) (tCons (tVar 2) tNil)) (tC (.int 1))))) (tCB (rLenQ K) (tCons (tVar 2) tNil))) (gName 9))
  (tSeq (tIfS (tTest (tOp rEq (tOp rMod (tVar 3) (tC (.int 4))) (tC (.int 1))))
  (tSeq (tAsg (tOp rMod (tVar 6) (tCB (rLenQ K) (tCons (tVar 2) tNil))) (gName 8))
  (tAsg (tOp rMod (tOp qAdd (tVar 6) (tC (.int 1))) (tCB (rLenQ K) (tCons (tVar 2) tNil))) (gName 9)))
  tNext)
  (t_turnIn K))))))
  (tRet (tVar 5))))))
theorem six {ns : List Int} (h : ns.length = 6) (j : Nat) (hj : j < 6) (hb : ∀ n ∈ ns, Mx n) : ∃ n, Mx n ∧ atI (ns.map V.int) (j : Int) = some (.int n) := by
  have hj' : j < ns.length := by omega
  exact ⟨ns[j], hb _ (List.getElem_mem hj'), atI_nat (by rw [List.getElem?_map, List.getElem?_eq_getElem hj'] <;> rfl)⟩
theorem rd_turnIn {K : PySem.W.Frag} {H H4 : Hp} {D : Ends} {l1 l2 lx pl : Addr} {ps : List (Nat × Nat)} {ts : List Tn} {hs : List (List Int)} {xs : List V} {ys : List Int} {o w : Nat} {c : Int} {u0 u1 u6 v10 v11 : Option V}
    (A1 : AccZ K H l1 H4 (ps.map dP)) (A2 : AccZ K H l2 H4 (ts.map dT)) (g : Good hs ps ts) (ne12 : l1 ≠ l2) (sp : SqL K H pl xs) (rz : RzL K H xs (hs.map dI)) (sx : H4 lx = some (.lst (ys.map V.int))) (ly : ys.length = 6) (by_ : ∀ n ∈ ys, Mx n)
    (nx1 : lx ≠ l1) (nx2 : lx ≠ l2) (po : PairOk hs.length (o, w))
    (fin : ∀ (ps' : List (Nat × Nat)) (ts' : List Tn) (H5 : Hp) (u10 u11 : Option V), AccZ K H l1 H5 (ps'.map dP) → AccZ K H l2 H5 (ts'.map dT) → Good hs ps' ts' → ps' ≠ [] →
      D.nx [u0, u1, some (.ref pl), some (.int c), some (.ref l1), some (.ref l2), u6, some (.ref lx), some (.int (o : Int)), some (.int (w : Int)), u10, u11] H5) :
    t_turnIn K D [u0, u1, some (.ref pl), some (.int c), some (.ref l1), some (.ref l2), u6, some (.ref lx), some (.int (o : Int)), some (.int (w : Int)), v10, v11] H4 := by
  unfold t_turnIn
  walk_at "rd"
  refine ⟨by show 2 ≤ sizeLine; decide, fun p1 np1 => ?_⟩
  have Sp1 := same_new np1 (.tup [V.int (o : Int), .int (w : Int)])
  have rp1 : Rz K (upd H4 p1 (.tup [V.int (o : Int), .int (w : Int)])) (.ref p1) (dP (o, w)) := .tup upd_same (RpL.ints [_, _])
  generalize upd H4 p1 (.tup [V.int (o : Int), .int (w : Int)]) = H5 at Sp1 rp1 ⊢
  walk_at "rd"
  refine ⟨by show 2 ≤ sizeLine; decide, fun p2 np2 => ?_⟩
  have Sp2 := same_new np2 (.tup [V.int (w : Int), .int (o : Int)])
  have rp2 : Rz K (upd H5 p2 (.tup [V.int (w : Int), .int (o : Int)])) (.ref p2) (dP (w, o)) := .tup upd_same (RpL.ints [_, _])
  generalize upd H5 p2 (.tup [V.int (w : Int), .int (o : Int)]) = H6 at Sp2 rp2 ⊢
  walk_at "rd"
  refine ⟨by show 2 ≤ sizeLine; decide, fun p3 np3 => ?_⟩
  have Sp3 := same_new np3 (.lst [V.ref p1, .ref p2])
  have rp3 : upd H6 p3 (.lst [V.ref p1, .ref p2]) p3 = some (.lst [V.ref p1, .ref p2]) := upd_same
  generalize upd H6 p3 (.lst [V.ref p1, .ref p2]) = H7 at Sp3 rp3 ⊢
  walk_at "rd"
  obtain ⟨qs, cs, ec, rc, qn, qo⟩ : ∃ (qs : List (Nat × Nat)) (cs : List V), cutV [V.ref p1, .ref p2] none (some (1 + (if decide (c % 4 = 2) = true then 1 else 0))) = cs ∧ RzL K H7 cs (qs.map dP) ∧ qs ≠ [] ∧ ∀ q ∈ qs, PairOk hs.length q := by
    have r1 : Rz K H7 (.ref p1) (dP (o, w)) := (rp1.same Sp2).same Sp3
    have r2 : Rz K H7 (.ref p2) (dP (w, o)) := rp2.same Sp3
    have po' : PairOk hs.length (w, o) := ⟨po.2.1, po.1, fun z => po.2.2 z.symm⟩
    by_cases z : c % 4 = 2
    · rw [decide_eq_true z]
      refine ⟨[(o, w), (w, o)], _, rfl, .cons r1 (.cons r2 .nil), by simp, fun q hq => ?_⟩
      rcases List.mem_cons.mp hq with e | e
      · rw [e]; exact po
      · rw [List.mem_singleton.mp e]; exact po'
    · rw [decide_eq_false z]
      refine ⟨[(o, w)], _, rfl, .cons r1 .nil, by simp, fun q hq => ?_⟩
      rw [List.mem_singleton.mp hq]; exact po
  refine ⟨p3, _, rfl, SqL.of rp3, fun lp nlp => ?_⟩
  rw [ec]
  have Sp4 := same_new nlp (.lst cs)
  have rp4 : upd H7 lp (.lst cs) lp = some (.lst cs) := upd_same
  have S47 : Same H4 H7 := Sp1.trans (Sp2.trans Sp3)
  have nl1 : lp ≠ l1 := by
    obtain ⟨_, z, _⟩ := A1.at_
    exact (ne_of_none (S47 _ _ z) nlp).symm
  have nl2 : lp ≠ l2 := by
    obtain ⟨_, z, _⟩ := A2.at_
    exact (ne_of_none (S47 _ _ z) nlp).symm
  have rc8 := rc.same Sp4
  generalize upd H7 lp (.lst cs) = H8 at Sp4 rp4 rc8 ⊢
  have S48 := S47.trans Sp4
  have C1 := A1.on S48
  have C2 := A2.on S48
  have sx8 := S48 _ _ sx
  refine k_rlF (SqL.of rp4) ?_
  have lc : cs.length = qs.length := by rw [rc.length, List.length_map]
  refine fat_list (xs := cs) (fun j σ H9 => ∃ (ps' : List (Nat × Nat)) (ts' : List Tn) (u10 u11 : Option V), σ = [u0, u1, some (.ref pl), some (.int c), some (.ref l1), some (.ref l2), u6, some (.ref lx), some (.int (o : Int)), some (.int (w : Int)), u10, u11] ∧
      AccZ K H l1 H9 (ps'.map dP) ∧ AccZ K H l2 H9 (ts'.map dT) ∧ Good hs ps' ts' ∧ (0 < j → ps' ≠ []) ∧ H9 lp = some (.lst cs) ∧ RzL K H9 cs (qs.map dP) ∧ H9 lx = some (.lst (ys.map V.int)))
    ⟨ps, ts, v10, v11, rfl, C1, C2, g, by simp, rp4, rc8, sx8⟩ ?_ ?_ ?_
  · rintro j σ H9 _ ⟨_, _, _, _, _, _, _, _, _, e, _⟩
    exact SqL.of e
  · rintro j z σ H9 hz ⟨ps', ts', u10, u11, rfl, B1, B2, g', _, el, rl, ex⟩
    obtain ⟨dq, eq, rq⟩ := rl.get hz
    rw [List.getElem?_map] at eq
    obtain ⟨q, eq1, eq2⟩ := Option.map_eq_some_iff.mp eq
    subst eq2
    have oq := qo q (List.mem_of_getElem? eq1)
    obtain ⟨tz, zs, e1, st, rt⟩ := rq.tup_of
    cases e1
    cases RpL.ints_of (ns := [(q.1 : Int), (q.2 : Int)]) rt
    have okP : ∀ p : Nat × Nat, kqdOk 8 (dP p) = true := fun p => ok_dI _ 7
    walk_at "rd"
    refine k_notInD rq.rep B1.rep (fun e he => by obtain ⟨b, _, rfl⟩ := List.mem_map.mp he; exact okP b) (okP q) (fun nm => ?_) (fun mm => ?_)
    · obtain ⟨x1, s1, n1, _⟩ := B1.sq
      rw [List.length_map] at n1
      walk_at "rd"
      refine k_lenL s1 ?_
      walk_at "rd"
      refine k_ite (fun lt => ?_) (fun ge => ?_)
      · walk_at "rd"
        refine ⟨B1.ty, ?_⟩
        walk_at "rd"
        refine k_appZ B1 rq (small1000 (by rw [List.length_map]; omega)) fun H10 E1 keepZ keepB keepA => ?_
        have E2 := keepA ne12.symm B2
        have ex1 : H10 lx = some (.lst (ys.map V.int)) := (keepB lx nx1).trans ex
        have el1 : H10 lp = some (.lst cs) := (keepB lp nl1).trans el
        have rl1 : RzL K H10 cs (qs.map dP) := by
          obtain ⟨_, z1, _⟩ := B1.at_
          obtain ⟨_, z2, _⟩ := E1.at_
          exact rl.agr ⟨fun b bs r => by
            have nb : b ≠ l1 := by rintro rfl; rw [z1] at r; cases r
            exact (keepB b nb).trans r, fun b bs f => f.elim⟩
        have rq1 := keepZ rq
        obtain ⟨tz', zs', e1, st1, rt1⟩ := rq1.tup_of
        cases e1
        cases RpL.ints_of (ns := [(q.1 : Int), (q.2 : Int)]) rt1
        have hb := Nat.mod_lt q.1 (show 0 < 2 by decide)
        obtain ⟨y2, my2, ay2⟩ := six ly (2 + q.1 % 2) (by omega) by_
        obtain ⟨y4, my4, ay4⟩ := six ly (4 + q.1 % 2) (by omega) by_
        have ce2 : (2 : Int) + (q.1 : Int) % 2 = ((2 + q.1 % 2 : Nat) : Int) := by omega
        have ce4 : (4 : Int) + (q.1 : Int) % 2 = ((4 + q.1 % 2 : Nat) : Int) := by omega
        rw [← ce2] at ay2
        rw [← ce4] at ay4
        walk_at "rd"
        refine k_ixT st1 (v := .int (q.1 : Int)) rfl ?_
        walk_at "rd"
        refine k_ixL (SqL.of ex1) ay2 ?_
        walk_at "rd"
        refine k_ixT st1 (v := .int (q.1 : Int)) rfl ?_
        walk_at "rd"
        refine k_ixL (SqL.of ex1) ay4 ?_
        walk_at "rd"
        refine ⟨y2, y4, _, rfl, my2, my4, fun pp pq pd H11 S11 ok11 r11 => ?_⟩
        have F1 := E1.on S11
        have F2 := E2.on S11
        have st2 := S11.seqT st1
        have sp11 := F1.same.seq sp
        have rz11 := rz.same F1.same
        have g1 : (hs.map dI)[q.1]? = some (dI (hs.getD q.1 [])) := by rw [List.getElem?_map, List.getD_eq_getElem?_getD, List.getElem?_eq_getElem oq.1]; rfl
        have g2 : (hs.map dI)[q.2]? = some (dI (hs.getD q.2 [])) := by rw [List.getElem?_map, List.getD_eq_getElem?_getD, List.getElem?_eq_getElem oq.2.1]; rfl
        obtain ⟨w1, ew1, rw1⟩ := rz11.get' g1
        obtain ⟨w2, ew2, rw2⟩ := rz11.get' g2
        walk_at "rd"
        refine ⟨F2.ty, ?_⟩
        walk_at "rd"
        refine k_ixT st2 (v := .int (q.1 : Int)) rfl ?_
        refine k_ixL sp11 (atI_nat ew1) ?_
        walk_at "rd"
        refine k_ixT st2 (v := .int (q.2 : Int)) rfl ?_
        refine k_ixL sp11 (atI_nat ew2) ?_
        walk_at "rd"
        refine ⟨by show 3 ≤ sizeLine; decide, fun pt npt => ?_⟩
        have S12 := same_new npt (.tup [w1, w2, .ref pp])
        have r12 : Rz K (upd H11 pt (.tup [w1, w2, .ref pp])) (.ref pt) (dT ⟨hs.getD q.1 [], hs.getD q.2 [], pq, pd⟩) := .tup upd_same (.cons (rw1.same S12) (.cons (rw2.same S12) (.cons (r11.same S12) .nil)))
        have G1' := F1.on S12
        have G2' := F2.on S12
        have ex2 := S12 _ _ (S11 _ _ ex1)
        have el2 := S12 _ _ (S11 _ _ el1)
        have rl2 := (rl1.same S11).same S12
        generalize upd H11 pt (.tup [w1, w2, .ref pp]) = H12 at S12 r12 G1' G2' ex2 el2 rl2 ⊢
        have ng := g'.push (p := q) (fun z => nm (mem_dP.mpr z)) (by omega) oq ok11
        have lt2 : ts'.length = ps'.length := by have := congrArg List.length g'.eq; simpa using this
        walk_at "rd"
        refine k_appZ G2' r12 (small1000 (by rw [List.length_map]; omega)) fun H13 L2' keepZ2 keepB2 keepA2 => ?_
        have rl3 : RzL K H13 cs (qs.map dP) := by
          obtain ⟨_, z1, _⟩ := G2'.at_
          exact rl2.agr ⟨fun b bs r => by
            have nb : b ≠ l2 := by rintro rfl; rw [z1] at r; cases r
            exact (keepB2 b nb).trans r, fun b bs f => f.elim⟩
        walk_at "rd"
        refine ⟨ps' ++ [q], ts' ++ [_], _, _, rfl, ?_, ?_, ng, by simp, (keepB2 lp nl2).trans el2, rl3, (keepB2 lx nx2).trans ex2⟩
        · have := keepA2 ne12 G1'
          rw [List.map_append]
          exact this
        · rw [List.map_append]
          exact L2'
      · walk_at "rd"
        exact ⟨ps', ts', _, _, rfl, B1, B2, g', (fun _ z => by have z0 : x1.length = 0 := (by rw [n1, z]; rfl); omega), el, rl, ex⟩
    · walk_at "rd"
      exact ⟨ps', ts', _, _, rfl, B1, B2, g', (fun _ z => by rw [z] at mm; cases mm), el, rl, ex⟩
  · rintro σ H9 ⟨ps', ts', u10, u11, rfl, B1, B2, g', hne, _⟩
    exact fin ps' ts' H9 u10 u11 B1 B2 g' (hne (by rw [lc]; exact List.length_pos_iff.mpr qn))
theorem rd_turn {K : PySem.W.Frag} {vs : List V} {H : Hp} {Q : VK} {E : XK} {N : List Str} (hN : N.length = 12) (h : spTurn K vs H Q E) : t_turn K (ends Q) (L2.start N vs) H := by
  obtain ⟨a, pl, ns, t, S, hs, rfl, hS, t0, rp, ndh, h2, h8, k⟩ := h
  rw [show L2.start N [.ref a, .int t, .ref pl] = [some (.ref a), some (.int t), some (.ref pl), none, none, none, none, none, none, none, none, none] by unfold L2.start; rw [hN]; rfl]
  obtain ⟨pl', xs, e0, _, sp, rp'⟩ := rp.lst_of
  cases e0
  have rz : RzL K H xs (hs.map dI) := rp'.toZ (noLs_map noL_dI hs)
  have lx0 : xs.length = hs.length := by rw [rz.length, List.length_map]
  unfold t_turn
  walk_at "rd"
  refine ⟨a, ns, t, rfl, hS, t0, ?_⟩
  generalize cellOf ns t = c
  walk_at "rd"
  refine ⟨by decide, fun l1 n1 => ?_⟩
  have S1 := same_new n1 (.lst [])
  have A10 : AccZ K H l1 (upd H l1 (.lst [])) (([] : List (Nat × Nat)).map dP) := AccZ.start (Same.refl _) n1
  generalize upd H l1 (.lst []) = H1 at S1 A10 ⊢
  walk_at "rd"
  refine ⟨by decide, fun l2 n2 => ?_⟩
  have S2 := same_new n2 (.lst [])
  have A20 : AccZ K H l2 (upd H1 l2 (.lst [])) (([] : List Tn).map dT) := AccZ.start S1 n2
  have A11 := A10.on S2
  have ne12 : l1 ≠ l2 := by
    obtain ⟨_, z, _⟩ := A10.at_
    exact ne_of_none z n2
  generalize upd H1 l2 (.lst []) = H2 at S2 A20 A11 ⊢
  walk_at "rd"
  refine fat_range (fun i σ H3 => ∃ (ps : List (Nat × Nat)) (ts : List Tn) (v6 v7 v8 v9 v10 v11 : Option V), σ = [some (.ref a), some (.int t), some (.ref pl), some (.int c), some (.ref l1), some (.ref l2), v6, v7, v8, v9, v10, v11] ∧ AccZ K H l1 H3 (ps.map dP) ∧ AccZ K H l2 H3 (ts.map dT) ∧ Good hs ps ts ∧ (0 < i → ps ≠ []))
    ⟨[], [], none, none, none, none, none, none, rfl, A11, A20, Good.nil hs, by simp⟩ ?_ ?_
  · rintro i σ H3 hi ⟨ps, ts, v6, v7, v8, v9, v10, v11, rfl, A1, A2, g, hne⟩
    walk_at "rd"
    refine ⟨a, ns, t + 1 + (0 + (i : Int)), rfl, A1.same.seq hS, by omega, ?_⟩
    generalize cellOf ns (t + 1 + (0 + (i : Int))) = c1
    walk_at "rd"
    refine ⟨c1, 6, rfl, by decide, by decide, fun lx H4 ys X4 ly by_ => ?_⟩
    have S4 := X4.same
    have ex := AccZ.ints X4
    obtain ⟨x0, m0, a0⟩ := six ly 0 (by decide) by_
    obtain ⟨x1, m1, a1⟩ := six ly 1 (by decide) by_
    have nx1 : lx ≠ l1 := by
      obtain ⟨_, z, _⟩ := A1.at_
      exact (ne_of_none z X4.new).symm
    have nx2 : lx ≠ l2 := by
      obtain ⟨_, z, _⟩ := A2.at_
      exact (ne_of_none z X4.new).symm
    have B1 := A1.on S4
    have B2 := A2.on S4
    have sp4 := B1.same.seq sp
    have n0 : (0 : Int) < (xs.length : Int) := by omega
    have n1' : (0 : Int) < (xs.length : Int) - 1 := by omega
    have f0 := Int.emod_nonneg x0 (b := (xs.length : Int)) (by omega)
    have f1 := Int.emod_lt_of_pos x0 n0
    have f2 := Int.emod_nonneg x1 (b := (xs.length : Int) - 1) (by omega)
    have f3 := Int.emod_lt_of_pos x1 n1'
    have f4 := Int.emod_nonneg (x0 % (xs.length : Int) + 1 + x1 % ((xs.length : Int) - 1)) (b := (xs.length : Int)) (by omega)
    have f5 := Int.emod_lt_of_pos (x0 % (xs.length : Int) + 1 + x1 % ((xs.length : Int) - 1)) n0
    walk_at "rd"
    refine k_ixL (SqL.of ex) a0 ?_
    walk_at "rd"
    refine k_lenL sp4 ?_
    walk_at "rd"
    refine k_ixL (SqL.of ex) a1 ?_
    walk_at "rd"
    refine k_lenL sp4 ?_
    walk_at "rd"
    refine k_lenL sp4 ?_
    walk_at "rd"
    have near : ∀ (n u v : Int), 0 ≤ u → u < n → 0 ≤ v → v < n - 1 → (u + 1 + v) % n ≠ u := by
      intro n u v h1 h2 h3 h4 e
      by_cases z : u + 1 + v < n
      · rw [Int.emod_eq_of_lt (by omega) z] at e
        omega
      · have e2 : (u + 1 + v) % n = u + 1 + v - n := by
          rw [← Int.sub_emod_right, Int.emod_eq_of_lt (by omega) (by omega)]
        omega
    refine k_ite (fun cz => ?_) (fun cz => ?_)
    · have h0 := Int.emod_nonneg (0 + (i : Int)) (b := (xs.length : Int)) (by omega)
      have h1 := Int.emod_lt_of_pos (0 + (i : Int)) n0
      have h2' := Int.emod_nonneg (0 + (i : Int) + 1) (b := (xs.length : Int)) (by omega)
      have h3 := Int.emod_lt_of_pos (0 + (i : Int) + 1) n0
      have hne2 : (0 + (i : Int) + 1) % (xs.length : Int) ≠ (0 + (i : Int)) % (xs.length : Int) := by
        have z := near (xs.length : Int) ((0 + (i : Int)) % (xs.length : Int)) 0 h0 h1 (by omega) (by omega)
        rw [Int.add_zero, Int.emod_add_emod] at z
        exact z
      walk_at "rd"
      refine k_lenL sp4 ?_
      walk_at "rd"
      refine k_lenL sp4 ?_
      walk_at "rd"
      have eo : (0 + (i : Int)) % (xs.length : Int) = ((((0 + (i : Int)) % (xs.length : Int)).toNat : Nat) : Int) := by omega
      have ew : (0 + (i : Int) + 1) % (xs.length : Int) = ((((0 + (i : Int) + 1) % (xs.length : Int)).toNat : Nat) : Int) := by omega
      rw [eo, ew]
      refine rd_turnIn B1 B2 g ne12 sp rz ex ly by_ nx1 nx2 ⟨?_, ?_, ?_⟩ fun ps' ts' H5 u10 u11 D1 D2 g' ne' => ?_
      · dsimp only; omega
      · dsimp only; omega
      · dsimp only; omega
      · exact ⟨ps', ts', _, _, _, _, _, _, rfl, D1, D2, g', fun _ => ne'⟩
    · walk_at "rd"
      have hne2 := near (xs.length : Int) (x0 % (xs.length : Int)) (x1 % ((xs.length : Int) - 1)) f0 f1 f2 f3
      have eo : x0 % (xs.length : Int) = (((x0 % (xs.length : Int)).toNat : Nat) : Int) := by omega
      have ew : (x0 % (xs.length : Int) + 1 + x1 % ((xs.length : Int) - 1)) % (xs.length : Int) = ((((x0 % (xs.length : Int) + 1 + x1 % ((xs.length : Int) - 1)) % (xs.length : Int)).toNat : Nat) : Int) := by omega
      generalize (x0 % (xs.length : Int) + 1 + x1 % ((xs.length : Int) - 1)) % (xs.length : Int) = yw at *
      generalize x0 % (xs.length : Int) = yo at *
      rw [eo, ew]
      refine rd_turnIn B1 B2 g ne12 sp rz ex ly by_ nx1 nx2 ⟨?_, ?_, ?_⟩ fun ps' ts' H5 u10 u11 D1 D2 g' ne' => ?_
      · dsimp only; omega
      · dsimp only; omega
      · dsimp only; omega
      · exact ⟨ps', ts', _, _, _, _, _, _, rfl, D1, D2, g', fun _ => ne'⟩
  · rintro σ H3 ⟨ps, ts, v6, v7, v8, v9, v10, v11, rfl, A1, A2, g, hne⟩
    walk_at "rd"
    exact k l2 H3 ts A2 (g.turns ndh (hne (by omega)))
structure VesOk (ws : List Str) (ts : List Tn) : Prop where
  words : WordsOk ws
  w1 : 1 ≤ ws.length
  w5 : ws.length ≤ 5
  turns : ∃ hs, PoolOk ws.length hs ∧ hs.length ≤ 8 ∧ TurnsOk hs ts
def dV (ws : List Str) (ts : List Tn) : Dat := .tuple [.tuple (ws.map Dat.str), .tuple (ts.map dT)]
def spVessel (K : PySem.W.Frag) : Sp := fun vs H Q _ => ∃ (a : Addr) (ns : List Int), vs = [.ref a] ∧ SqL K H a (ns.map V.int) ∧ ∀ (p : Addr) (H' : Hp) (ws : List Str) (ts : List Tn), Same H H' → VesOk ws ts → Rz K H' (.ref p) (dV ws ts) → Q (.ref p) H'
theorem len_vessel {K : PySem.W.Frag} {vs : List V} {H : Hp} {Q : VK} {E : XK} {x : Str} (h : spVessel K vs H Q E) : vs.length = [x].length := by
  obtain ⟨a, b, rfl, _⟩ := h
  rfl
def t_vessel (K : PySem.W.Frag) : TS := (tSeq (tAsg (tOp qAdd (tC (.int 1)) (tOp rMod (tCall (spCell K) [] E0 (tCons (tVar 0) (tCons (tC (.int 0)) tNil))) (tC (.int 5)))) (gName 1))
  (tSeq (tAsg (tCall (spWords K) [] E0 (tCons (tVar 0) (tCons (tC (.int 1)) (tCons (tVar 1) tNil)))) (gName 2))
  (tRet (tTup (tCons (tCB (rTupOf K) (tCons (tVar 2) tNil)) (tCons (tCB (rTupOf K) (tCons (tCall (spTurn K) [] E0 (tCons (tVar 0) (tCons (tC (.int 12)) (tCons (tCall (spPool K) [] E0 (tCons (tVar 0) (tCons (tC (.int 3)) (tCons (tVar 1) tNil)))) tNil)))) tNil)) tNil))))))
theorem rd_vessel {K : PySem.W.Frag} {vs : List V} {H : Hp} {Q : VK} {E : XK} {N : List Str} (hN : N.length = 3) (h : spVessel K vs H Q E) : t_vessel K (ends Q) (L2.start N vs) H := by
  obtain ⟨a, ns, rfl, hS, k⟩ := h
  rw [show L2.start N [.ref a] = [some (.ref a), none, none] by unfold L2.start; rw [hN]; rfl]
  unfold t_vessel
  walk_at "rd"
  refine ⟨a, ns, 0, rfl, hS, by decide, ?_⟩
  generalize cellOf ns 0 = c
  walk_at "rd"
  refine ⟨a, ns, 1, 1 + c % 5, rfl, hS, by decide, by omega, by omega, fun pw H1 ws A1 ow lw => ?_⟩
  have ew := AccZ.strs A1
  walk_at "rd"
  refine k_tupL (SqL.of ew) fun tw ntw => ?_
  have S2 := same_new ntw (.tup (ws.map V.str))
  have r2 : Rz K (upd H1 tw (.tup (ws.map V.str))) (.ref tw) (.tuple (ws.map Dat.str)) := .tup upd_same (RpL.strs ws)
  generalize upd H1 tw (.tup (ws.map V.str)) = H2 at S2 r2 ⊢
  have S02 := A1.same.trans S2
  walk_at "rd"
  refine ⟨a, ns, 3, 1 + c % 5, rfl, S02.seq hS, by decide, by omega, by omega, fun pp H3 hs A3 op h2 h8 => ?_⟩
  have S03 := S02.trans A3.same
  walk_at "rd"
  refine ⟨a, pp, ns, 12, _, hs, rfl, S03.seq hS, by decide, A3.ref, op.1, h2, h8, fun pt H4 ts A4 ot => ?_⟩
  obtain ⟨xs, e4, r4⟩ := A4.at_
  walk_at "rd"
  refine k_tupL (SqL.of e4) fun tt ntt => ?_
  have S5 := same_new ntt (.tup xs)
  have r5 : Rz K (upd H4 tt (.tup xs)) (.ref tt) (.tuple (ts.map dT)) := .tup upd_same (r4.same S5)
  generalize upd H4 tt (.tup xs) = H5 at S5 r5 ⊢
  walk_at "rd"
  refine ⟨by show 2 ≤ sizeLine; decide, fun p np => ?_⟩
  have S6 := same_new np (.tup [.ref tw, .ref tt])
  refine k p _ ws ts (S03.trans (A4.same.trans (S5.trans S6))) ⟨ow, by omega, by omega, hs, ?_, h8, ot⟩ (.tup upd_same (.cons ((((r2.same A3.same).same A4.same).same S5).same S6) (.cons (r5.same S6) .nil)))
  rw [lw]
  exact op
end G1
namespace L2
open PySem PySem.Spec PyProof.Rows
open PySem.W (Dat kqdOk)
theorem kit_NoneType_bool {K : PySem.W.Frag} : PySem.W.kitOne K (.type "NoneType") (.type "bool") = some false := by
  show PySem.W.kitCls K (.type "NoneType") (.type "bool") = some false; unfold PySem.W.kitCls; kernel_rfl
theorem kit_NoneType_int {K : PySem.W.Frag} : PySem.W.kitOne K (.type "NoneType") (.type "int") = some false := by
  show PySem.W.kitCls K (.type "NoneType") (.type "int") = some false; unfold PySem.W.kitCls; kernel_rfl
theorem kit_NoneType_str {K : PySem.W.Frag} : PySem.W.kitOne K (.type "NoneType") (.type "str") = some false := by
  show PySem.W.kitCls K (.type "NoneType") (.type "str") = some false; unfold PySem.W.kitCls; kernel_rfl
theorem kit_NoneType_tuple {K : PySem.W.Frag} : PySem.W.kitOne K (.type "NoneType") (.type "tuple") = some false := by
  show PySem.W.kitCls K (.type "NoneType") (.type "tuple") = some false; unfold PySem.W.kitCls; kernel_rfl
theorem kit_NoneType_list {K : PySem.W.Frag} : PySem.W.kitOne K (.type "NoneType") (.type "list") = some false := by
  show PySem.W.kitCls K (.type "NoneType") (.type "list") = some false; unfold PySem.W.kitCls; kernel_rfl
theorem kit_bool_bool {K : PySem.W.Frag} : PySem.W.kitOne K (.type "bool") (.type "bool") = some true := by rfl
theorem kit_bool_int {K : PySem.W.Frag} : PySem.W.kitOne K (.type "bool") (.type "int") = some true := by
  show PySem.W.kitCls K (.type "bool") (.type "int") = some true; unfold PySem.W.kitCls; kernel_rfl
theorem kit_bool_str {K : PySem.W.Frag} : PySem.W.kitOne K (.type "bool") (.type "str") = some false := by
  show PySem.W.kitCls K (.type "bool") (.type "str") = some false; unfold PySem.W.kitCls; kernel_rfl
theorem kit_bool_tuple {K : PySem.W.Frag} : PySem.W.kitOne K (.type "bool") (.type "tuple") = some false := by
  show PySem.W.kitCls K (.type "bool") (.type "tuple") = some false; unfold PySem.W.kitCls; kernel_rfl
theorem kit_bool_list {K : PySem.W.Frag} : PySem.W.kitOne K (.type "bool") (.type "list") = some false := by
  show PySem.W.kitCls K (.type "bool") (.type "list") = some false; unfold PySem.W.kitCls; kernel_rfl
theorem kit_int_bool {K : PySem.W.Frag} : PySem.W.kitOne K (.type "int") (.type "bool") = some false := by
  show PySem.W.kitCls K (.type "int") (.type "bool") = some false; unfold PySem.W.kitCls; kernel_rfl
theorem kit_int_int {K : PySem.W.Frag} : PySem.W.kitOne K (.type "int") (.type "int") = some true := by rfl
theorem kit_int_str {K : PySem.W.Frag} : PySem.W.kitOne K (.type "int") (.type "str") = some false := by
  show PySem.W.kitCls K (.type "int") (.type "str") = some false; unfold PySem.W.kitCls; kernel_rfl
theorem kit_int_tuple {K : PySem.W.Frag} : PySem.W.kitOne K (.type "int") (.type "tuple") = some false := by
  show PySem.W.kitCls K (.type "int") (.type "tuple") = some false; unfold PySem.W.kitCls; kernel_rfl
theorem kit_int_list {K : PySem.W.Frag} : PySem.W.kitOne K (.type "int") (.type "list") = some false := by
  show PySem.W.kitCls K (.type "int") (.type "list") = some false; unfold PySem.W.kitCls; kernel_rfl
theorem kit_str_bool {K : PySem.W.Frag} : PySem.W.kitOne K (.type "str") (.type "bool") = some false := by
  show PySem.W.kitCls K (.type "str") (.type "bool") = some false; unfold PySem.W.kitCls; kernel_rfl
theorem kit_str_int {K : PySem.W.Frag} : PySem.W.kitOne K (.type "str") (.type "int") = some false := by
  show PySem.W.kitCls K (.type "str") (.type "int") = some false; unfold PySem.W.kitCls; kernel_rfl
theorem kit_str_str {K : PySem.W.Frag} : PySem.W.kitOne K (.type "str") (.type "str") = some true := by rfl
theorem kit_str_tuple {K : PySem.W.Frag} : PySem.W.kitOne K (.type "str") (.type "tuple") = some false := by
  show PySem.W.kitCls K (.type "str") (.type "tuple") = some false; unfold PySem.W.kitCls; kernel_rfl
theorem kit_str_list {K : PySem.W.Frag} : PySem.W.kitOne K (.type "str") (.type "list") = some false := by
  show PySem.W.kitCls K (.type "str") (.type "list") = some false; unfold PySem.W.kitCls; kernel_rfl
theorem kit_tuple_bool {K : PySem.W.Frag} : PySem.W.kitOne K (.type "tuple") (.type "bool") = some false := by
  show PySem.W.kitCls K (.type "tuple") (.type "bool") = some false; unfold PySem.W.kitCls; kernel_rfl
theorem kit_tuple_int {K : PySem.W.Frag} : PySem.W.kitOne K (.type "tuple") (.type "int") = some false := by
  show PySem.W.kitCls K (.type "tuple") (.type "int") = some false; unfold PySem.W.kitCls; kernel_rfl
theorem kit_tuple_str {K : PySem.W.Frag} : PySem.W.kitOne K (.type "tuple") (.type "str") = some false := by
  show PySem.W.kitCls K (.type "tuple") (.type "str") = some false; unfold PySem.W.kitCls; kernel_rfl
theorem kit_tuple_tuple {K : PySem.W.Frag} : PySem.W.kitOne K (.type "tuple") (.type "tuple") = some true := by rfl
theorem kit_tuple_list {K : PySem.W.Frag} : PySem.W.kitOne K (.type "tuple") (.type "list") = some false := by
  show PySem.W.kitCls K (.type "tuple") (.type "list") = some false; unfold PySem.W.kitCls; kernel_rfl
theorem kit_list_bool {K : PySem.W.Frag} : PySem.W.kitOne K (.type "list") (.type "bool") = some false := by
  show PySem.W.kitCls K (.type "list") (.type "bool") = some false; unfold PySem.W.kitCls; kernel_rfl
theorem kit_list_int {K : PySem.W.Frag} : PySem.W.kitOne K (.type "list") (.type "int") = some false := by
  show PySem.W.kitCls K (.type "list") (.type "int") = some false; unfold PySem.W.kitCls; kernel_rfl
theorem kit_list_str {K : PySem.W.Frag} : PySem.W.kitOne K (.type "list") (.type "str") = some false := by
  show PySem.W.kitCls K (.type "list") (.type "str") = some false; unfold PySem.W.kitCls; kernel_rfl
theorem kit_list_tuple {K : PySem.W.Frag} : PySem.W.kitOne K (.type "list") (.type "tuple") = some false := by
  show PySem.W.kitCls K (.type "list") (.type "tuple") = some false; unfold PySem.W.kitCls; kernel_rfl
theorem kit_list_list {K : PySem.W.Frag} : PySem.W.kitOne K (.type "list") (.type "list") = some true := by rfl
abbrev Ra (K : PySem.W.Frag) (H : Hp) : V → Dat → Prop := Rp K (fun _ => True) H
abbrev RaL (K : PySem.W.Frag) (H : Hp) : List V → List Dat → Prop := RpL K (fun _ => True) H
theorem Rp.a {K : PySem.W.Frag} {S : Addr → Prop} {H : Hp} {v : V} {d : Dat} (h : Rp K S H v d) : Ra K H v d := h.mono fun _ _ => trivial
def okS : Nat → Dat → Bool
  | _, .none => true
  | _, .bool _ => true
  | _, .int _ => true
  | _, .str _ => true
  | n + 1, .tuple ds => decide (ds.length ≤ 1000) && ds.all (okS n)
  | n + 1, .list ds => decide (ds.length ≤ 1000) && ds.all (okS n)
  | _, _ => false
theorem okS_t {n : Nat} {ds : List Dat} (l : ds.length ≤ 1000) (h : ∀ d ∈ ds, okS n d = true) : okS (n + 1) (.tuple ds) = true := by
  show (decide (ds.length ≤ 1000) && ds.all (okS n)) = true
  rw [decide_eq_true l, Bool.true_and, List.all_eq_true]
  exact h
theorem okS_l {n : Nat} {ds : List Dat} (l : ds.length ≤ 1000) (h : ∀ d ∈ ds, okS n d = true) : okS (n + 1) (.list ds) = true := by
  show (decide (ds.length ≤ 1000) && ds.all (okS n)) = true
  rw [decide_eq_true l, Bool.true_and, List.all_eq_true]
  exact h
theorem okS_of {n : Nat} {ds : List Dat} (h : (decide (ds.length ≤ 1000) && ds.all (okS n)) = true) : ds.length ≤ 1000 ∧ ∀ d ∈ ds, okS n d = true := by
  rw [Bool.and_eq_true, List.all_eq_true] at h
  exact ⟨of_decide_eq_true h.1, h.2⟩
theorem k_ixQT {K : PySem.W.Frag} {H : Hp} {Q : VK} {p : Addr} {xs : List V} {i : Int} {v : V} (e : SqT K H p xs) (a : atI xs i = some v) (h : Q v H) : rIx K (.ref p) (.int i) H Q := .inr (.inl (k_ixT e a h))
theorem k_ixQL {K : PySem.W.Frag} {H : Hp} {Q : VK} {p : Addr} {xs : List V} {i : Int} {v : V} (e : SqL K H p xs) (a : atI xs i = some v) (h : Q v H) : rIx K (.ref p) (.int i) H Q := .inl (k_ixL e a h)
end L2
namespace Sm
open PySem L2 G1
open PySem.W (Dat kqdOk)
def spSame (K : PySem.W.Frag) (n : Nat) : Sp := fun vs H Q _ => ∃ (v1 v2 : V) (d1 d2 : Dat), vs = [v1, v2] ∧ Ra K H v1 d1 ∧ Ra K H v2 d2 ∧ okS n d2 = true ∧ (d1 = d2 → Q (.bl true) H) ∧ (d1 ≠ d2 → Q (.bl false) H)
theorem len_same {K : PySem.W.Frag} {n : Nat} {vs : List V} {H : Hp} {Q : VK} {E : XK} {x y : Str} (h : spSame K n vs H Q E) : vs.length = [x, y].length := by
  obtain ⟨a, b, c, d, rfl, _⟩ := h
  rfl
def t_sameS (K : PySem.W.Frag) : TS := (tSeq (tIfS (tB (tCB (rIsi K) (tCons (tVar 1) (tCons (tC (.ty "bool")) tNil))))
  (tRet (tAndV (tCB (rIsi K) (tCons (tVar 0) (tCons (tC (.ty "bool")) tNil))) (tOp rEq (tVar 0) (tVar 1))))
  tNext)
  (tSeq (tIfS (tB (tCB (rIsi K) (tCons (tVar 1) (tCons (tC (.ty "int")) tNil))))
  (tRet (tAndV (tCB (rIsi K) (tCons (tVar 0) (tCons (tC (.ty "int")) tNil))) (tAndV (tNotV (tCB (rIsi K) (tCons (tVar 0) (tCons (tC (.ty "bool")) tNil)))) (tOp rEq (tVar 0) (tVar 1)))))
  tNext)
  (tSeq (tIfS (tB (tCB (rIsi K) (tCons (tVar 1) (tCons (tC (.ty "str")) tNil))))
  (tRet (tAndV (tCB (rIsi K) (tCons (tVar 0) (tCons (tC (.ty "str")) tNil))) (tOp rEq (tVar 0) (tVar 1))))
  tNext)
  (tRet (tAndV (tOp rIsN (tVar 1) (tC .non)) (tOp rIsN (tVar 0) (tC .non)))))))
def t_sameB (K : PySem.W.Frag) (m : Nat) : TS := (tSeq (tIfS (tTest (tOp rNe (tCB (rLenQ K) (tCons (tVar 0) tNil)) (tCB (rLenQ K) (tCons (tVar 1) tNil))))
  (tRet (tC (.bl false)))
  tNext)
  (tSeq (tFor (iRng1 (tCons (tCB (rLenQ K) (tCons (tVar 1) tNil)) tNil)) (gName 2)
  (tIfS (tNot (tB (tCall (spSame K m) [] E0 (tCons (tOp (rIx K) (tVar 0) (tVar 2)) (tCons (tOp (rIx K) (tVar 1) (tVar 2)) tNil)))))
  (tRet (tC (.bl false)))
  tNext))
  (tRet (tC (.bl true)))))
def t_same0 (K : PySem.W.Frag) : TS := (tSeq (tIfS (tOr (tB (tCB (rIsi K) (tCons (tVar 1) (tCons (tC (.ty "tuple")) tNil)))) (tB (tCB (rIsi K) (tCons (tVar 1) (tCons (tC (.ty "list")) tNil)))))
  tNever
  tNext)
  (t_sameS K))
def t_same (K : PySem.W.Frag) (m : Nat) : TS := (tSeq (tIfS (tOr (tB (tCB (rIsi K) (tCons (tVar 1) (tCons (tC (.ty "tuple")) tNil)))) (tB (tCB (rIsi K) (tCons (tVar 1) (tCons (tC (.ty "list")) tNil)))))
  (tSeq (tIfS (tOr (tTest (tOp rNe (tCB (rIsi K) (tCons (tVar 0) (tCons (tC (.ty "tuple")) tNil))) (tCB (rIsi K) (tCons (tVar 1) (tCons (tC (.ty "tuple")) tNil))))) (tTest (tOp rNe (tCB (rIsi K) (tCons (tVar 0) (tCons (tC (.ty "list")) tNil))) (tCB (rIsi K) (tCons (tVar 1) (tCons (tC (.ty "list")) tNil))))))
  (tRet (tC (.bl false)))
  tNext)
  (t_sameB K m))
  tNext)
  (t_sameS K))
theorem rd_scal {K : PySem.W.Frag} {H : Hp} {Q : VK} {v1 v2 : V} {d1 d2 : Dat} {u : Option V} (r1 : Ra K H v1 d1) (r2 : Ra K H v2 d2) (n1 : ∀ ds, d2 ≠ .tuple ds) (n2 : ∀ ds, d2 ≠ .list ds) (h1 : d1 = d2 → Q (.bl true) H) (h2 : d1 ≠ d2 → Q (.bl false) H) :
    t_sameS K (ends Q) [some v1, some v2, u] H := by
  have no : ∀ {a b : Dat}, (a = b → False) → d1 = a → d2 = b → Q (.bl false) H := fun q e1 e2 => h2 fun z => q (e1.symm.trans (z.trans e2))
  unfold t_sameS
  cases r2 with
  | non =>
    walk_at "rd"
    refine k_isi .non kit_NoneType_bool ?_
    walk_at "rd"
    refine k_isi .non kit_NoneType_int ?_
    walk_at "rd"
    refine k_isi .non kit_NoneType_str ?_
    walk_at "rd"
    refine k_ite (fun _ => ?_) (fun z => absurd rfl z)
    walk_at "rd"
    cases r1 with
    | non => exact h1 rfl
    | bl b => exact h2 (fun z => by cases z)
    | int b => exact h2 (fun z => by cases z)
    | str b => exact h2 (fun z => by cases z)
    | tup e r => exact h2 (fun z => by cases z)
    | lst s e r => exact h2 (fun z => by cases z)
  | bl b =>
    walk_at "rd"
    refine k_isi (.bl b) kit_bool_bool ?_
    walk_at "rd"
    cases r1 with
    | non =>
      refine k_isi .non kit_NoneType_bool ?_
      walk_at "rd"
      exact h2 (fun z => by cases z)
    | bl c =>
      refine k_isi (.bl c) kit_bool_bool ?_
      walk_at "rd"
      by_cases z : c = b
      · rw [decide_eq_true z]
        exact h1 (by rw [z])
      · rw [decide_eq_false z]
        exact h2 (fun q => z (Dat.bool.inj q))
    | int c =>
      refine k_isi (.int c) kit_int_bool ?_
      walk_at "rd"
      exact h2 (fun z => by cases z)
    | str c =>
      refine k_isi (.str c) kit_str_bool ?_
      walk_at "rd"
      exact h2 (fun z => by cases z)
    | tup e r =>
      refine k_isi (.tup e) kit_tuple_bool ?_
      walk_at "rd"
      exact h2 (fun z => by cases z)
    | lst s e r =>
      refine k_isi (.lst e) kit_list_bool ?_
      walk_at "rd"
      exact h2 (fun z => by cases z)
  | int b =>
    walk_at "rd"
    refine k_isi (.int b) kit_int_bool ?_
    walk_at "rd"
    refine k_isi (.int b) kit_int_int ?_
    walk_at "rd"
    cases r1 with
    | non =>
      refine k_isi .non kit_NoneType_int ?_
      walk_at "rd"
      exact h2 (fun z => by cases z)
    | bl c =>
      refine k_isi (.bl c) kit_bool_int ?_
      walk_at "rd"
      refine k_isi (.bl c) kit_bool_bool ?_
      walk_at "rd"
      exact h2 (fun z => by cases z)
    | int c =>
      refine k_isi (.int c) kit_int_int ?_
      walk_at "rd"
      refine k_isi (.int c) kit_int_bool ?_
      walk_at "rd"
      by_cases z : c = b
      · rw [decide_eq_true z]
        exact h1 (by rw [z])
      · rw [decide_eq_false z]
        exact h2 (fun q => z (Dat.int.inj q))
    | str c =>
      refine k_isi (.str c) kit_str_int ?_
      walk_at "rd"
      exact h2 (fun z => by cases z)
    | tup e r =>
      refine k_isi (.tup e) kit_tuple_int ?_
      walk_at "rd"
      exact h2 (fun z => by cases z)
    | lst s e r =>
      refine k_isi (.lst e) kit_list_int ?_
      walk_at "rd"
      exact h2 (fun z => by cases z)
  | str b =>
    walk_at "rd"
    refine k_isi (.str b) kit_str_bool ?_
    walk_at "rd"
    refine k_isi (.str b) kit_str_int ?_
    walk_at "rd"
    refine k_isi (.str b) kit_str_str ?_
    walk_at "rd"
    cases r1 with
    | non =>
      refine k_isi .non kit_NoneType_str ?_
      walk_at "rd"
      exact h2 (fun z => by cases z)
    | bl c =>
      refine k_isi (.bl c) kit_bool_str ?_
      walk_at "rd"
      exact h2 (fun z => by cases z)
    | int c =>
      refine k_isi (.int c) kit_int_str ?_
      walk_at "rd"
      exact h2 (fun z => by cases z)
    | str c =>
      refine k_isi (.str c) kit_str_str ?_
      walk_at "rd"
      by_cases z : c = b
      · rw [decide_eq_true z]
        exact h1 (by rw [z])
      · rw [decide_eq_false z]
        exact h2 (fun q => z (Dat.str.inj q))
    | tup e r =>
      refine k_isi (.tup e) kit_tuple_str ?_
      walk_at "rd"
      exact h2 (fun z => by cases z)
    | lst s e r =>
      refine k_isi (.lst e) kit_list_str ?_
      walk_at "rd"
      exact h2 (fun z => by cases z)
  | tup e r => exact absurd rfl (n1 _)
  | lst s e r => exact absurd rfl (n2 _)
theorem rd_same0 {K : PySem.W.Frag} {vs : List V} {H : Hp} {Q : VK} {E : XK} {N : List Str} (hN : N.length = 3) (h : spSame K 0 vs H Q E) : t_same0 K (ends Q) (L2.start N vs) H := by
  obtain ⟨v1, v2, d1, d2, rfl, r1, r2, ok, h1, h2⟩ := h
  rw [show L2.start N [v1, v2] = [some v1, some v2, none] by unfold L2.start; rw [hN]; rfl]
  have n1 : ∀ ds, d2 ≠ .tuple ds := fun ds z => by rw [z] at ok; cases ok
  have n2 : ∀ ds, d2 ≠ .list ds := fun ds z => by rw [z] at ok; cases ok
  have fin := rd_scal (u := none) r1 r2 n1 n2 h1 h2
  unfold t_same0
  cases r2 with
  | non =>
    walk_at "rd"
    refine k_isi .non kit_NoneType_tuple ?_
    walk_at "rd"
    refine k_isi .non kit_NoneType_list ?_
    walk_at "rd"
    exact fin
  | bl b =>
    walk_at "rd"
    refine k_isi (.bl b) kit_bool_tuple ?_
    walk_at "rd"
    refine k_isi (.bl b) kit_bool_list ?_
    walk_at "rd"
    exact fin
  | int b =>
    walk_at "rd"
    refine k_isi (.int b) kit_int_tuple ?_
    walk_at "rd"
    refine k_isi (.int b) kit_int_list ?_
    walk_at "rd"
    exact fin
  | str b =>
    walk_at "rd"
    refine k_isi (.str b) kit_str_tuple ?_
    walk_at "rd"
    refine k_isi (.str b) kit_str_list ?_
    walk_at "rd"
    exact fin
  | tup e r => exact absurd rfl (n1 _)
  | lst s e r => exact absurd rfl (n2 _)
theorem rd_seq {K : PySem.W.Frag} {m : Nat} {H : Hp} {Q : VK} {a b : Addr} {xs ys : List V} {d1 d2 : List Dat} {u : Option V} (lx : ∀ Q' : VK, Q' (.int xs.length) H → rLenQ K [.ref a] H Q') (ly : ∀ Q' : VK, Q' (.int ys.length) H → rLenQ K [.ref b] H Q')
    (ix : ∀ (i : Nat) (x : V) (Q' : VK), xs[i]? = some x → Q' x H → rIx K (.ref a) (.int (0 + (i : Int))) H Q') (iy : ∀ (i : Nat) (x : V) (Q' : VK), ys[i]? = some x → Q' x H → rIx K (.ref b) (.int (0 + (i : Int))) H Q')
    (r1 : RaL K H xs d1) (r2 : RaL K H ys d2) (ok : ∀ d ∈ d2, okS m d = true) (lm : d2.length ≤ 1000) (h1 : d1 = d2 → Q (.bl true) H) (h2 : d1 ≠ d2 → Q (.bl false) H) {D : Ends} (hD : D.rt = Q) : t_sameB K m D [some (.ref a), some (.ref b), u] H := by
  have l1 := r1.length
  have l2 := r2.length
  unfold t_sameB
  walk_at "rd"
  refine lx _ ?_
  walk_at "rd"
  refine ly _ ?_
  walk_at "rd"
  refine k_iteN (fun z => ?_) (fun z => ?_)
  · walk_at "rd"
    rw [hD]
    exact h2 fun e => z (by rw [l1, l2, e])
  have le : xs.length = ys.length := by omega
  walk_at "rd"
  refine ly _ ?_
  walk_at "rd"
  refine fat_range (fun i σ H2 => H2 = H ∧ (∃ v, σ = [some (.ref a), some (.ref b), v]) ∧ d1.take i = d2.take i) ⟨rfl, ⟨_, rfl⟩, by simp⟩ ?_ ?_
  · rintro i σ H2 hi ⟨rfl, ⟨v, rfl⟩, et⟩
    have hiy : i < ys.length := by omega
    have hix : i < xs.length := by omega
    obtain ⟨e1, g1, p1⟩ := r1.get (List.getElem?_eq_getElem hix)
    obtain ⟨e2, g2, p2⟩ := r2.get (List.getElem?_eq_getElem hiy)
    walk_at "rd"
    refine ix i _ _ (List.getElem?_eq_getElem hix) ?_
    walk_at "rd"
    refine iy i _ _ (List.getElem?_eq_getElem hiy) ?_
    walk_at "rd"
    refine ⟨_, _, e1, e2, rfl, p1, p2, ok e2 (List.mem_of_getElem? g2), fun q => ?_, fun q => ?_⟩
    · walk_at "rd"
      refine ⟨rfl, ⟨_, rfl⟩, ?_⟩
      rw [List.take_add_one, List.take_add_one, et, g1, g2, q]
    · walk_at "rd"
      show D.rt _ _
      rw [hD]
      exact h2 fun z => q (by rw [z, g2] at g1; exact (Option.some.inj g1).symm)
  · rintro σ H2 ⟨rfl, ⟨v, rfl⟩, et⟩
    walk_at "rd"
    show D.rt _ _
    rw [hD]
    refine h1 ?_
    have e : (ys.length : Int).toNat = ys.length := by omega
    rw [e, List.take_of_length_le (by omega), List.take_of_length_le (by omega)] at et
    exact et
theorem rd_same {K : PySem.W.Frag} {m : Nat} {vs : List V} {H : Hp} {Q : VK} {E : XK} {N : List Str} (hN : N.length = 3) (h : spSame K (m + 1) vs H Q E) : t_same K m (ends Q) (L2.start N vs) H := by
  obtain ⟨v1, v2, d1, d2, rfl, r1, r2, ok, h1, h2⟩ := h
  rw [show L2.start N [v1, v2] = [some v1, some v2, none] by unfold L2.start; rw [hN]; rfl]
  unfold t_same
  have fin := fun n1 n2 => rd_scal (u := none) r1 r2 n1 n2 h1 h2
  cases r2 with
  | non =>
    walk_at "rd"
    refine k_isi .non kit_NoneType_tuple ?_
    walk_at "rd"
    refine k_isi .non kit_NoneType_list ?_
    walk_at "rd"
    exact fin (fun ds z => by cases z) (fun ds z => by cases z)
  | bl b =>
    walk_at "rd"
    refine k_isi (.bl b) kit_bool_tuple ?_
    walk_at "rd"
    refine k_isi (.bl b) kit_bool_list ?_
    walk_at "rd"
    exact fin (fun ds z => by cases z) (fun ds z => by cases z)
  | int b =>
    walk_at "rd"
    refine k_isi (.int b) kit_int_tuple ?_
    walk_at "rd"
    refine k_isi (.int b) kit_int_list ?_
    walk_at "rd"
    exact fin (fun ds z => by cases z) (fun ds z => by cases z)
  | str b =>
    walk_at "rd"
    refine k_isi (.str b) kit_str_tuple ?_
    walk_at "rd"
    refine k_isi (.str b) kit_str_list ?_
    walk_at "rd"
    exact fin (fun ds z => by cases z) (fun ds z => by cases z)
  | @tup b ys ds e r =>
    obtain ⟨lm, okd⟩ := okS_of ok
    walk_at "rd"
    refine k_isi (.tup e) kit_tuple_tuple ?_
    walk_at "rd"
    cases r1 with
    | non =>
      refine k_isi .non kit_NoneType_tuple ?_
      walk_at "rd"
      refine k_isi (.tup e) kit_tuple_tuple ?_
      walk_at "rd"
      refine k_iteN (fun _ => ?_) (fun z => by cases z)
      walk_at "rd"
      exact h2 (fun z => by cases z)
    | bl c =>
      refine k_isi (.bl c) kit_bool_tuple ?_
      walk_at "rd"
      refine k_isi (.tup e) kit_tuple_tuple ?_
      walk_at "rd"
      refine k_iteN (fun _ => ?_) (fun z => by cases z)
      walk_at "rd"
      exact h2 (fun z => by cases z)
    | int c =>
      refine k_isi (.int c) kit_int_tuple ?_
      walk_at "rd"
      refine k_isi (.tup e) kit_tuple_tuple ?_
      walk_at "rd"
      refine k_iteN (fun _ => ?_) (fun z => by cases z)
      walk_at "rd"
      exact h2 (fun z => by cases z)
    | str c =>
      refine k_isi (.str c) kit_str_tuple ?_
      walk_at "rd"
      refine k_isi (.tup e) kit_tuple_tuple ?_
      walk_at "rd"
      refine k_iteN (fun _ => ?_) (fun z => by cases z)
      walk_at "rd"
      exact h2 (fun z => by cases z)
    | lst s e' r' =>
      refine k_isi (.lst e') kit_list_tuple ?_
      walk_at "rd"
      refine k_isi (.tup e) kit_tuple_tuple ?_
      walk_at "rd"
      refine k_iteN (fun _ => ?_) (fun z => by cases z)
      walk_at "rd"
      exact h2 (fun z => by cases z)
    | @tup a xs ds' e' r' =>
      refine k_isi (.tup e') kit_tuple_tuple ?_
      walk_at "rd"
      refine k_isi (.tup e) kit_tuple_tuple ?_
      walk_at "rd"
      refine k_iteN (fun z => absurd rfl z) (fun _ => ?_)
      walk_at "rd"
      refine k_isi (.tup e') kit_tuple_list ?_
      walk_at "rd"
      refine k_isi (.tup e) kit_tuple_list ?_
      walk_at "rd"
      refine k_iteN (fun z => absurd rfl z) (fun _ => ?_)
      walk_at "rd"
      refine rd_seq (m := m) (xs := xs) (ys := ys) (fun Q' q => k_lenT (SqT.of e') q) (fun Q' q => k_lenT (SqT.of e) q) (fun i x Q' hx q => k_ixQT (SqT.of e') (by rw [Int.zero_add]; exact atI_nat hx) q) (fun i x Q' hx q => k_ixQT (SqT.of e) (by rw [Int.zero_add]; exact atI_nat hx) q) r' r okd lm (fun z => h1 (by rw [z])) (fun z => h2 fun q => z (Dat.tuple.inj q)) rfl
  | @lst b ys ds s e r =>
    obtain ⟨lm, okd⟩ := okS_of ok
    walk_at "rd"
    refine k_isi (.lst e) kit_list_tuple ?_
    walk_at "rd"
    refine k_isi (.lst e) kit_list_list ?_
    walk_at "rd"
    cases r1 with
    | non =>
      refine k_isi .non kit_NoneType_tuple ?_
      walk_at "rd"
      refine k_isi (.lst e) kit_list_tuple ?_
      walk_at "rd"
      refine k_iteN (fun z => absurd rfl z) (fun _ => ?_)
      walk_at "rd"
      refine k_isi .non kit_NoneType_list ?_
      walk_at "rd"
      refine k_isi (.lst e) kit_list_list ?_
      walk_at "rd"
      refine k_iteN (fun _ => ?_) (fun z => by cases z)
      walk_at "rd"
      exact h2 (fun z => by cases z)
    | bl c =>
      refine k_isi (.bl c) kit_bool_tuple ?_
      walk_at "rd"
      refine k_isi (.lst e) kit_list_tuple ?_
      walk_at "rd"
      refine k_iteN (fun z => absurd rfl z) (fun _ => ?_)
      walk_at "rd"
      refine k_isi (.bl c) kit_bool_list ?_
      walk_at "rd"
      refine k_isi (.lst e) kit_list_list ?_
      walk_at "rd"
      refine k_iteN (fun _ => ?_) (fun z => by cases z)
      walk_at "rd"
      exact h2 (fun z => by cases z)
    | int c =>
      refine k_isi (.int c) kit_int_tuple ?_
      walk_at "rd"
      refine k_isi (.lst e) kit_list_tuple ?_
      walk_at "rd"
      refine k_iteN (fun z => absurd rfl z) (fun _ => ?_)
      walk_at "rd"
      refine k_isi (.int c) kit_int_list ?_
      walk_at "rd"
      refine k_isi (.lst e) kit_list_list ?_
      walk_at "rd"
      refine k_iteN (fun _ => ?_) (fun z => by cases z)
      walk_at "rd"
      exact h2 (fun z => by cases z)
    | str c =>
      refine k_isi (.str c) kit_str_tuple ?_
      walk_at "rd"
      refine k_isi (.lst e) kit_list_tuple ?_
      walk_at "rd"
      refine k_iteN (fun z => absurd rfl z) (fun _ => ?_)
      walk_at "rd"
      refine k_isi (.str c) kit_str_list ?_
      walk_at "rd"
      refine k_isi (.lst e) kit_list_list ?_
      walk_at "rd"
      refine k_iteN (fun _ => ?_) (fun z => by cases z)
      walk_at "rd"
      exact h2 (fun z => by cases z)
    | tup e' r' =>
      refine k_isi (.tup e') kit_tuple_tuple ?_
      walk_at "rd"
      refine k_isi (.lst e) kit_list_tuple ?_
      walk_at "rd"
      refine k_iteN (fun _ => ?_) (fun z => by cases z)
      walk_at "rd"
      exact h2 (fun z => by cases z)
    | @lst a xs ds' s' e' r' =>
      refine k_isi (.lst e') kit_list_tuple ?_
      walk_at "rd"
      refine k_isi (.lst e) kit_list_tuple ?_
      walk_at "rd"
      refine k_iteN (fun z => absurd rfl z) (fun _ => ?_)
      walk_at "rd"
      refine k_isi (.lst e') kit_list_list ?_
      walk_at "rd"
      refine k_isi (.lst e) kit_list_list ?_
      walk_at "rd"
      refine k_iteN (fun z => absurd rfl z) (fun _ => ?_)
      walk_at "rd"
      refine rd_seq (m := m) (xs := xs) (ys := ys) (fun Q' q => k_lenL (SqL.of e') q) (fun Q' q => k_lenL (SqL.of e) q) (fun i x Q' hx q => k_ixQL (SqL.of e') (by rw [Int.zero_add]; exact atI_nat hx) q) (fun i x Q' hx q => k_ixQL (SqL.of e) (by rw [Int.zero_add]; exact atI_nat hx) q) r' r okd lm (fun z => h1 (by rw [z])) (fun z => h2 fun q => z (Dat.list.inj q)) rfl
end Sm
namespace Vs
open PySem L2 Fr G1 Sm
open PySem.W (Dat kqdOk)
def insH (hs : List (List Int)) (h : List Int) : List (List Int) := if h ∈ hs then hs else hs ++ [h]
def hddF (hs : List (List Int)) (ts : List Tn) : List (List Int) := ts.foldl (fun hs t => insH (insH hs t.fr) t.to) hs
def hdd (ts : List Tn) : List (List Int) := hddF [] ts
theorem insH_len (hs : List (List Int)) (h : List Int) : (insH hs h).length ≤ hs.length + 1 := by
  unfold insH
  split
  · omega
  · simp
theorem hddF_len : ∀ (ts : List Tn) (hs : List (List Int)), (hddF hs ts).length ≤ hs.length + 2 * ts.length
  | [], hs => by simp [hddF]
  | t :: ts, hs => by
    have h1 := hddF_len ts (insH (insH hs t.fr) t.to)
    have h2 := insH_len (insH hs t.fr) t.to
    have h3 := insH_len hs t.fr
    show (hddF (insH (insH hs t.fr) t.to) ts).length ≤ _
    rw [List.length_cons]
    omega
theorem hddF_snoc (hs : List (List Int)) (ts : List Tn) (t : Tn) : hddF hs (ts ++ [t]) = insH (insH (hddF hs ts) t.fr) t.to := by
  unfold hddF
  rw [List.foldl_append]
  rfl
def toK (h : List Int) : List Key := h.map Sum.inl
theorem toK_kV (h : List Int) : (toK h).map kV = h.map V.int := by
  unfold toK
  rw [List.map_map]
  rfl
theorem toK_inj {a b : List Int} (h : toK a = toK b) : a = b := (List.map_inj_right (fun x y e => Sum.inl.inj e)).mp h
theorem putK_keys {kvs : List (List Key × V)} {hs : List (List Int)} (e : kvs.map (·.1) = hs.map toK) (h : List Int) (v : V) : (putK kvs (toK h) v).map (·.1) = (insH hs h).map toK := by
  have any : (kvs.any fun kv => decide (kv.1 = toK h)) = decide (h ∈ hs) := by
    rw [Bool.eq_iff_iff, List.any_eq_true, decide_eq_true_iff]
    constructor
    · rintro ⟨kv, hm, q⟩
      have : kv.1 ∈ hs.map toK := by rw [← e]; exact List.mem_map.mpr ⟨kv, hm, rfl⟩
      obtain ⟨g, hg, eg⟩ := List.mem_map.mp this
      rw [of_decide_eq_true q] at eg
      rw [← toK_inj eg]
      exact hg
    · intro hm
      have : toK h ∈ kvs.map (·.1) := by rw [e]; exact List.mem_map.mpr ⟨h, hm, rfl⟩
      obtain ⟨kv, hk, ek⟩ := List.mem_map.mp this
      exact ⟨kv, hk, decide_eq_true ek⟩
  unfold putK insH
  rw [any]
  by_cases z : h ∈ hs
  · rw [if_pos z, decide_eq_true z, if_pos rfl, List.map_map, ← e]
    refine List.map_congr_left fun kv _ => ?_
    show (if kv.1 = toK h then (kv.1, v) else kv).1 = kv.1
    split <;> rfl
  · rw [if_neg z, decide_eq_false z, if_neg Bool.false_ne_true, List.map_append, List.map_append, e]
    rfl
theorem keys_rz {K : PySem.W.Frag} {H : Hp} : ∀ {kvs : List (List Key × V)} {hs : List (List Int)} {bs : List Addr}, kvs.map (·.1) = hs.map toK → Paired (fun (p : List Key × V) b => H b = some (.tup (p.1.map kV))) kvs bs → RzL K H (bs.map V.ref) (hs.map dI)
  | [], [], _, _, .nil => .nil
  | [], h :: hs, _, e, _ => by simp at e
  | kv :: kvs, [], _, e, _ => by simp at e
  | kv :: kvs, h :: hs, _, e, .cons q t => by
    have e1 : kv.1 = toK h := (List.cons.inj e).1
    have e2 := (List.cons.inj e).2
    rw [e1, toK_kV] at q
    exact .cons (.tup q (RpL.ints h)) (keys_rz e2 t)
def spHeapsOf (K : PySem.W.Frag) : Sp := fun vs H Q _ => ∃ (v : V) (ts : List Tn), vs = [v] ∧ Rz K H v (.tuple (ts.map dT)) ∧ ts.length ≤ 100 ∧ ∀ (p : Addr) (H' : Hp), AccZ K H p H' ((hdd ts).map dI) → Q (.ref p) H'
theorem len_heapsOf {K : PySem.W.Frag} {vs : List V} {H : Hp} {Q : VK} {E : XK} {x : Str} (h : spHeapsOf K vs H Q E) : vs.length = [x].length := by
  obtain ⟨a, b, rfl, _⟩ := h
  rfl
def t_heapsOf (K : PySem.W.Frag) : TS := (tSeq (tAsg tDNewT (gName 1))
  (tSeq (tFor (iTup K (tVar 0)) (gName 2)
  (tSeq (sDPut (tVar 1) (tOp (rIxT K) (tVar 2) (tC (.int 0))) (tC (.bl true)))
  (sDPut (tVar 1) (tOp (rIxT K) (tVar 2) (tC (.int 1))) (tC (.bl true)))))
  (tRet (tCB rListD (tCons (tVar 1) tNil)))))
theorem dT_at {K : PySem.W.Frag} {H : Hp} {v : V} {t : Tn} (h : Rz K H v (dT t)) : ∃ (a : Addr) (v1 v2 v3 : V), v = .ref a ∧ H a = some (.tup [v1, v2, v3]) ∧ Rz K H v1 (dI t.fr) ∧ Rz K H v2 (dI t.to) ∧ Rz K H v3 (dI [t.q, t.d]) := by
  obtain ⟨a, xs, e, ha, r⟩ := h.tup_at
  cases r with
  | cons r1 r =>
    cases r with
    | cons r2 r =>
      cases r with
      | cons r3 r =>
        cases r
        exact ⟨a, _, _, _, e, ha, r1, r2, r3⟩
theorem dI_at {K : PySem.W.Frag} {H : Hp} {v : V} {ns : List Int} (h : Rz K H v (dI ns)) : ∃ a : Addr, v = .ref a ∧ H a = some (.tup (ns.map V.int)) := by
  obtain ⟨a, xs, e, ha, r⟩ := h.tup_at
  rw [RpL.ints_of r] at ha
  exact ⟨a, e, ha⟩
theorem rd_heapsOf {K : PySem.W.Frag} {vs : List V} {H : Hp} {Q : VK} {E : XK} {N : List Str} (hN : N.length = 3) (h : spHeapsOf K vs H Q E) : t_heapsOf K (ends Q) (L2.start N vs) H := by
  obtain ⟨v, ts, rfl, rv, hl, k⟩ := h
  obtain ⟨a, xs, rfl, ha, rx⟩ := rv.tup_at
  rw [show L2.start N [.ref a] = [some (.ref a), none, none] by unfold L2.start; rw [hN]; rfl]
  have lx : xs.length = ts.length := by rw [rx.length, List.length_map]
  unfold t_heapsOf
  walk_at "rd"
  intro d nd
  walk_at "rd"
  refine k_rtF (SqT.of ((same_new nd _) _ _ ha)) ?_
  refine fat_tup (xs := xs) (fun i σ H2 => ∃ (kvs : List (List Key × V)) (u : Option V), σ = [some (.ref a), some (.ref d), u] ∧ Same H H2 ∧ H2 d = some (.dT kvs) ∧ kvs.map (·.1) = (hdd (ts.take i)).map toK) ⟨[], none, rfl, same_new nd _, upd_same, rfl⟩ ?_ ?_ ?_
  · rintro i σ H2 _ ⟨kvs, u, rfl, S, ed, ek⟩
    exact SqT.of (S _ _ ha)
  · rintro i z σ H2 hz ⟨kvs, u, rfl, S, ed, ek⟩
    obtain ⟨dd, g1, g2⟩ := rx.get hz
    rw [List.getElem?_map] at g1
    obtain ⟨t, ht, rfl⟩ := Option.map_eq_some_iff.mp g1
    obtain ⟨at_, v1, v2, v3, rfl, hat, r1, r2, _⟩ := dT_at (g2.same S)
    obtain ⟨b1, rfl, hb1⟩ := dI_at r1
    obtain ⟨b2, rfl, hb2⟩ := dI_at r2
    have ti : i < ts.length := (List.getElem?_eq_some_iff.mp ht).1
    have kl : kvs.length = (hdd (ts.take i)).length := by have := congrArg List.length ek; simpa using this
    have hl2 := hddF_len (ts.take i) []
    rw [List.length_take] at hl2
    have kl2 : kvs.length ≤ 2 * i := by rw [kl]; unfold hdd; simp only [List.length_nil] at hl2; omega
    have e1 := putK_keys ek t.fr (.bl true)
    have e2 := putK_keys e1 t.to (.bl true)
    have le1 := length_putK kvs (toK t.fr) (.bl true)
    have n1 : b1 ≠ d := ne_of hb1 ed (by intro z; cases z)
    have n2 : b2 ≠ d := ne_of hb2 ed (by intro z; cases z)
    have n3 : at_ ≠ d := ne_of hat ed (by intro z; cases z)
    walk_at "rd"
    refine k_ixT (SqT.of hat) (v := .ref b1) rfl ?_
    refine ⟨d, _, rfl, DPut.t ed (k := toK t.fr) (by rw [toK_kV]; exact hb1) (small1000 (by omega)), ?_⟩
    walk_at "rd"
    refine k_ixT (SqT.of (by rw [upd_ne n3]; exact hat)) (v := .ref b2) rfl ?_
    refine ⟨d, _, rfl, DPut.t upd_same (k := toK t.to) (by rw [toK_kV, upd_ne n2]; exact hb2) (small1000 (by omega)), ?_⟩
    rw [upd_upd]
    refine ⟨_, _, rfl, fun b o q => ?_, upd_same, ?_⟩
    · rw [upd_ne (ne_of_none q nd)]
      exact S _ _ q
    · rw [e2]
      congr 1
      have et : ts.take (i + 1) = ts.take i ++ [t] := by rw [List.take_add_one, ht]; rfl
      rw [et]
      exact (hddF_snoc [] (ts.take i) t).symm
  · rintro σ H2 ⟨kvs, u, rfl, S, ed, ek⟩
    rw [lx, List.take_of_length_le (Nat.le_refl _)] at ek
    walk_at "rd"
    refine ⟨d, kvs, rfl, ed, fun l bs nl pr => ?_⟩
    have S2 := same_new nl (.lst (bs.map V.ref))
    exact k l _ ⟨S.trans S2, S.free nl, _, upd_same, (keys_rz ek pr).same S2⟩
theorem dV_at {K : PySem.W.Frag} {H : Hp} {v : V} {ws : List Str} {ts : List Tn} (h : Rz K H v (dV ws ts)) : ∃ (a : Addr) (v1 v2 : V), v = .ref a ∧ H a = some (.tup [v1, v2]) ∧ Rz K H v1 (.tuple (ws.map Dat.str)) ∧ Rz K H v2 (.tuple (ts.map dT)) := by
  obtain ⟨a, xs, e, ha, r⟩ := h.tup_at
  cases r with
  | cons r1 r =>
    cases r with
    | cons r2 r =>
      cases r
      exact ⟨a, _, _, e, ha, r1, r2⟩
end Vs
namespace G2
open PySem L2 Fr G1
open PySem.W (Dat kqdOk)
end G2
namespace G2
open PySem L2 Fr G1
open PySem.W (Dat kqdOk)
end G2
namespace G2
open PySem L2 Fr G1
open PySem.W (Dat kqdOk)
end G2
namespace Ti
open PySem L2 Fr G1 Sm Vs G2
open PySem.W (Dat kqdOk)
end Ti
namespace Ti
open PySem L2 Fr G1 Sm Vs G2
open PySem.W (Dat kqdOk)
end Ti
namespace L2
open PySem
open PySem.W (Dat)
end L2
namespace Sz
open PySem L2 Fr G1 Sm Vs G2 Rk
open PySem.W (Dat kqdOk)
end Sz
namespace Sf
open Rk Sz
end Sf
namespace Rw
open PySem L2 Fr G1 Sm Vs G2 Rk Sz Sf
open PySem.W (Dat kqdOk)
end Rw
namespace Rw
open PySem L2 Fr G1 Sm Vs G2 Rk Sz Sf
open PySem.W (Dat kqdOk)
end Rw
namespace Cl
open Rk Sz Sf
end Cl
namespace Mk
open Rk Sz Sf Cl
end Mk
namespace Rw
open PySem L2 Fr G1 Sm Vs G2 Rk Sz Sf Cl
open PySem.W (Dat kqdOk)
end Rw
namespace L2
open PySem
section
variable {K : PySem.W.Frag} {te : TE} {σ : St} {Q : VK} {H : Hp}
end
end L2
namespace Rw
open PySem L2 Fr G1 Sm Vs G2 Rk Sz Sf Cl
open PySem.W (Dat kqdOk)
end Rw
namespace Rw
open PySem L2 Fr G1 Sm Vs G2 Rk Sz Sf Cl
open PySem.W (Dat kqdOk)
end Rw
namespace L2
open PySem
end L2
namespace Dn
open PySem L2 Fr G1 Sm Vs G2 Rk Sz
open PySem.W (Dat kqdOk)
end Dn
namespace L2
open PySem
end L2
namespace Dn
open PySem L2 Fr G1 Sm Vs G2 Rk Sz
open PySem.W (Dat kqdOk kas_sort)
end Dn
namespace Dn
open PySem L2 Fr G1 Sm Vs G2 Rk Sz
open PySem.W (Dat kqdOk)
end Dn
namespace Mk
open Rk Sz Sf Cl
end Mk
namespace L2
open PySem
end L2
namespace Dn
open PySem L2 Fr G1 Sm Vs G2 Rk Sz Rw
open PySem.W (Dat kqdOk)
end Dn
namespace Dn
open PySem L2 Fr G1 Sm Vs G2 Rk Sz Sf Rw Cl
end Dn
namespace Lo
open Ti
end Lo
namespace L2
open PySem
end L2
namespace Lo
open PySem L2 Fr G1 Sm Vs G2 Ti Sz Rw
open PySem.W (Dat kqdOk)
end Lo
namespace Bo
end Bo
namespace Bo
end Bo
namespace Bo
end Bo
namespace L2
open PySem
end L2
namespace Br
open PySem L2 Fr G1 Sm Vs G2 Rk Sz Sf Rw
open PySem.W (Dat kqdOk)
end Br
namespace Bo
end Bo
namespace Br
open Rk Sf Rw
section
variable {R : List (List Int)} {es : List Int} {size : Nat}
end
end Br
namespace Bo
end Bo
namespace Br
open Rk Sf Rw Bo
section
variable {R : List (List Int)} {n : Nat}
end
section
variable {B : List (List Int)} {hs : List Nat} {m : Nat}
end
section
variable {R : List (List Int)} {n : Nat}
end
end Br
namespace Br
open Rk Sf Rw Bo
section
variable (R : List (List Int)) (n : Nat)
end
section
variable {R : List (List Int)} {n k : Nat} {B : List (List Int)} {hs : List Nat}
end
end Br
namespace Br
open PySem L2 Fr G1 Sm Vs G2 Rk Sz Sf Rw
open PySem.W (Dat kqdOk)
end Br
namespace Br
open Rk Sf Rw Bo
end Br
namespace L2
open PySem PySem.Spec PyProof.Rows
open PySem.W (Dat kqdP kqdPs kqdOk)
end L2
namespace Br
open PySem L2 Fr G1 Sm Vs G2 Rk Sz Sf Rw Cl
open PySem.W (Dat kqdOk)
open PyProof.Rows
end Br
namespace Br
open PySem L2 Fr G1 Sm Vs G2 Rk Sz Sf Rw Cl
open PySem.W (Dat kqdOk)
end Br
namespace Br
open PySem L2 Fr G1 Sm Vs G2 Rk Sz Sf Rw Cl
open PySem.W (Dat kqdOk)
end Br
namespace Br
open Rk Sf Rw Bo Cl
section
variable {R : List (List Int)} {n : Nat}
end
end Br
namespace Fr
theorem low_rat {t b q d : Int} (hb : b ≠ 0) (L : Gd.Low t b q d) : q = (Rat.divInt t b).num ∧ d = ((Rat.divInt t b).den : Int) := by
  obtain ⟨pos, low, worth⟩ := L
  have e : Rat.divInt t b = Rat.divInt q d := (Rat.divInt_eq_divInt_iff hb (by omega)).mpr worth.symm
  have cp : Nat.Coprime q.natAbs d.natAbs := by
    unfold Gd.gd at low
    unfold Nat.Coprime
    have : Int.gcd q d = Nat.gcd q.natAbs d.natAbs := rfl
    omega
  have m : Rat.mk' q d.natAbs (by omega) cp = Rat.divInt q d := by
    rw [Rat.mk_eq_divInt]
    congr 1
    omega
  rw [e, ← m]
  exact ⟨rfl, by show d = (d.natAbs : Int); omega⟩
end Fr
namespace Tr
section
variable (fm : Nat → List Nat)
variable {fm}
end
section
variable (es : List (Nat × Nat)) (pc : Nat → Rat)
variable {es} {pc}
end
end Tr
namespace Tr
open PySem L2 Fr G1 Sm Vs G2 Rk Sz Sf Rw Ti
open PySem.W (Dat kqdOk)
def dQ (x : Rat) : Dat := dI [x.num, (x.den : Int)]
def spFracQ (K : PySem.W.Frag) : Sp := fun vs H Q _ => ∃ t b : Int, vs = [.int t, .int b] ∧ b ≠ 0 ∧ t.natAbs < 2 ^ 8000 ∧ b.natAbs < 2 ^ 8000 ∧ ∀ (p : Addr) (H' : Hp), Same H H' → Rz K H' (.ref p) (dQ (Rat.divInt t b)) → Q (.ref p) H'
theorem len_fracQ {K : PySem.W.Frag} {vs : List V} {H : Hp} {Q : VK} {E : XK} {x y : Str} (h : spFracQ K vs H Q E) : vs.length = [x, y].length := by
  obtain ⟨a, b, rfl, _⟩ := h
  rfl
def t_fracQ (K : PySem.W.Frag) : TS := (tSeq (tIfS (tOr (tNot (tB (tCall spWhole [] E0 (tCons (tVar 0) tNil)))) (tNot (tB (tCall spWhole [] E0 (tCons (tVar 1) tNil)))))
  tNever
  tNext)
  (tSeq (tIfS (tTest (tOp rEq (tVar 1) (tC (.int 0))))
  tNever
  tNext)
  (tSeq (tAsg (tCall spDiv [] E0 (tCons (tVar 0) (tCons (tVar 1) tNil))) (gName 2))
  (tSeq (tIfS (tTest (tOp rLt (tVar 1) (tC (.int 0))))
  (tAsg (tUn (rU fun i => .int (-i)) (tVar 2)) (gName 2))
  tNext)
  (tRet (tTup (tCons (tOp rDivW (tVar 0) (tVar 2)) (tCons (tOp rDivW (tVar 1) (tVar 2)) tNil))))))))
theorem rd_fracQ {K : PySem.W.Frag} {vs : List V} {H : Hp} {Q : VK} {E : XK} {N : List Str} (hN : N.length = 3) (h : spFracQ K vs H Q E) : t_fracQ K (ends Q) (L2.start N vs) H := by
  obtain ⟨t, b, rfl, b0, ht, hb, k⟩ := h
  rw [show L2.start N [.int t, .int b] = [some (.int t), some (.int b), none] by unfold L2.start; rw [hN]; rfl]
  unfold t_fracQ
  have p2 : (2 : Nat) ^ 8000 < 2 ^ 9000 := Nat.pow_lt_pow_right (by decide) (by decide)
  generalize (2 : Nat) ^ 8000 = P at ht hb p2
  have gp := Gd.gd_pos (a := t) b0
  have gl := Gd.gd_le (a := t) b0
  have fin : ∀ d : Int, (d = Gd.gd t b ∧ 0 < b ∨ d = - Gd.gd t b ∧ b < 0) → tRet (tTup (tCons (tOp rDivW (tVar 0) (tVar 2)) (tCons (tOp rDivW (tVar 1) (tVar 2)) tNil))) (ends Q) [some (.int t), some (.int b), some (.int d)] H := by
    intro d hd
    obtain ⟨e1, e2⟩ := low_rat b0 (Gd.low_of b0 hd)
    have dn : d ≠ 0 := by rcases hd with ⟨z, _⟩ | ⟨z, _⟩ <;> omega
    have dw : d.natAbs < 2 ^ 9000 := by
      refine Nat.lt_of_le_of_lt ?_ (Nat.lt_trans hb p2)
      rcases hd with ⟨z, _⟩ | ⟨z, _⟩ <;> omega
    walk_at "rd"
    refine ⟨_, _, rfl, rfl, ⟨dn, dw⟩, ?_⟩
    walk_at "rd"
    refine ⟨_, _, rfl, rfl, ⟨dn, dw⟩, ?_⟩
    walk_at "rd"
    refine ⟨by show 2 ≤ sizeLine; decide, fun p np => ?_⟩
    show Q (.ref p) (upd H p (.tup [.int (t.fdiv d), .int (b.fdiv d)]))
    rw [e1, e2]
    exact k p _ (same_new np _) (.tup upd_same (RpL.ints [_, _]))
  walk_at "rd"
  refine ⟨t, rfl, ?_⟩
  walk_at "rd"
  refine ⟨b, rfl, ?_⟩
  walk_at "rd"
  refine k_ite (fun z => absurd z b0) (fun _ => ?_)
  walk_at "rd"
  refine ⟨t, b, rfl, ?_⟩
  walk_at "rd"
  refine k_ite (fun c => ?_) (fun c => ?_)
  · obtain h2 := fin _ (.inr ⟨rfl, c⟩)
    refine k_asg ?_
    walk_at "rd1"
    refine k_var (i := 2) rfl ?_
    refine k_rU ?_
    refine k_gName ?_
    exact h2
  · exact fin _ (.inl ⟨rfl, by omega⟩)
end Tr
namespace Tr
open PySem L2 Fr G1 Sm Vs G2 Rk Sz Sf Rw Ti
open PySem.W (Dat kqdOk)
end Tr
namespace Tr
open Fr
section
variable {es : List (Nat × Nat)} {pc : Nat → Rat}
end
end Tr
namespace Tr
open PySem L2 Fr G1 Sm Vs G2 Rk Sz Sf Rw Ti
open PySem.W (Dat kqdOk)
end Tr
namespace Tr
open PySem L2 Fr G1 Sm Vs G2 Rk Sz Sf Rw Ti
open PySem.W (Dat kqdOk)
end Tr
namespace Tr
open PySem L2 Fr G1 Sm Vs G2 Rk Sz Sf Rw Ti Lo
open PySem.W (Dat kqdOk)
end Tr
namespace Tr
open PySem L2 Fr G1 Sm Vs G2 Rk Sz Sf Rw Ti Lo
open PySem.W (Dat kqdOk)
end Tr
namespace Tr
open PySem L2 Fr G1 Sm Vs G2 Rk Sz Sf Rw Ti Lo
open PySem.W (Dat kqdOk)
section
variable {es : List (Nat × Nat)} {pc : Nat → Rat}
end
end Tr
namespace Tr
open PySem L2 Fr G1 Sm Vs G2 Rk Sz Sf Rw Ti Lo
open PySem.W (Dat kqdOk)
end Tr
namespace L2
open PySem PySem.Spec PyProof.Rows
end L2
namespace Tr
open PySem L2 Fr G1 Sm Vs G2 Rk Sz Sf Rw Ti Lo
open PySem.W (Dat kqdOk)
end Tr
namespace Vs
open PySem L2 Fr G1 Sm
open PySem.W (Dat kqdOk)
end Vs
namespace Rd
open Ti
section
variable {es : List (Nat × Nat)} {a : Nat}
end
end Rd
namespace Rd
open PySem L2 Fr G1 Sm Vs G2 Ti
open PySem.W (Dat kqdOk)
end Rd
namespace Rd
open PySem L2 Fr G1 Sm Vs G2 Ti
open PySem.W (Dat kqdOk)
section
variable {es : List (Nat × Nat)} {a : Nat}
end
end Rd
namespace Wq
open PySem L2 Fr G1 Sm Vs Tr
open PySem.W (Dat kqdOk)
end Wq
namespace Nv
open PySem L2 Fr G1 Sm Vs
open PySem.W (Dat kqdOk kqdP kqdPs)
end Nv
namespace Nv
open PySem L2 Fr G1 Sm Vs
open PySem.W (Dat kqdOk kqdP kqdPs)
end Nv
namespace L2
open PySem PySem.Spec PyProof.Rows
section
variable {X : Cx}
end
end L2
namespace Nv
open PySem L2 Fr G1 Sm Vs
open PySem.W (Dat kqdOk kqdP kqdPs)
end Nv
namespace Nv
open PySem L2 Fr G1 Sm Vs
open PySem.W (Dat kqdOk kqdP kqdPs)
end Nv
namespace Nv
open PySem L2 Fr G1 Sm Vs
open PySem.W (Dat kqdOk kqdP kqdPs)
end Nv
namespace Nv
open PySem L2 Fr G1 Sm Vs
open PySem.W (Dat kqdOk kqdP kqdPs)
end Nv
namespace Rk
end Rk
namespace Rk
end Rk
namespace Lk
open Rk Sf Ti Lo
end Lk
namespace Mb
open Rk Sz Sf Cl Mk Bo
end Mb
namespace Mb
open Rk Sz Sf Cl Mk
end Mb
namespace Lc
open PySem L2 Fr G1 Sm Vs G2 Rk Sz Sf Rw Ti Lo
open PySem.W (Dat kqdOk)
end Lc
namespace Lc
open PySem L2 Fr G1 Sm Vs G2 Rk Sz Sf Rw Ti Lo
section
variable {ts : List Tn} {w : Nat}
end
end Lc
namespace Wd
open PySem L2 Fr G1 Sm Vs Dn Rk
open PySem.W (Dat kqdOk)
end Wd
namespace Tw
open PySem L2 Fr G1 Sm Vs
open PySem.W (Dat kqdOk)
def stuffT (w : Str) (n : Int) : Str := if n = 1 then w else Str.empty ++ istr n ++ " " ++ w
def partsT (ws : List Str) (h : List Int) : List Str := (ws.zip h).filterMap fun p => if 0 < p.2 then some (stuffT p.1 p.2) else none
def heapT (ws : List Str) (h : List Int) : Str := if partsT ws h = [] then "0" else Txt.join " + " (partsT ws h)
def paceT (q d : Int) : Str := if d = 1 then istr q else Str.empty ++ istr q ++ "/" ++ istr d
def turnT (ws : List Str) (t : Tn) : Str := Str.empty ++ heapT ws t.fr ++ " -> " ++ heapT ws t.to ++ " @ " ++ paceT t.q t.d
theorem log_small {i : Int} (h0 : 0 ≤ i) (h1 : i ≤ 10000000000) : i.natAbs.log2 < 1920 := by
  by_cases z : i.natAbs = 0
  · rw [z]; decide
  · exact (Nat.log2_lt z).mpr (Nat.lt_of_lt_of_le (show i.natAbs < 2 ^ 34 by omega) (Nat.pow_le_pow_right (by decide) (by decide)))
theorem istr_len {i : Int} (h0 : 0 ≤ i) (h1 : i ≤ 10000000000) : (istr i).length ≤ 11 := PyProof.Rows.toString_length_le h0 (by decide) (by omega)
theorem istr2 : Str.empty ++ istr 2 ++ " " = ("2 " : Str) := by decide +kernel
theorem istr3 : Str.empty ++ istr 3 ++ " " = ("3 " : Str) := by decide +kernel
theorem lenP2 : (("2 " : Str)).length = 2 := by decide +kernel
theorem lenP3 : (("3 " : Str)).length = 2 := by decide +kernel
theorem lenPl : ((" + " : Str)).length = 3 := by decide +kernel
theorem lenAr : ((" -> " : Str)).length = 4 := by decide +kernel
theorem lenAt : ((" @ " : Str)).length = 3 := by decide +kernel
theorem lenSl : (("/" : Str)).length = 1 := by decide +kernel
theorem lenBl : ((" " : Str)).length = 1 := by decide +kernel
theorem len0 : (("0" : Str)).length = 1 := by decide +kernel
theorem lenE : Str.empty.length = 0 := by decide +kernel
theorem szL : sizeLine = 16777216 := by decide
theorem stuff1 (w : Str) : stuffT w 1 = w := if_pos rfl
theorem stuff2 (w : Str) : stuffT w 2 = ("2 " : Str) ++ w := by unfold stuffT; rw [if_neg (by decide), istr2]
theorem stuff3 (w : Str) : stuffT w 3 = ("3 " : Str) ++ w := by unfold stuffT; rw [if_neg (by decide), istr3]
theorem three {n : Int} (h0 : 0 < n) (h3 : n ≤ 3) : n = 1 ∨ n = 2 ∨ n = 3 := by omega
theorem stuffT_len {w : Str} {n : Int} (hw : w.length ≤ 8) (h0 : 0 < n) (h3 : n ≤ 3) : (stuffT w n).length ≤ 10 := by
  rcases three h0 h3 with rfl | rfl | rfl
  · rw [stuff1]; omega
  · rw [stuff2, strLen_append, lenP2]; omega
  · rw [stuff3, strLen_append, lenP3]; omega
def WsOk (ws : List Str) : Prop := ws.length ≤ 5 ∧ ∀ w ∈ ws, w.length ≤ 8 ∧ PyData.strOk w = true
theorem strOk_app {a b : Str} (h1 : PyData.strOk a = true) (h2 : PyData.strOk b = true) : PyData.strOk (a ++ b) = true := by
  unfold PyData.strOk at *
  show (a.cps ++ b.cps).all _ = true
  rw [Array.all_append, h1, h2]
  rfl
theorem stuffT_ok {w : Str} {n : Int} (hw : PyData.strOk w = true) (h0 : 0 < n) (h3 : n ≤ 3) : PyData.strOk (stuffT w n) = true := by
  rcases three h0 h3 with rfl | rfl | rfl
  · rw [stuff1]; exact hw
  · rw [stuff2]; exact strOk_app (by decide +kernel) hw
  · rw [stuff3]; exact strOk_app (by decide +kernel) hw
theorem low_ok {w : Str} (h : Low w) : PyData.strOk w = true := by
  unfold PyData.strOk
  rw [Array.all_eq_true_iff_forall_mem]
  intro c hc
  have := h c (by simpa using hc)
  exact decide_eq_true (by omega)
theorem partsT_mem {ws : List Str} {h : List Int} (ow : WsOk ws) (oh : ∀ x ∈ h, 0 ≤ x ∧ x ≤ 3) {p : Str} (m : p ∈ partsT ws h) : p.length ≤ 10 ∧ PyData.strOk p = true := by
  obtain ⟨q, hq, e⟩ := List.mem_filterMap.mp m
  obtain ⟨m1, m2⟩ := List.of_mem_zip (a := q.1) (b := q.2) hq
  by_cases z : 0 < q.2
  · rw [if_pos z] at e
    cases Option.some.inj e
    exact ⟨stuffT_len (ow.2 _ m1).1 z (oh _ m2).2, stuffT_ok (ow.2 _ m1).2 z (oh _ m2).2⟩
  · rw [if_neg z] at e; cases e
theorem partsT_len {ws : List Str} {h : List Int} : (partsT ws h).length ≤ ws.length := by
  refine Nat.le_trans (List.length_filterMap_le _ _) ?_
  rw [List.length_zip]
  omega
theorem sum_le {l : List Str} (h : ∀ p ∈ l, p.length ≤ 10) : (l.map (·.length)).sum ≤ 10 * l.length := by
  induction l with
  | nil => simp
  | cons a r ih =>
    have h1 := h a List.mem_cons_self
    have h2 := ih fun p hp => h p (List.mem_cons_of_mem _ hp)
    simp only [List.map_cons, List.sum_cons, List.length_cons]
    omega
theorem heapT_len {ws : List Str} {h : List Int} (ow : WsOk ws) (oh : ∀ x ∈ h, 0 ≤ x ∧ x ≤ 3) : (heapT ws h).length ≤ 65 := by
  unfold heapT
  split
  · rw [len0]; omega
  · show (PySem.Builtin.Str.glued _ _).length ≤ 65
    rw [StrLaws.glued_eq_join]
    have h1 := StrLaws.join_length_le " + " (partsT ws h)
    have h2 := sum_le fun p hp => (partsT_mem ow oh hp).1
    have h3 := partsT_len (ws := ws) (h := h)
    have h4 := ow.1
    rw [lenPl] at h1
    omega
theorem paceT_len {q d : Int} (p : PaceOk q d) : (paceT q d).length ≤ 23 := by
  have h1 := istr_len (i := q) (by have := p.1; omega) p.2.2.2.1
  have h2 := istr_len (i := d) (by have := p.2.1; omega) p.2.2.2.2
  unfold paceT
  split
  · omega
  · rw [Str.empty_append, strLen_append, strLen_append, lenSl]; omega
theorem partsT_snoc {ws : List Str} {h : List Int} {i : Nat} {w : Str} {n : Int} (e1 : ws[i]? = some w) (e2 : h[i]? = some n) : partsT (ws.take (i + 1)) (h.take (i + 1)) = partsT (ws.take i) (h.take i) ++ (if 0 < n then [stuffT w n] else []) := by
  have l1 := (List.getElem?_eq_some_iff.mp e1).1
  have l2 := (List.getElem?_eq_some_iff.mp e2).1
  unfold partsT
  rw [List.take_add_one, List.take_add_one, e1, e2, Option.toList, Option.toList, List.zip_append (by rw [List.length_take, List.length_take]; omega), List.filterMap_append]
  congr 1
  by_cases z : 0 < n
  · simp [z]
  · simp [z]
def spStuffT : Sp := fun vs H Q _ => ∃ (w : Str) (n : Int), vs = [.str w, .int n] ∧ w.length ≤ 8 ∧ 0 < n ∧ n ≤ 3 ∧ Q (.str (stuffT w n)) H
theorem len_stuffT {vs : List V} {H : Hp} {Q : VK} {E : XK} {x y : Str} (h : spStuffT vs H Q E) : vs.length = [x, y].length := by
  obtain ⟨a, b, rfl, _⟩ := h
  rfl
def t_stuffT (K : PySem.W.Frag) : TS := (tSeq (tIfS (tTest (tOp rEq (tVar 1) (tC (.int 1))))
  (tRet (tVar 0))
  tNext)
  (tRet (tJn [(tFmtI (tVar 1)), (tC (.str " ")), (tFmtS (tVar 0))] Str.empty)))
theorem rd_stuffT {K : PySem.W.Frag} {vs : List V} {H : Hp} {Q : VK} {E : XK} {N : List Str} (hN : N.length = 2) (h : spStuffT vs H Q E) : t_stuffT K (ends Q) (L2.start N vs) H := by
  obtain ⟨w, n, rfl, hw, h0, h3, k⟩ := h
  rw [show L2.start N [.str w, .int n] = [some (.str w), some (.int n)] by unfold L2.start; rw [hN]; rfl]
  have ln := istr_len (i := n) (by omega) (by omega)
  unfold t_stuffT
  walk_at "rd"
  refine k_ite (fun z => ?_) (fun z => ?_)
  · walk_at "rd"
    subst z
    rw [stuff1] at k
    exact k
  · walk_at "rd"
    refine ⟨(log_small (i := n) (by omega) (by omega)), ?_⟩
    refine k_jnS (by rw [strLen_append, lenE, szL]; omega) ?_
    walk_at "rd"
    refine k_jnS (by rw [strLen_append, strLen_append, lenE, lenBl, szL]; omega) ?_
    walk_at "rd"
    refine k_fS (by rw [szL]; omega) ?_
    refine k_jnS (by rw [strLen_append, strLen_append, strLen_append, lenE, lenBl, szL]; omega) ?_
    walk_at "rd"
    unfold stuffT at k
    rw [if_neg z] at k
    exact k
def spHeapT (K : PySem.W.Frag) : Sp := fun vs H Q _ => ∃ (v1 v2 : V) (ws : List Str) (h : List Int), vs = [v1, v2] ∧ Rz K H v1 (.tuple (ws.map Dat.str)) ∧ Rz K H v2 (dI h) ∧ WsOk ws ∧ HeapOk ws.length h ∧ ∀ H', Same H H' → Q (.str (heapT ws h)) H'
theorem len_heapT {K : PySem.W.Frag} {vs : List V} {H : Hp} {Q : VK} {E : XK} {x y : Str} (h : spHeapT K vs H Q E) : vs.length = [x, y].length := by
  obtain ⟨a, b, _, _, rfl, _⟩ := h
  rfl
theorem dS_at {K : PySem.W.Frag} {H : Hp} {v : V} {ws : List Str} (h : Rz K H v (.tuple (ws.map Dat.str))) : ∃ a : Addr, v = .ref a ∧ H a = some (.tup (ws.map V.str)) := by
  obtain ⟨a, xs, e, ha, r⟩ := h.tup_at
  cases RpL.strs_of r
  exact ⟨a, e, ha⟩
theorem nil_of_len {ws : List Str} {h : List Int} (p : (partsT ws h) = []) : heapT ws h = "0" := if_pos p
theorem join_of_len {ws : List Str} {h : List Int} (p : (partsT ws h) ≠ []) : heapT ws h = Txt.join " + " (partsT ws h) := if_neg p
theorem join_fits {ws : List Str} {h : List Int} (ow : WsOk ws) (oh : ∀ x ∈ h, 0 ≤ x ∧ x ≤ 3) : ((partsT ws h).map (·.length)).sum + (partsT ws h).length * ((" + " : Str)).length ≤ 16777216 := by
  have h2 := sum_le fun p hp => (partsT_mem ow oh hp).1
  have h3 := partsT_len (ws := ws) (h := h)
  have h4 := ow.1
  rw [lenPl]
  omega
def t_heapT (K : PySem.W.Frag) : TS := (tSeq (tAsg (tCompF (iZip K .T .T (tCons (tVar 0) (tCons (tVar 1) tNil))) 2 (gTup K 2 (gCons (gName 0) (gCons (gName 1) gNil))) (tTest (tOp rGt (tVar 1) (tC (.int 0)))) (tCall spStuffT [] E0 (tCons (tVar 0) (tCons (tVar 1) tNil)))) (gName 2))
  (tSeq (tIfS (tTest (tOp rEq (tCB (rLenQ K) (tCons (tVar 2) tNil)) (tC (.int 0))))
  (tRet (tC (.str "0")))
  tNext)
  (tRet (tBM K "str" (rJoin K) (tC (.str " + ")) (tCons (tVar 2) tNil)))))
theorem rd_heapT {K : PySem.W.Frag} {vs : List V} {H : Hp} {Q : VK} {E : XK} {N : List Str} (hN : N.length = 3) (h : spHeapT K vs H Q E) : t_heapT K (ends Q) (L2.start N vs) H := by
  obtain ⟨v1, v2, ws, h, rfl, r1, r2, ow, oh, k⟩ := h
  obtain ⟨a, rfl, ha⟩ := dS_at r1
  obtain ⟨b, rfl, hb⟩ := dI_at r2
  rw [show L2.start N [.ref a, .ref b] = [some (.ref a), some (.ref b), none] by unfold L2.start; rw [hN]; rfl]
  unfold t_heapT
  walk_at "rd"
  refine ⟨a, b, _, _, rfl, SqT.of ha, SqT.of hb, ?_⟩
  refine compF_zip (xs := ws.map V.str) (ys := h.map V.int) fun D nD => ?_
  have ml : min (ws.map V.str).length (h.map V.int).length = ws.length := by rw [List.length_map, List.length_map, oh.1, Nat.min_self]
  refine ⟨fun i H2 => AccZ K H D H2 ((partsT (ws.take i) (h.take i)).map Dat.str), AccZ.start (Same.refl _) nD, fun i H2 _ A => ⟨SqT.of (A.same _ _ ha), SqT.of (A.same _ _ hb)⟩, ?_, ?_⟩
  · intro i y1 y2 H2 T e1 e2 A nT us hu
    obtain ⟨u0, u1, rfl⟩ : ∃ u0 u1, us = [u0, u1] := by
      match us, hu with
      | [u0, u1], _ => exact ⟨u0, u1, rfl⟩
    rw [List.getElem?_map] at e1 e2
    obtain ⟨w, f1, rfl⟩ := Option.map_eq_some_iff.mp e1
    obtain ⟨n, f2, rfl⟩ := Option.map_eq_some_iff.mp e2
    have li : i < ws.length := (List.getElem?_eq_some_iff.mp f1).1
    have sn := partsT_snoc f1 f2
    have on := oh.2 n (List.mem_of_getElem? f2)
    have lw := (ow.2 w (List.mem_of_getElem? f1)).1
    refine k_gTup (SqT.of upd_same) rfl ?_
    walk_at "rd"
    refine ⟨⟨[some (.str w), some (.int n)], rfl, rfl⟩, ?_⟩
    walk_at "rd"
    refine k_ite (fun z => ?_) (fun z => ?_)
    · walk_at "rd"
      refine ⟨w, n, rfl, lw, z, on.2, ?_⟩
      refine pushed (by rw [ml]; exact li) ?_
      refine (A.on (same_new nT _)).pushK (.str (stuffT w n)) (small1000 ?_) fun H4 A4 => ?_
      · rw [List.length_map]
        have := partsT_len (ws := ws.take i) (h := h.take i)
        rw [List.length_take] at this
        have := ow.1
        omega
      · show AccZ K H D H4 ((partsT (ws.take (i + 1)) (h.take (i + 1))).map Dat.str)
        rw [sn, if_pos z, List.map_append]
        exact A4
    · refine skipped (by rw [ml]; exact li) ?_
      show AccZ K H D _ ((partsT (ws.take (i + 1)) (h.take (i + 1))).map Dat.str)
      rw [sn, if_neg z, List.append_nil]
      exact A.on (same_new nT _)
  · intro H2 A
    rw [ml, List.take_of_length_le (Nat.le_refl _), List.take_of_length_le (by rw [oh.1]; exact Nat.le_refl _)] at A
    have hD := AccZ.strs A
    walk_at "rd"
    refine k_lenL (SqL.of hD) ?_
    walk_at "rd"
    refine k_ite (fun z => ?_) (fun z => ?_)
    · walk_at "rd"
      have p : partsT ws h = [] := List.length_eq_zero_iff.mp (by rw [List.length_map] at z; omega)
      rw [nil_of_len p] at k
      exact k H2 A.same
    · walk_at "rd"
      have p : partsT ws h ≠ [] := fun q => z (by rw [q]; rfl)
      rw [join_of_len p] at k
      refine ⟨rfl, ?_⟩
      walk_at "rd"
      exact k_join (SqL.of hD) (join_fits ow oh.2) (k H2 A.same)
def spPaceT (K : PySem.W.Frag) : Sp := fun vs H Q _ => ∃ (v : V) (q d : Int), vs = [v] ∧ Rz K H v (dI [q, d]) ∧ PaceOk q d ∧ Q (.str (paceT q d)) H
theorem len_paceT {K : PySem.W.Frag} {vs : List V} {H : Hp} {Q : VK} {E : XK} {x : Str} (h : spPaceT K vs H Q E) : vs.length = [x].length := by
  obtain ⟨a, _, _, rfl, _⟩ := h
  rfl
def t_paceT (K : PySem.W.Frag) : TS := (tSeq (tAsg (tOp (rIxT K) (tVar 0) (tC (.int 0))) (gName 1))
  (tSeq (tAsg (tOp (rIxT K) (tVar 0) (tC (.int 1))) (gName 2))
  (tSeq (tIfS (tTest (tOp rEq (tVar 2) (tC (.int 1))))
  (tRet (tFmtI (tVar 1)))
  tNext)
  (tRet (tJn [(tFmtI (tVar 1)), (tC (.str "/")), (tFmtI (tVar 2))] Str.empty)))))
theorem rd_paceT {K : PySem.W.Frag} {vs : List V} {H : Hp} {Q : VK} {E : XK} {N : List Str} (hN : N.length = 3) (h : spPaceT K vs H Q E) : t_paceT K (ends Q) (L2.start N vs) H := by
  obtain ⟨v, q, d, rfl, r, p, k⟩ := h
  obtain ⟨a, rfl, ha⟩ := dI_at r
  rw [show L2.start N [.ref a] = [some (.ref a), none, none] by unfold L2.start; rw [hN]; rfl]
  have q0 := p.1
  have d0 := p.2.1
  have q1 := p.2.2.2.1
  have d1 := p.2.2.2.2
  have lq := istr_len (i := q) (by omega) (by omega)
  have ld := istr_len (i := d) (by omega) (by omega)
  unfold t_paceT
  walk_at "rd"
  refine k_ixT (SqT.of ha) (v := .int q) rfl ?_
  walk_at "rd"
  refine k_ixT (SqT.of ha) (v := .int d) rfl ?_
  walk_at "rd"
  unfold paceT at k
  refine k_ite (fun z => ?_) (fun z => ?_)
  · rw [if_pos z] at k
    walk_at "rd"
    exact ⟨(log_small (i := q) (by omega) (by omega)), k⟩
  · rw [if_neg z] at k
    walk_at "rd"
    refine ⟨(log_small (i := q) (by omega) (by omega)), ?_⟩
    refine k_jnS (by rw [strLen_append, lenE, szL]; omega) ?_
    walk_at "rd"
    refine k_jnS (by rw [strLen_append, strLen_append, lenE, lenSl, szL]; omega) ?_
    walk_at "rd"
    refine ⟨(log_small (i := d) (by omega) (by omega)), ?_⟩
    refine k_jnS (by rw [strLen_append, strLen_append, strLen_append, lenE, lenSl, szL]; omega) ?_
    walk_at "rd"
    exact k
def TtOk (ws : List Str) (t : Tn) : Prop := HeapOk ws.length t.fr ∧ HeapOk ws.length t.to ∧ PaceOk t.q t.d
def spTurnT (K : PySem.W.Frag) : Sp := fun vs H Q _ => ∃ (v1 v2 : V) (ws : List Str) (t : Tn), vs = [v1, v2] ∧ Rz K H v1 (.tuple (ws.map Dat.str)) ∧ Rz K H v2 (dT t) ∧ WsOk ws ∧ TtOk ws t ∧ ∀ H', Same H H' → Q (.str (turnT ws t)) H'
theorem len_turnT {K : PySem.W.Frag} {vs : List V} {H : Hp} {Q : VK} {E : XK} {x y : Str} (h : spTurnT K vs H Q E) : vs.length = [x, y].length := by
  obtain ⟨a, b, _, _, rfl, _⟩ := h
  rfl
def t_turnT (K : PySem.W.Frag) : TS := (tSeq (tAsg (tCall (spHeapT K) [] E0 (tCons (tVar 0) (tCons (tOp (rIxT K) (tVar 1) (tC (.int 0))) tNil))) (gName 2))
  (tSeq (tAsg (tCall (spHeapT K) [] E0 (tCons (tVar 0) (tCons (tOp (rIxT K) (tVar 1) (tC (.int 1))) tNil))) (gName 3))
  (tSeq (tAsg (tCall (spPaceT K) [] E0 (tCons (tOp (rIxT K) (tVar 1) (tC (.int 2))) tNil)) (gName 4))
  (tRet (tJn [(tFmtS (tVar 2)), (tC (.str " -> ")), (tFmtS (tVar 3)), (tC (.str " @ ")), (tFmtS (tVar 4))] Str.empty)))))
theorem rd_turnT {K : PySem.W.Frag} {vs : List V} {H : Hp} {Q : VK} {E : XK} {N : List Str} (hN : N.length = 5) (h : spTurnT K vs H Q E) : t_turnT K (ends Q) (L2.start N vs) H := by
  obtain ⟨v1, v2, ws, t, rfl, r1, r2, ow, ⟨o1, o2, op⟩, k⟩ := h
  obtain ⟨a, w1, w2, w3, rfl, ha, q1, q2, q3⟩ := dT_at r2
  rw [show L2.start N [v1, .ref a] = [some v1, some (.ref a), none, none, none] by unfold L2.start; rw [hN]; rfl]
  have l1 := heapT_len ow o1.2
  have l2 := heapT_len ow o2.2
  have l3 := paceT_len op
  unfold t_turnT
  walk_at "rd"
  refine k_ixT (SqT.of ha) (v := w1) rfl ?_
  walk_at "rd"
  refine ⟨v1, w1, ws, t.fr, rfl, r1, q1, ow, o1, fun H1 S1 => ?_⟩
  have ha1 := S1 _ _ ha
  walk_at "rd"
  refine k_ixT (SqT.of ha1) (v := w2) rfl ?_
  walk_at "rd"
  refine ⟨v1, w2, ws, t.to, rfl, r1.same S1, q2.same S1, ow, o2, fun H2 S2 => ?_⟩
  have ha2 := S2 _ _ ha1
  walk_at "rd"
  refine k_ixT (SqT.of ha2) (v := w3) rfl ?_
  walk_at "rd"
  refine ⟨w3, t.q, t.d, rfl, (q3.same S1).same S2, op, ?_⟩
  walk_at "rd"
  refine k_fS (by rw [szL]; omega) ?_
  refine k_jnS (by rw [strLen_append, lenE, szL]; omega) ?_
  walk_at "rd"
  refine k_jnS (by rw [strLen_append, strLen_append, lenE, lenAr, szL]; omega) ?_
  walk_at "rd"
  refine k_fS (by rw [szL]; omega) ?_
  refine k_jnS (by rw [strLen_append, strLen_append, strLen_append, lenE, lenAr, szL]; omega) ?_
  walk_at "rd"
  refine k_jnS (by rw [strLen_append, strLen_append, strLen_append, strLen_append, lenE, lenAr, lenAt, szL]; omega) ?_
  walk_at "rd"
  refine k_fS (by rw [szL]; omega) ?_
  refine k_jnS (by rw [strLen_append, strLen_append, strLen_append, strLen_append, strLen_append, lenE, lenAr, lenAt, szL]; omega) ?_
  walk_at "rd"
  exact k H2 (S1.trans S2)
def TvOk (ws : List Str) (ts : List Tn) : Prop := WsOk ws ∧ ts.length ≤ 8 ∧ ∀ t ∈ ts, TtOk ws t
theorem texts_at {K : PySem.W.Frag} {H : Hp} {σ : St} {Q : VK} {te : TE} {b : Addr} {xs : List V} {ws : List Str} {ts : List Tn} (ok : TvOk ws ts) (hb : H b = some (.tup xs)) (rx : RzL K H xs (ts.map dT))
    (ht : ∀ (H2 : Hp) (v : V) (t : Tn) (Q' : VK), Same H H2 → Rz K H2 v (dT t) → TtOk ws t → (∀ H', Same H2 H' → Q' (.str (turnT ws t)) H') → te (some v :: σ) H2 Q')
    (hq : ∀ (D : Addr) (H' : Hp), AccZ K H D H' ((ts.map (turnT ws)).map Dat.str) → Q (.ref D) H') : CompAt (Itt K b) te σ Q H := by
  have lx : xs.length = ts.length := by rw [rx.length, List.length_map]
  refine comp_tup (xs := xs) fun D nD => ⟨fun i H2 => AccZ K H D H2 (((ts.take i).map (turnT ws)).map Dat.str), AccZ.start (Same.refl _) nD, fun i H2 _ A => SqT.of (A.same _ _ hb), ?_, ?_⟩
  · intro i z H2 hz A
    obtain ⟨dd, g1, g2⟩ := rx.get hz
    rw [List.getElem?_map] at g1
    obtain ⟨t, et, rfl⟩ := Option.map_eq_some_iff.mp g1
    have li : i < ts.length := (List.getElem?_eq_some_iff.mp et).1
    have ln := ok.2.1
    refine ht H2 z t _ A.same (g2.same A.same) (ok.2.2 t (List.mem_of_getElem? et)) fun H3 S3 => ?_
    refine pushed (by omega) ((A.on S3).pushK (.str _) (small1000 ?_) fun H4 A4 => ?_)
    · rw [List.length_map, List.length_map, List.length_take]
      omega
    · show AccZ K H D H4 (((ts.take (i + 1)).map (turnT ws)).map Dat.str)
      rw [List.take_add_one, et, List.map_append, List.map_append]
      exact A4
  · intro H2 A
    rw [lx, List.take_of_length_le (Nat.le_refl _)] at A
    exact hq D H2 A
theorem four_of {w : Str} {n : Int} (h0 : 0 < n) (h3 : n ≤ 3) : atI [V.str "", .str w, .str (("2 " : Str) ++ w), .str (("3 " : Str) ++ w)] n = some (.str (stuffT w n)) := by
  rcases three h0 h3 with rfl | rfl | rfl
  · rw [stuff1]; rfl
  · rw [stuff2]; rfl
  · rw [stuff3]; rfl
theorem ves_tv {ws : List Str} {ts : List Tn} (h : VesOk ws ts) : TvOk ws ts := by
  obtain ⟨hs, po, _, tk⟩ := h.turns
  refine ⟨⟨h.w5, fun w hw => ⟨(h.words.2 w hw).2.1, low_ok (h.words.2 w hw).2.2⟩⟩, tk.le, fun t ht => ?_⟩
  obtain ⟨f, g, _, p⟩ := tk.ok t ht
  exact ⟨po.2 _ f, po.2 _ g, p⟩
end Tw
namespace Tp2
open PySem L2 Str
open PySem.Builtin.Str (strSub subAt)
abbrev cl (s : Str) : List Nat := s.cps.toList
theorem cl_app (a b : Str) : cl (a ++ b) = cl a ++ cl b := by
  show (a.cps ++ b.cps).toList = _
  rw [Array.toList_append]
theorem cl_len (a : Str) : (cl a).length = a.length := by show a.cps.toList.length = a.cps.size; rw [Array.length_toList]
theorem cl_inj {a b : Str} (h : cl a = cl b) : a = b := Str.ext' (Array.toList_inj.mp h)
theorem occ_iff {z y : Str} {i : Nat} : Occ z y i ↔ i + y.length ≤ z.length ∧ ((cl z).drop i).take y.length = cl y := by
  unfold Occ
  rw [StrLaws.subAt_eq, beq_iff_eq]
theorem occ_char {z y : Str} {i j c : Nat} (h : Occ z y i) (hc : (cl y)[j]? = some c) : (cl z)[i + j]? = some c := by
  obtain ⟨_, e⟩ := occ_iff.mp h
  have lj : j < y.length := by rw [← cl_len]; exact (List.getElem?_eq_some_iff.mp hc).1
  rw [← e, List.getElem?_take_of_lt lj, List.getElem?_drop] at hc
  exact hc
theorem occ_mid (a y b : Str) : Occ (a ++ y ++ b) y a.length := by
  refine occ_iff.mpr ⟨by rw [Str.length_append, Str.length_append]; omega, ?_⟩
  rw [cl_app, cl_app, List.append_assoc, List.drop_append_of_le_length (by rw [cl_len]; exact Nat.le_refl _), List.drop_of_length_le (by rw [cl_len]; exact Nat.le_refl _), List.nil_append, ← cl_len y, List.take_left]
theorem sub_first (a y b : Str) : strSub (a ++ y ++ b) 0 a.length = a := cl_inj (by
  show (strSub (a ++ y ++ b) 0 a.length).cps.toList = _
  rw [StrLaws.strSub_toList]
  show ((cl (a ++ y ++ b)).drop 0).take (a.length - 0) = cl a
  rw [List.drop_zero, Nat.sub_zero, cl_app, cl_app, List.append_assoc, ← cl_len a, List.take_left])
theorem sub_last (a y b : Str) : strSub (a ++ y ++ b) (a.length + y.length) (a ++ y ++ b).length = b := cl_inj (by
  show (strSub (a ++ y ++ b) (a.length + y.length) (a ++ y ++ b).length).cps.toList = _
  rw [StrLaws.strSub_toList]
  show ((cl (a ++ y ++ b)).drop (a.length + y.length)).take _ = cl b
  have l : (cl (a ++ y)).length = a.length + y.length := by rw [cl_len, Str.length_append]
  rw [cl_app, ← l, List.drop_left, Str.length_append]
  rw [List.take_of_length_le]
  rw [cl_len, l, Str.length_append]; omega)
theorem first2 {a y b : Str} {y0 y1 : Nat} (h0 : (cl y)[0]? = some y0) (h1 : (cl y)[1]? = some y1) (na : y1 ∉ cl a) (ne : y1 ≠ y0) : ∀ k, k < a.length → ¬ Occ (a ++ y ++ b) y k := by
  intro k hk o
  have c := occ_char o h1
  rw [cl_app, cl_app, List.append_assoc] at c
  rcases Nat.lt_or_ge (k + 1) a.length with l | l
  · rw [List.getElem?_append_left (by rw [cl_len]; exact l)] at c
    exact na (List.mem_of_getElem? c)
  · have e : k + 1 = a.length := by omega
    rw [List.getElem?_append_right (by rw [cl_len]; omega), cl_len, e, Nat.sub_self, List.getElem?_append_left (List.getElem?_eq_some_iff.mp h0).1, h0] at c
    exact ne (Option.some.inj c).symm
theorem first1 {a y b : Str} {y0 : Nat} (h0 : (cl y)[0]? = some y0) (na : y0 ∉ cl a) : ∀ k, k < a.length → ¬ Occ (a ++ y ++ b) y k := by
  intro k hk o
  have c := occ_char o h0
  rw [cl_app, cl_app, List.append_assoc, Nat.add_zero, List.getElem?_append_left (by rw [cl_len]; exact hk)] at c
  exact na (List.mem_of_getElem? c)
theorem none1 {z y : Str} {y0 : Nat} (h0 : (cl y)[0]? = some y0) (nz : y0 ∉ cl z) : ∀ i, ¬ Occ z y i := fun i o => by
  have c := occ_char o h0
  exact nz (List.mem_of_getElem? c)
theorem last1 {a y b : Str} {y0 : Nat} (h0 : (cl y)[0]? = some y0) (l1 : y.length = 1) (nb : y0 ∉ cl b) : ∀ k, a.length < k → ¬ Occ (a ++ y ++ b) y k := by
  intro k hk o
  have c := occ_char o h0
  rw [cl_app, Nat.add_zero, List.getElem?_append_right (by rw [cl_len, Str.length_append]; omega)] at c
  exact nb (List.mem_of_getElem? c)
def pls : Str := " + "
theorem pls_cl : cl pls = [32, 43, 32] := by decide +kernel
theorem pls_len : pls.length = 3 := by decide +kernel
def pos : List Str → List Nat
  | [] => []
  | [_] => []
  | p :: q :: r => p.length :: (pos (q :: r)).map (· + (p.length + 3))
theorem join2 (p q : Str) (r : List Str) : Str.join pls (p :: q :: r) = p ++ pls ++ Str.join pls (q :: r) := rfl
theorem plus_pos : ∀ (ps : List Str), (∀ p ∈ ps, 43 ∉ cl p) → ∀ m, (cl (Str.join pls ps))[m]? = some 43 → ∃ i ∈ pos ps, m = i + 1
  | [], _, m, h => by
    have : cl (Str.join pls []) = [] := by decide +kernel
    rw [this] at h; cases h
  | [p], hp, m, h => absurd (List.mem_of_getElem? h) (hp p List.mem_cons_self)
  | p :: q :: r, hp, m, h => by
    rw [join2, cl_app, cl_app, List.append_assoc, pls_cl] at h
    rcases Nat.lt_or_ge m p.length with l | l
    · rw [List.getElem?_append_left (by rw [cl_len]; exact l)] at h
      exact absurd (List.mem_of_getElem? h) (hp p List.mem_cons_self)
    · rw [List.getElem?_append_right (by rw [cl_len]; exact l), cl_len] at h
      obtain ⟨d, rfl⟩ : ∃ d, m = p.length + d := ⟨m - p.length, by omega⟩
      rw [Nat.add_sub_cancel_left] at h
      match d, h with
      | 0, h => cases h
      | 1, _ => exact ⟨p.length, List.mem_cons_self, rfl⟩
      | 2, h => cases h
      | d + 3, h =>
        obtain ⟨i, hi, e⟩ := plus_pos (q :: r) (fun x hx => hp x (List.mem_cons_of_mem _ hx)) d h
        exact ⟨i + (p.length + 3), List.mem_cons_of_mem _ (List.mem_map.mpr ⟨i, hi, rfl⟩), by omega⟩
theorem occ_shift {a z y : Str} {i : Nat} (h : Occ z y i) : Occ (a ++ z) y (i + a.length) := by
  obtain ⟨l, e⟩ := occ_iff.mp h
  refine occ_iff.mpr ⟨by rw [Str.length_append]; omega, ?_⟩
  rw [cl_app, Nat.add_comm, ← List.drop_drop, ← cl_len a, List.drop_left]
  exact e
theorem pos_occ : ∀ (ps : List Str), ∀ i ∈ pos ps, Occ (Str.join pls ps) pls i
  | [], _, h => by cases h
  | [_], _, h => by cases h
  | p :: q :: r, i, h => by
    rcases List.mem_cons.mp h with rfl | h
    · rw [join2]; exact occ_mid _ _ _
    · obtain ⟨j, hj, rfl⟩ := List.mem_map.mp h
      have := occ_shift (a := p ++ pls) (pos_occ (q :: r) j hj)
      rw [Str.length_append, pls_len] at this
      exact this
theorem pos_gap : ∀ (ps : List Str), (pos ps).Pairwise fun i j => i + 3 ≤ j
  | [] => .nil
  | [_] => .nil
  | p :: q :: r => by
    refine List.Pairwise.cons (fun x hx => ?_) ?_
    · obtain ⟨j, _, rfl⟩ := List.mem_map.mp hx
      omega
    · rw [List.pairwise_map]
      exact (pos_gap (q :: r)).imp fun h => by omega
theorem occ_pos {ps : List Str} (hp : ∀ p ∈ ps, 43 ∉ cl p) {i : Nat} (h : Occ (Str.join pls ps) pls i) : i ∈ pos ps := by
  have c := occ_char h (j := 1) (c := 43) (by rw [pls_cl]; rfl)
  obtain ⟨k, hk, e⟩ := plus_pos ps hp _ c
  have : i = k := by omega
  rw [this]; exact hk
theorem sorted_eq : ∀ {l1 l2 : List Nat}, l1.Pairwise (· < ·) → l2.Pairwise (· < ·) → (∀ x, x ∈ l1 ↔ x ∈ l2) → l1 = l2
  | [], [], _, _, _ => rfl
  | [], b :: l2, _, _, h => absurd ((h b).mpr List.mem_cons_self) (by simp)
  | a :: l1, [], _, _, h => absurd ((h a).mp List.mem_cons_self) (by simp)
  | a :: l1, b :: l2, p1, p2, h => by
    have q1 := List.pairwise_cons.mp p1
    have q2 := List.pairwise_cons.mp p2
    have e : a = b := by
      rcases List.mem_cons.mp ((h a).mp List.mem_cons_self) with e | m
      · exact e
      · rcases List.mem_cons.mp ((h b).mpr List.mem_cons_self) with e | m2
        · exact e.symm
        · have := q1.1 b m2; have := q2.1 a m; omega
    subst e
    rw [sorted_eq q1.2 q2.2 fun x => ⟨fun hx => ?_, fun hx => ?_⟩]
    · rcases List.mem_cons.mp ((h x).mp (List.mem_cons_of_mem _ hx)) with e | m
      · have := q1.1 x hx; omega
      · exact m
    · rcases List.mem_cons.mp ((h x).mpr (List.mem_cons_of_mem _ hx)) with e | m
      · have := q2.1 x hx; omega
      · exact m
theorem occs_pos {ps : List Str} (hp : ∀ p ∈ ps, 43 ∉ cl p) : occs (Str.join pls ps) pls = pos ps := by
  refine sorted_eq ?_ ((pos_gap ps).imp fun h => by omega) fun x => ?_
  · unfold occs
    exact List.Pairwise.filter _ List.pairwise_lt_range
  · rw [mem_occs]
    exact ⟨occ_pos hp, pos_occ ps x⟩
theorem pairwise_gap {l : List Nat} (h : l.Pairwise fun i j => i + 3 ≤ j) {i j : Nat} (hi : i ∈ l) (hj : j ∈ l) (lt : i < j) : i + 3 ≤ j := by
  induction l with
  | nil => cases hi
  | cons a l ih =>
    have q := List.pairwise_cons.mp h
    rcases List.mem_cons.mp hi with rfl | hi'
    · rcases List.mem_cons.mp hj with rfl | hj'
      · omega
      · exact q.1 j hj'
    · rcases List.mem_cons.mp hj with rfl | hj'
      · have := q.1 i hi'; omega
      · exact ih q.2 hi' hj'
theorem apart_join {ps : List Str} (hp : ∀ p ∈ ps, 43 ∉ cl p) : Apart (Str.join pls ps) pls := fun i j hi hj lt => by
  rw [pls_len]
  exact pairwise_gap (pos_gap ps) (occ_pos hp hi) (occ_pos hp hj) lt
theorem parts_at : ∀ (ps : List Str) (a : Str), ps ≠ [] → StrLaws.partsFrom (a ++ Str.join pls ps) 3 a.length ((pos ps).map (· + a.length)) = ps
  | [], _, h => absurd rfl h
  | [p], a, _ => by
    show [strSub (a ++ p) a.length (a ++ p).length] = [p]
    have := sub_last a Str.empty p
    rw [Str.append_empty] at this
    rw [show a.length + Str.empty.length = a.length from Nat.add_zero _] at this
    rw [this]
  | p :: q :: r, a, _ => by
    show strSub (a ++ Str.join pls (p :: q :: r)) a.length (p.length + a.length) :: StrLaws.partsFrom (a ++ Str.join pls (p :: q :: r)) 3 (p.length + a.length + 3) (((pos (q :: r)).map (· + (p.length + 3))).map (· + a.length)) = _
    have e1 : a ++ Str.join pls (p :: q :: r) = (a ++ p ++ pls) ++ Str.join pls (q :: r) := by
      rw [join2]; simp only [Str.append_assoc]
    have ih := parts_at (q :: r) (a ++ p ++ pls) (by simp)
    have l : (a ++ p ++ pls).length = p.length + a.length + 3 := by rw [Str.length_append, Str.length_append, pls_len]; omega
    rw [l] at ih
    have e2 : ((pos (q :: r)).map (· + (p.length + 3))).map (· + a.length) = (pos (q :: r)).map (· + (p.length + a.length + 3)) := by
      rw [List.map_map]
      exact List.map_congr_left fun x _ => by show x + (p.length + 3) + a.length = x + (p.length + a.length + 3); omega
    rw [e1, e2, ih]
    congr 1
    refine cl_inj ?_
    show (strSub ((a ++ p ++ pls) ++ Str.join pls (q :: r)) a.length (p.length + a.length)).cps.toList = _
    rw [StrLaws.strSub_toList]
    show ((cl ((a ++ p ++ pls) ++ Str.join pls (q :: r))).drop a.length).take (p.length + a.length - a.length) = cl p
    rw [cl_app, cl_app, cl_app, List.append_assoc, List.append_assoc, ← cl_len a, List.drop_left, Nat.add_sub_cancel, ← cl_len p, List.take_left]
theorem split_join {ps : List Str} (hp : ∀ p ∈ ps, 43 ∉ cl p) (ne : ps ≠ []) : StrLaws.partsFrom (Str.join pls ps) pls.length 0 (occs (Str.join pls ps) pls) = ps := by
  have h := parts_at ps Str.empty ne
  rw [Str.empty_append] at h
  rw [occs_pos hp, pls_len]
  have e : (pos ps).map (· + Str.empty.length) = pos ps := by
    rw [show (fun x => x + Str.empty.length) = id from funext fun x => Nat.add_zero x, List.map_id]
  rw [e] at h
  exact h
end Tp2
namespace Md
open PySem L2 Fr G1 Sm Vs
open PySem.W (Dat kqdOk kqdP kqdPs)
structure Cn (K : PySem.W.Frag) (mg : Str → Option Value) (nq : Addr) : Prop where
  MOST_STUFFS : ∃ t, mg "MOST_STUFFS" = some (.int 5 t)
  MOST_SIGNS : ∃ t, mg "MOST_SIGNS" = some (.int 8 t)
  MOST_PIECES : ∃ t, mg "MOST_PIECES" = some (.int 3 t)
  MOST_TURNINGS : ∃ t, mg "MOST_TURNINGS" = some (.int 8 t)
  MOST_HEAPS : ∃ t, mg "MOST_HEAPS" = some (.int 8 t)
  NOUGHT : mg "NOUGHT" = some (.ref nq)
  two : ∀ H : Hp, SqT K H nq [.int 0, .int 1]
theorem szL : sizeLine = 16777216 := by decide
theorem all_rep (n : Nat) : (List.replicate n true).all id = true := by
  rw [List.all_eq_true]
  intro x hx
  rw [(List.mem_replicate.mp hx).2]
  rfl
theorem any_rep (n : Nat) : (List.replicate n false).any id = false := by
  rw [List.any_eq_false]
  intro x hx
  rw [(List.mem_replicate.mp hx).2]
  simp
def spBefore (K : PySem.W.Frag) : Sp := fun vs H Q _ => ∃ (p q : Addr) (a b c d : Int), vs = [.ref p, .ref q] ∧ SqT K H p [.int a, .int b] ∧ SqT K H q [.int c, .int d] ∧ CMulW a d ∧ CMulW c b ∧ Q (.bl (decide (a * d < c * b))) H
theorem len_before {K : PySem.W.Frag} {vs : List V} {H : Hp} {Q : VK} {E : XK} {x y : Str} (h : spBefore K vs H Q E) : vs.length = [x, y].length := by
  obtain ⟨_, _, _, _, _, _, rfl, _⟩ := h
  rfl
def t_before (K : PySem.W.Frag) : TS := (tRet (tOp rLt (tOp rMulW (tOp (rIxT K) (tVar 0) (tC (.int 0))) (tOp (rIxT K) (tVar 1) (tC (.int 1)))) (tOp rMulW (tOp (rIxT K) (tVar 1) (tC (.int 0))) (tOp (rIxT K) (tVar 0) (tC (.int 1))))))
theorem rd_before {K : PySem.W.Frag} {vs : List V} {H : Hp} {Q : VK} {E : XK} {N : List Str} (hN : N.length = 2) (h : spBefore K vs H Q E) : t_before K (ends Q) (L2.start N vs) H := by
  obtain ⟨p, q, a, b, c, d, rfl, hp, hq, m1, m2, k⟩ := h
  rw [show L2.start N [.ref p, .ref q] = [some (.ref p), some (.ref q)] by unfold L2.start; rw [hN]; rfl]
  unfold t_before
  walk_at "rd"
  refine k_ixT hp (v := .int a) rfl ?_
  walk_at "rd"
  refine k_ixT hq (v := .int d) rfl ?_
  refine k_rI m1 ?_
  walk_at "rd"
  refine k_ixT hq (v := .int c) rfl ?_
  walk_at "rd"
  refine k_ixT hp (v := .int b) rfl ?_
  refine k_rI m2 ?_
  walk_at "rd"
  exact k
theorem k_leS {H : Hp} {Q : VK} {i j : Str} (h : Q (.bl (!decide (j.cps.toList < i.cps.toList))) H) : rLeS (.str i) (.str j) H Q := ⟨i, j, rfl, rfl, h⟩
theorem cpA : (("a" : Str)).cps.toList = [97] := by decide +kernel
theorem cpZ : (("z" : Str)).cps.toList = [122] := by decide +kernel
theorem sign_le {c d : Nat} (h : d ≤ c) : ¬ (([c] : List Nat) < [d]) := by
  rw [List.cons_lt_cons_iff]
  rintro (z | ⟨_, z⟩)
  · omega
  · cases z
def spIsWord (K : PySem.W.Frag) : Sp := fun vs H Q _ => ∃ w : Str, vs = [.str w] ∧ WordOk w ∧ ∀ H', Same H H' → Q (.bl true) H'
theorem len_isWord {K : PySem.W.Frag} {vs : List V} {H : Hp} {Q : VK} {E : XK} {x : Str} (h : spIsWord K vs H Q E) : vs.length = [x].length := by
  obtain ⟨_, rfl, _⟩ := h
  rfl
def t_isWord (K : PySem.W.Frag) : TS := (tSeq (tIfS (tOr (tNot (tB (tCB (rIsi K) (tCons (tVar 0) (tCons (tC (.ty "str")) tNil))))) (tNot (tTest (tChain rLe rLe (tC (.int 1)) (tCB rLenS (tCons (tVar 0) tNil)) (tC (.int 8))))))
  (tRet (tC (.bl false)))
  tNext)
  (tRet (tCB (rAll K) (tCons (tComp (iStr (tVar 0)) (tChain rLeS rLeS (tC (.str "a")) (tVar 0) (tC (.str "z")))) tNil))))
theorem rd_isWord {K : PySem.W.Frag} {vs : List V} {H : Hp} {Q : VK} {E : XK} {N : List Str} (hN : N.length = 1) (h : spIsWord K vs H Q E) : t_isWord K (ends Q) (L2.start N vs) H := by
  obtain ⟨w, rfl, ⟨w1, w8, lw⟩, k⟩ := h
  rw [show L2.start N [.str w] = [some (.str w)] by unfold L2.start; rw [hN]; rfl]
  unfold t_isWord
  walk_at "rd"
  refine k_isi (.str w) kit_str_str ?_
  walk_at "rd"
  refine k_lenS (by rw [szL]; omega) ?_
  walk_at "rd"
  refine k_ite (fun _ => ?_) (fun z => absurd w1 (by omega))
  walk_at "rd"
  refine k_iteN (fun z => absurd w8 (by omega)) (fun _ => ?_)
  walk_at "rd"
  have asc : w.cps.all (· < 128) = true := by
    rw [Array.all_eq_true_iff_forall_mem]
    intro c hc
    have := lw c (by simpa using hc)
    exact decide_eq_true (by omega)
  refine ⟨w, rfl, asc, ?_⟩
  have sz : w.cps.size ≤ 8 := w8
  refine comp_str fun D nD => ⟨fun j H3 => AccZ K H D H3 ((List.replicate j true).map Dat.bool), AccZ.start (Same.refl _) nD, ?_, ?_⟩
  · intro i c H2 hc A
    have lc := lw c (List.mem_of_getElem? (by rw [Array.getElem?_toList]; exact hc))
    have hi : i < w.cps.size := (Array.getElem?_eq_some_iff.mp hc).1
    walk_at "rd"
    refine k_leS ?_
    rw [cpA]
    walk_at "rd"
    refine k_iteN (fun _ => ?_) (fun z => absurd z (sign_le lc.1))
    walk_at "rd"
    refine k_leS ?_
    rw [cpZ, decide_eq_false (sign_le lc.2)]
    exact comp_bls (H0 := H) (by omega) hi (fun _ _ => Iff.rfl) A (Same.refl _)
  · intro H2 A
    refine k_all (AccZ.bls A) ?_
    rw [all_rep]
    exact k H2 A.same
theorem k_lenset {r : V → Hp → (Nat → Hp → Prop) → Prop} {te : TE} {σ : St} {H : Hp} {Q : VK} (h : te σ H fun x H1 => r x H1 fun n H2 => (n : Int) < 2 ^ 63 ∧ Q (.int n) H2) : tLenSet r te σ H Q := h
theorem nd_str {ws : List Str} (h : ws.Nodup) : (ws.map Dat.str).Nodup := by
  induction ws with
  | nil => exact List.nodup_nil
  | cons w ws ih =>
    rw [List.nodup_cons] at h
    rw [List.map_cons, List.nodup_cons]
    refine ⟨fun z => ?_, ih h.2⟩
    obtain ⟨v, hv, e⟩ := List.mem_map.mp z
    cases e
    exact h.1 hv
def spStuffs (K : PySem.W.Frag) : Sp := fun vs H Q _ => ∃ (a : Addr) (ws : List Str), vs = [.ref a] ∧ (SqL K H a (ws.map V.str) ∨ H a = some (.tup (ws.map V.str))) ∧ WordsOk ws ∧ 1 ≤ ws.length ∧ ws.length ≤ 5 ∧ ∀ (p : Addr) (H' : Hp), Same H H' → H' p = some (.tup (ws.map V.str)) → Q (.ref p) H'
theorem len_stuffs {K : PySem.W.Frag} {vs : List V} {H : Hp} {Q : VK} {E : XK} {x : Str} (h : spStuffs K vs H Q E) : vs.length = [x].length := by
  obtain ⟨_, _, rfl, _⟩ := h
  rfl
def t_stuffs (K : PySem.W.Frag) : TS := (tSeq (tIfS (tNot (tTest (tChain rLe rLe (tC (.int 1)) (tCB (rLenQ K) (tCons (tVar 0) tNil)) (tC (.int 5)))))
  tNever
  tNext)
  (tSeq (tIfS (tNot (tB (tCB (rAll K) (tCons (tComp (iSeq K (tVar 0)) (tCall (spIsWord K) [] E0 (tCons (tVar 0) tNil))) tNil))))
  tNever
  tNext)
  (tSeq (tIfS (tTest (tOp rLt (tLenSet (rSetS K) (tVar 0)) (tCB (rLenQ K) (tCons (tVar 0) tNil))))
  tNever
  tNext)
  (tRet (tCB (rTupOf K) (tCons (tVar 0) tNil))))))
theorem rd_stuffs {K : PySem.W.Frag} {vs : List V} {H : Hp} {Q : VK} {E : XK} {N : List Str} (hN : N.length = 1) (h : spStuffs K vs H Q E) : t_stuffs K (ends Q) (L2.start N vs) H := by
  obtain ⟨a, ws, rfl, hz, ow, w1, w5, k⟩ := h
  have ha : SqL K H a (ws.map V.str) ∨ SqT K H a (ws.map V.str) := hz.imp id SqT.of
  rw [show L2.start N [.ref a] = [some (.ref a)] by unfold L2.start; rw [hN]; rfl]
  have lm : (ws.map V.str).length = ws.length := List.length_map ..
  unfold t_stuffs
  walk_at "rd"
  refine ⟨a, _, rfl, ha, ?_⟩
  rw [lm]
  walk_at "rd"
  refine k_ite (fun _ => ?_) (fun z => absurd w1 (by omega))
  walk_at "rd"
  refine k_iteN (fun z => absurd w5 (by omega)) (fun _ => ?_)
  walk_at "rd"
  refine comp_seq ha fun D nD => ⟨fun j H3 => AccZ K H D H3 ((List.replicate j true).map Dat.bool), AccZ.start (Same.refl _) nD, fun i H2 A => A.same, ?_, ?_⟩
  · intro i x H2 hx A
    have hi : i < (ws.map V.str).length := (List.getElem?_eq_some_iff.mp hx).1
    rw [List.getElem?_map] at hx
    obtain ⟨w, hw, rfl⟩ := Option.map_eq_some_iff.mp hx
    walk_at "rd"
    exact ⟨w, rfl, ow.2 w (List.mem_of_getElem? hw), fun H3 S3 => comp_bls (H0 := H) (by omega) hi (fun _ _ => Iff.rfl) A S3⟩
  · intro H2 A
    walk_at "rd"
    refine k_all (AccZ.bls A) ?_
    rw [all_rep]
    walk_at "rd"
    refine k_lenset ?_
    walk_at "rd"
    have hc : cnt (ws.map Dat.str) = ws.length := by rw [(cnt_nodup _).mpr (nd_str ow.1), List.length_map]
    rcases hz with hL | hT
    · have h2 := A.same.seq hL
      refine ⟨.L, a, ws, rfl, h2, by omega, ?_⟩
      rw [hc]
      refine ⟨by omega, ?_⟩
      walk_at "rd"
      refine ⟨a, _, rfl, .inl h2, ?_⟩
      rw [lm]
      walk_at "rd"
      refine k_ite (fun z => absurd z (by omega)) (fun _ => ?_)
      walk_at "rd"
      refine k_tupL h2 fun p np => ?_
      exact k p _ (A.same.trans (same_new np _)) upd_same
    · have h2 : SqT K H2 a (ws.map V.str) := SqT.of (A.same _ _ hT)
      refine ⟨.T, a, ws, rfl, h2, by omega, ?_⟩
      rw [hc]
      refine ⟨by omega, ?_⟩
      walk_at "rd"
      refine ⟨a, _, rfl, .inr h2, ?_⟩
      rw [lm]
      walk_at "rd"
      refine k_ite (fun z => absurd z (by omega)) (fun _ => ?_)
      walk_at "rd"
      refine k_tupT h2 ?_
      exact k a _ A.same (A.same _ _ hT)
def spIsHeap (K : PySem.W.Frag) : Sp := fun vs H Q _ => ∃ (a : Addr) (h : List Int) (n : Int), vs = [.ref a, .int n] ∧ (SqL K H a (h.map V.int) ∨ SqT K H a (h.map V.int)) ∧ HeapOk n.toNat h ∧ 0 ≤ n ∧ n ≤ 5 ∧ ∀ H', Same H H' → Q (.bl true) H'
theorem len_isHeap {K : PySem.W.Frag} {vs : List V} {H : Hp} {Q : VK} {E : XK} {x y : Str} (h : spIsHeap K vs H Q E) : vs.length = [x, y].length := by
  obtain ⟨_, _, _, rfl, _⟩ := h
  rfl
def t_isHeap (K : PySem.W.Frag) : TS := (tSeq (tIfS (tOr (tNot (tB (tIsLT K (tVar 0)))) (tTest (tOp rNe (tCB (rLenQ K) (tCons (tVar 0) tNil)) (tVar 1))))
  (tRet (tC (.bl false)))
  tNext)
  (tRet (tCB (rAll K) (tCons (tComp (iSeq K (tVar 0)) (tAndV (tCall spWhole [] E0 (tCons (tVar 0) tNil)) (tChain rLe rLe (tC (.int 0)) (tVar 0) (tC (.int 3))))) tNil))))
theorem rd_isHeap {K : PySem.W.Frag} {vs : List V} {H : Hp} {Q : VK} {E : XK} {N : List Str} (hN : N.length = 2) (h : spIsHeap K vs H Q E) : t_isHeap K (ends Q) (L2.start N vs) H := by
  obtain ⟨a, h, n, rfl, ha, oh, n0, n5, k⟩ := h
  rw [show L2.start N [.ref a, .int n] = [some (.ref a), some (.int n)] by unfold L2.start; rw [hN]; rfl]
  have lm : (h.map V.int).length = h.length := List.length_map ..
  have lh := oh.1
  unfold t_isHeap
  walk_at "rd"
  refine ⟨a, rfl, ha.imp (fun z => ⟨_, z⟩) (fun z => ⟨_, z⟩), ?_⟩
  walk_at "rd"
  refine ⟨a, _, rfl, ha, ?_⟩
  rw [lm]
  walk_at "rd"
  refine k_iteN (fun z => absurd z (by omega)) (fun _ => ?_)
  walk_at "rd"
  refine comp_seq ha fun D nD => ⟨fun j H3 => AccZ K H D H3 ((List.replicate j true).map Dat.bool), AccZ.start (Same.refl _) nD, fun i H2 A => A.same, ?_, ?_⟩
  · intro i x H2 hx A
    have hi : i < (h.map V.int).length := (List.getElem?_eq_some_iff.mp hx).1
    rw [List.getElem?_map] at hx
    obtain ⟨m, hm, rfl⟩ := Option.map_eq_some_iff.mp hx
    have om := oh.2 m (List.mem_of_getElem? hm)
    walk_at "rd"
    refine ⟨m, rfl, ?_⟩
    walk_at "rd"
    refine k_ite (fun _ => ?_) (fun z => absurd om.1 z)
    walk_at "rd"
    rw [decide_eq_true om.2]
    exact comp_bls (H0 := H) (by omega) hi (fun _ _ => Iff.rfl) A (Same.refl _)
  · intro H2 A
    refine k_all (AccZ.bls A) ?_
    rw [all_rep]
    exact k H2 A.same
structure Rw where
  one : Bool
  two : Bool
  t : Tn
def dQ (b : Bool) (h : List Int) : Dat := if b then .list (h.map Dat.int) else dI h
def dR (r : Rw) : Dat := .tuple [dQ r.one r.t.fr, dQ r.two r.t.to, dI [r.t.q, r.t.d]]
theorem dQ_at {K : PySem.W.Frag} {S : Addr → Prop} {H : Hp} {v : V} {b : Bool} {h : List Int} (r : Rp K S H v (dQ b h)) : ∃ a, v = .ref a ∧ ((b = true ∧ H a = some (.lst (h.map V.int))) ∨ (b = false ∧ H a = some (.tup (h.map V.int)))) := by
  cases b with
  | true =>
    obtain ⟨a, xs, e, _, ha, rx⟩ := (show Rp K S H v (.list (h.map Dat.int)) from r).lst_at
    cases RpL.ints_of rx
    exact ⟨a, e, .inl ⟨rfl, ha⟩⟩
  | false =>
    obtain ⟨a, xs, e, ha, rx⟩ := (show Rp K S H v (dI h) from r).tup_at
    cases RpL.ints_of rx
    exact ⟨a, e, .inr ⟨rfl, ha⟩⟩
theorem dR_at {K : PySem.W.Frag} {S : Addr → Prop} {H : Hp} {v : V} {r : Rw} (h : Rp K S H v (dR r)) : ∃ (a b1 b2 b3 : Addr), v = .ref a ∧ H a = some (.tup [.ref b1, .ref b2, .ref b3]) ∧
    ((r.one = true ∧ H b1 = some (.lst (r.t.fr.map V.int))) ∨ (r.one = false ∧ H b1 = some (.tup (r.t.fr.map V.int)))) ∧ ((r.two = true ∧ H b2 = some (.lst (r.t.to.map V.int))) ∨ (r.two = false ∧ H b2 = some (.tup (r.t.to.map V.int)))) ∧ H b3 = some (.tup [.int r.t.q, .int r.t.d]) := by
  obtain ⟨a, xs, e, ha, rx⟩ := h.tup_at
  cases rx with
  | cons r1 rx =>
    cases rx with
    | cons r2 rx =>
      cases rx with
      | cons r3 rx =>
        cases rx
        obtain ⟨b1, rfl, h1⟩ := dQ_at r1
        obtain ⟨b2, rfl, h2⟩ := dQ_at r2
        obtain ⟨b3, ys, rfl, h3, ry⟩ := r3.tup_at
        cases RpL.ints_of (ns := [r.t.q, r.t.d]) ry
        exact ⟨a, b1, b2, b3, e, ha, h1, h2, h3⟩
theorem sq_of {K : PySem.W.Frag} {H : Hp} {a : Addr} {p q : Prop} {xs : List V} (h : (p ∧ H a = some (.lst xs)) ∨ (q ∧ H a = some (.tup xs))) : SqL K H a xs ∨ SqT K H a xs := h.imp (fun z => SqL.of z.2) (fun z => SqT.of z.2)
theorem k_tupQ {K : PySem.W.Frag} {H : Hp} {Q : VK} {a : Addr} {p q : Prop} {xs : List V} (h : (p ∧ H a = some (.lst xs)) ∨ (q ∧ H a = some (.tup xs))) (k : ∀ (l : Addr) (H' : Hp), Same H H' → H' l = some (.tup xs) → Q (.ref l) H') : rTupOf K [.ref a] H Q := by
  rcases h with ⟨_, h⟩ | ⟨_, h⟩
  · exact k_tupL (SqL.of h) fun l nl => k l _ (same_new nl _) upd_same
  · exact k_tupT (SqT.of h) (k a H (Same.refl _) h)
theorem keep_of {H H' : Hp} {a : Addr} {p q : Prop} {xs : List V} (S : Same H H') (h : (p ∧ H a = some (.lst xs)) ∨ (q ∧ H a = some (.tup xs))) : (p ∧ H' a = some (.lst xs)) ∨ (q ∧ H' a = some (.tup xs)) := h.imp (fun z => ⟨z.1, S _ _ z.2⟩) (fun z => ⟨z.1, S _ _ z.2⟩)
def RwOk (n : Nat) (r : Rw) : Prop := HeapOk n r.t.fr ∧ HeapOk n r.t.to ∧ PaceOk r.t.q r.t.d
def spTurnings (K : PySem.W.Frag) : Sp := fun vs H Q _ => ∃ (a : Addr) (S : Addr → Prop) (rs : List Rw) (n : Int), vs = [.ref a, .int n] ∧ Rp K S H (.ref a) (.list (rs.map dR)) ∧ (∀ r ∈ rs, RwOk n.toNat r) ∧ 0 ≤ n ∧ n ≤ 5 ∧ rs.length ≤ 8 ∧
  ∀ (p : Addr) (H' : Hp), Same H H' → Rz K H' (.ref p) (.tuple ((rs.map Rw.t).map dT)) → Q (.ref p) H'
theorem len_turnings {K : PySem.W.Frag} {vs : List V} {H : Hp} {Q : VK} {E : XK} {x y : Str} (h : spTurnings K vs H Q E) : vs.length = [x, y].length := by
  obtain ⟨_, _, _, _, rfl, _⟩ := h
  rfl
def t_turnings (K : PySem.W.Frag) (nq : Addr) : TS := (tSeq (tFor (iList K (tVar 0)) (gName 2)
  (tIfS (tOr (tNot (tB (tCall (spIsHeap K) [] E0 (tCons (tOp (rIxT K) (tVar 2) (tC (.int 0))) (tCons (tVar 1) tNil))))) (tNot (tB (tCall (spIsHeap K) [] E0 (tCons (tOp (rIxT K) (tVar 2) (tC (.int 1))) (tCons (tVar 1) tNil))))))
  tNever
  tNext))
  (tSeq (tFor (iList K (tVar 0)) (gName 2)
  (tIfS (tNot (tB (tCall (spBefore K) [] E0 (tCons (tC (.ref nq)) (tCons (tOp (rIxT K) (tVar 2) (tC (.int 2))) tNil)))))
  tNever
  tNext))
  (tRet (tCB (rTupOf K) (tCons (tComp (iList K (tVar 0)) (tTup (tCons (tCB (rTupOf K) (tCons (tOp (rIxT K) (tVar 0) (tC (.int 0))) tNil)) (tCons (tCB (rTupOf K) (tCons (tOp (rIxT K) (tVar 0) (tC (.int 1))) tNil)) (tCons (tCB (rTupOf K) (tCons (tOp (rIxT K) (tVar 0) (tC (.int 2))) tNil)) tNil))))) tNil)))))
theorem rd_turnings {K : PySem.W.Frag} {mg : Str → Option Value} {nq : Addr} (G : Cn K mg nq) {vs : List V} {H : Hp} {Q : VK} {E : XK} {N : List Str} (hN : N.length = 3) (h : spTurnings K vs H Q E) : t_turnings K nq (ends Q) (L2.start N vs) H := by
  obtain ⟨a, S, rs, n, rfl, ra, ok, n0, n5, l8, k⟩ := h
  rw [show L2.start N [.ref a, .int n] = [some (.ref a), some (.int n), none] by unfold L2.start; rw [hN]; rfl]
  obtain ⟨a', xs, e0, _, ha, rx⟩ := ra.lst_at
  cases e0
  have lx : xs.length = rs.length := by rw [rx.length, List.length_map]
  have at_ : ∀ {i : Nat} {z : V} {H2 : Hp}, Same H H2 → xs[i]? = some z → ∃ r, rs[i]? = some r ∧ RwOk n.toNat r ∧ ∃ (p b1 b2 b3 : Addr), z = .ref p ∧ H2 p = some (.tup [.ref b1, .ref b2, .ref b3]) ∧
      ((r.one = true ∧ H2 b1 = some (.lst (r.t.fr.map V.int))) ∨ (r.one = false ∧ H2 b1 = some (.tup (r.t.fr.map V.int)))) ∧ ((r.two = true ∧ H2 b2 = some (.lst (r.t.to.map V.int))) ∨ (r.two = false ∧ H2 b2 = some (.tup (r.t.to.map V.int)))) ∧ H2 b3 = some (.tup [.int r.t.q, .int r.t.d]) := by
    intro i z H2 S2 hz
    obtain ⟨dd, g1, g2⟩ := rx.get hz
    rw [List.getElem?_map] at g1
    obtain ⟨r, hr, rfl⟩ := Option.map_eq_some_iff.mp g1
    exact ⟨r, hr, ok r (List.mem_of_getElem? hr), dR_at (g2.same S2)⟩
  unfold t_turnings
  walk_at "rd"
  refine k_rlF (SqL.of ha) ?_
  refine fat_list (xs := xs) (fun i σ H2 => Same H H2 ∧ ∃ u : Option V, σ = [some (.ref a), some (.int n), u]) ⟨Same.refl _, none, rfl⟩ (fun i σ H2 _ p => SqL.of (p.1 _ _ ha)) ?_ ?_
  · rintro i z σ H2 hz ⟨S2, u, rfl⟩
    obtain ⟨r, hr, ⟨o1, o2, op⟩, p, b1, b2, b3, rfl, hp, h1, h2, h3⟩ := at_ S2 hz
    walk_at "rd"
    refine k_ixT (SqT.of hp) (v := .ref b1) rfl ?_
    walk_at "rd"
    refine ⟨b1, _, n, rfl, sq_of h1, o1, n0, n5, fun H3 S3 => ?_⟩
    walk_at "rd"
    refine k_ixT (SqT.of (S3 _ _ hp)) (v := .ref b2) rfl ?_
    walk_at "rd"
    refine ⟨b2, _, n, rfl, sq_of (keep_of S3 h2), o2, n0, n5, fun H4 S4 => ?_⟩
    walk_at "rd"
    exact ⟨S2.trans (S3.trans S4), _, rfl⟩
  rintro σ H2 ⟨S2, u, rfl⟩
  walk_at "rd"
  refine k_rlF (SqL.of (S2 _ _ ha)) ?_
  refine fat_list (xs := xs) (fun i σ H3 => Same H H3 ∧ ∃ u : Option V, σ = [some (.ref a), some (.int n), u]) ⟨S2, u, rfl⟩ (fun i σ H2 _ p => SqL.of (p.1 _ _ ha)) ?_ ?_
  · rintro i z σ H3 hz ⟨S3, u, rfl⟩
    obtain ⟨r, hr, ⟨o1, o2, op⟩, p, b1, b2, b3, rfl, hp, h1, h2, h3⟩ := at_ S3 hz
    walk_at "rd"
    refine k_ixT (SqT.of hp) (v := .ref b3) rfl ?_
    walk_at "rd"
    have q0 := op.1
    have q1 := op.2.2.2.1
    have d0 := op.2.1
    have d1 := op.2.2.2.2
    refine ⟨nq, b3, 0, 1, r.t.q, r.t.d, rfl, G.two _, SqT.of h3, ⟨Gd.wide2 (Gd.wide (by omega)), Gd.wide2 (Gd.wide (by omega))⟩, ⟨Gd.wide2 (Gd.wide (by omega)), Gd.wide2 (Gd.wide (by omega))⟩, ?_⟩
    walk_at "rd"
    refine k_iteN (fun z => absurd z (by omega)) (fun _ => ?_)
    walk_at "rd"
    exact ⟨S3, _, rfl⟩
  rintro σ H3 ⟨S3, u, rfl⟩
  walk_at "rd"
  refine k_rlC (SqL.of (S3 _ _ ha)) ?_
  refine comp_list (xs := xs) fun D nD => ⟨fun i H4 => AccZ K H3 D H4 (((rs.take i).map Rw.t).map dT), AccZ.start (Same.refl _) nD, fun i H4 _ A => SqL.of (A.same _ _ (S3 _ _ ha)), ?_, ?_⟩
  · intro i z H4 hz A
    obtain ⟨r, hr, ⟨o1, o2, op⟩, p, b1, b2, b3, rfl, hp, h1, h2, h3⟩ := at_ (S3.trans A.same) hz
    have li : i < rs.length := (List.getElem?_eq_some_iff.mp hr).1
    walk_at "rd"
    refine k_ixT (SqT.of hp) (v := .ref b1) rfl ?_
    walk_at "rd"
    refine k_tupQ h1 fun t1 H5 S5 e1 => ?_
    walk_at "rd"
    refine k_ixT (SqT.of (S5 _ _ hp)) (v := .ref b2) rfl ?_
    walk_at "rd"
    refine k_tupQ (keep_of S5 h2) fun t2 H6 S6 e2 => ?_
    have S56 := S5.trans S6
    walk_at "rd"
    refine k_ixT (SqT.of (S56 _ _ hp)) (v := .ref b3) rfl ?_
    walk_at "rd"
    refine k_tupT (SqT.of (S56 _ _ h3)) ?_
    walk_at "rd"
    refine ⟨by show 3 ≤ sizeLine; decide, fun pt npt => ?_⟩
    have S7 := same_new npt (.tup [.ref t1, .ref t2, .ref b3])
    have r7 : Rz K (upd H6 pt (.tup [.ref t1, .ref t2, .ref b3])) (.ref pt) (dT r.t) :=
      .tup upd_same (.cons (.tup (S7 _ _ (S6 _ _ e1)) (RpL.ints _)) (.cons (.tup (S7 _ _ e2) (RpL.ints _)) (.cons (.tup (S7 _ _ (S56 _ _ h3)) (RpL.ints [_, _])) .nil)))
    refine pushed (by omega) ((A.on (S56.trans S7)).pushK r7 (small1000 ?_) fun H8 A8 => ?_)
    · rw [List.length_map, List.length_map, List.length_take]
      omega
    · show AccZ K H3 D H8 (((rs.take (i + 1)).map Rw.t).map dT)
      rw [List.take_add_one, hr, List.map_append, List.map_append]
      exact A8
  · intro H4 A
    rw [lx, List.take_of_length_le (Nat.le_refl _)] at A
    obtain ⟨ys, hD, ry⟩ := A.at_
    refine k_tupL (SqL.of hD) fun p np => ?_
    have S5 := same_new np (.tup ys)
    exact k p _ (S3.trans (A.same.trans S5)) (.tup upd_same (ry.same S5))
theorem nodup_len {α : Type} [DecidableEq α] : ∀ {l hs : List α}, l.Nodup → (∀ x ∈ l, x ∈ hs) → l.length ≤ hs.length
  | [], _, _, _ => Nat.zero_le _
  | x :: l, hs, nd, sub => by
    rw [List.nodup_cons] at nd
    have hx := sub x List.mem_cons_self
    have h := nodup_len (l := l) (hs := hs.erase x) nd.2 fun y hy => by
      refine (List.mem_erase_of_ne ?_).mpr (sub y (List.mem_cons_of_mem _ hy))
      rintro rfl
      exact nd.1 hy
    rw [List.length_erase_of_mem hx] at h
    have := List.length_pos_of_mem hx
    rw [List.length_cons]
    omega
theorem insH_nd {hs : List (List Int)} {h : List Int} (nd : hs.Nodup) : (insH hs h).Nodup := by
  unfold insH
  split
  · exact nd
  · rename_i z
    exact nodup_snoc nd z
theorem insH_mem {hs : List (List Int)} {h x : List Int} (m : x ∈ insH hs h) : x ∈ hs ∨ x = h := by
  unfold insH at m
  split at m
  · exact .inl m
  · rcases List.mem_append.mp m with z | z
    · exact .inl z
    · exact .inr (List.mem_singleton.mp z)
theorem hddF_in {ps : List (List Int)} : ∀ (ts : List Tn) (hs : List (List Int)), hs.Nodup → (∀ x ∈ hs, x ∈ ps) → (∀ t ∈ ts, t.fr ∈ ps ∧ t.to ∈ ps) → (hddF hs ts).Nodup ∧ ∀ x ∈ hddF hs ts, x ∈ ps
  | [], hs, nd, sub, _ => ⟨nd, sub⟩
  | t :: ts, hs, nd, sub, ht => by
    have h0 := ht t List.mem_cons_self
    refine hddF_in ts (insH (insH hs t.fr) t.to) (insH_nd (insH_nd nd)) (fun x hx => ?_) fun u hu => ht u (List.mem_cons_of_mem _ hu)
    rcases insH_mem hx with z | z
    · rcases insH_mem z with y | y
      · exact sub x y
      · rw [y]; exact h0.1
    · rw [z]; exact h0.2
def ChkOk (ts : List Tn) : Prop := 1 ≤ ts.length ∧ ts.length ≤ 8 ∧ (ts.map ends2).Nodup ∧ (∀ t ∈ ts, t.fr ≠ t.to) ∧ (hdd ts).length ≤ 8
def dE (t : Tn) : Dat := .tuple [dI t.fr, dI t.to]
theorem kP_ints (ns : List Int) : kqdPs (ns.map Dat.int) = ns.map PyData.int := by
  induction ns with
  | nil => rw [List.map_nil, kqdPs]; rfl
  | cons n ns ih => rw [List.map_cons, kqdPs, ih, kqdP]; rfl
theorem hk_ints (n : Nat) (ns : List Int) : hkPs n (ns.map PyData.int) = true := by
  induction ns with
  | nil => rw [List.map_nil, hkPs]
  | cons m ns ih => rw [List.map_cons, hkPs, ih, hkP]; rfl
theorem good_E (t : Tn) : L2.Good (dE t) := by
  have e : kqdP (dE t) = .tuple [.tuple (t.fr.map PyData.int), .tuple (t.to.map PyData.int)] := by
    unfold dE
    rw [kqdP, kqdPs, kqdPs, kqdPs, kqdP, kqdP, kP_ints, kP_ints]
  refine ⟨?_, ?_, _, e⟩
  · show ((dI t.fr :: [dI t.to]).all (kqdOk 7)) = true
    rw [List.all_cons, List.all_cons, List.all_nil, ok_dI t.fr 6, ok_dI t.to 6]
    rfl
  · rw [e, hkP, hkPs, hkPs, hkPs, hkP, hkP, hk_ints, hk_ints]
    rfl
theorem nd_E {ts : List Tn} (h : (ts.map ends2).Nodup) : (ts.map dE).Nodup := by
  induction ts with
  | nil => exact List.nodup_nil
  | cons t ts ih =>
    rw [List.map_cons, List.nodup_cons] at h
    rw [List.map_cons, List.nodup_cons]
    refine ⟨fun z => h.1 ?_, ih h.2⟩
    obtain ⟨u, hu, e⟩ := List.mem_map.mp z
    have e' := Dat.tuple.inj e
    have e1 := dI_inj (List.cons.inj e').1
    have e2 := dI_inj (List.cons.inj (List.cons.inj e').2).1
    refine List.mem_map.mpr ⟨u, hu, ?_⟩
    unfold ends2
    rw [e1, e2]
def spCheck (K : PySem.W.Frag) : Sp := fun vs H Q _ => ∃ (v : V) (ts : List Tn), vs = [v] ∧ Rz K H v (.tuple (ts.map dT)) ∧ ChkOk ts ∧ ∀ H', Same H H' → Q .non H'
theorem len_check {K : PySem.W.Frag} {vs : List V} {H : Hp} {Q : VK} {E : XK} {x : Str} (h : spCheck K vs H Q E) : vs.length = [x].length := by
  obtain ⟨_, _, rfl, _⟩ := h
  rfl
def t_check (K : PySem.W.Frag) : TS := (tSeq (tIfS (tNot (tTest (tChain rLe rLe (tC (.int 1)) (tCB (rLenQ K) (tCons (tVar 0) tNil)) (tC (.int 8)))))
  tNever
  tNext)
  (tSeq (tIfS (tB (tCB (rAny K) (tCons (tComp (iTup K (tVar 0)) (tOp (rEqD K) (tOp (rIxT K) (tVar 0) (tC (.int 0))) (tOp (rIxT K) (tVar 0) (tC (.int 1))))) tNil)))
  tNever
  tNext)
  (tSeq (tIfS (tTest (tOp rLt (tLenSet (rSetD K) (tComp (iTup K (tVar 0)) (tSl (rSlT K) (tVar 0) tNoPart (tPart (tC (.int 2)))))) (tCB (rLenQ K) (tCons (tVar 0) tNil))))
  tNever
  tNext)
  (tIfS (tTest (tOp rGt (tCB (rLenQ K) (tCons (tCall (spHeapsOf K) [] E0 (tCons (tVar 0) tNil)) tNil)) (tC (.int 8))))
  tNever
  tNext))))
theorem rd_check {K : PySem.W.Frag} {vs : List V} {H : Hp} {Q : VK} {E : XK} {N : List Str} (hN : N.length = 1) (h : spCheck K vs H Q E) : t_check K (ends Q) (L2.start N vs) H := by
  obtain ⟨v, ts, rfl, rv, ⟨t1, t8, nd, ne, h8⟩, k⟩ := h
  obtain ⟨a, xs, rfl, ha, rx⟩ := rv.tup_at
  have lx : xs.length = ts.length := by rw [rx.length, List.length_map]
  rw [show L2.start N [.ref a] = [some (.ref a)] by unfold L2.start; rw [hN]; rfl]
  unfold t_check
  walk_at "rd"
  refine k_lenT (SqT.of ha) ?_
  walk_at "rd"
  refine k_ite (fun _ => ?_) (fun z => absurd t1 (by omega))
  walk_at "rd"
  refine k_iteN (fun z => absurd t8 (by omega)) (fun _ => ?_)
  walk_at "rd"
  refine k_rtC (SqT.of ha) ?_
  refine comp_tup (xs := xs) fun D nD => ⟨fun j H3 => AccZ K H D H3 ((List.replicate j false).map Dat.bool), AccZ.start (Same.refl _) nD, fun i H2 _ A => SqT.of (A.same _ _ ha), ?_, ?_⟩
  · intro i z H2 hz A
    obtain ⟨dd, g1, g2⟩ := rx.get hz
    rw [List.getElem?_map] at g1
    obtain ⟨t, ht, rfl⟩ := Option.map_eq_some_iff.mp g1
    have li : i < ts.length := (List.getElem?_eq_some_iff.mp ht).1
    obtain ⟨b, v1, v2, v3, rfl, hb, r1, r2, _⟩ := dT_at (g2.same A.same)
    walk_at "rd"
    refine k_ixT (SqT.of hb) (v := v1) rfl ?_
    walk_at "rd"
    refine k_ixT (SqT.of hb) (v := v2) rfl ?_
    refine k_eqD r1.rep r2.rep (ok_dI _ 7) (ok_dI _ 7) (fun z => absurd (dI_inj z) (ne t (List.mem_of_getElem? ht))) (fun _ => ?_)
    exact comp_bls (H0 := H) (by omega) (by omega) (fun _ _ => Iff.rfl) A (Same.refl _)
  intro H2 A
  walk_at "rd"
  refine k_any (AccZ.bls A) ?_
  rw [any_rep]
  have ha2 := A.same _ _ ha
  have rx2 := rx.same A.same
  walk_at "rd"
  refine k_lenset ?_
  walk_at "rd"
  refine k_rtC (SqT.of ha2) ?_
  refine comp_tup (xs := xs) fun D' nD' => ⟨fun j H3 => AccZ K H2 D' H3 ((ts.take j).map dE), AccZ.start (Same.refl _) nD', fun i H3 _ B => SqT.of (B.same _ _ ha2), ?_, ?_⟩
  · intro i z H3 hz B
    obtain ⟨dd, g1, g2⟩ := rx2.get hz
    rw [List.getElem?_map] at g1
    obtain ⟨t, ht, rfl⟩ := Option.map_eq_some_iff.mp g1
    have li : i < ts.length := (List.getElem?_eq_some_iff.mp ht).1
    obtain ⟨b, v1, v2, v3, rfl, hb, r1, r2, _⟩ := dT_at (g2.same B.same)
    walk_at "rd"
    refine k_slT (SqT.of hb) (by show ¬ (HT.sIx 3 0 none = 0 ∧ HT.sIx 3 3 (some 2) = 3); decide) fun p np => ?_
    have S4 := same_new np (.tup (cutV [v1, v2, v3] none (some 2)))
    have r4 : Rz K (upd H3 p (.tup (cutV [v1, v2, v3] none (some 2)))) (.ref p) (dE t) := .tup (xs := [v1, v2]) upd_same (.cons (r1.same S4) (.cons (r2.same S4) .nil))
    refine pushed (by omega) ((B.on S4).pushK r4 (small1000 ?_) fun H5 B5 => ?_)
    · rw [List.length_map, List.length_take]
      omega
    · show AccZ K H2 D' H5 ((ts.take (i + 1)).map dE)
      rw [List.take_add_one, ht, List.map_append]
      exact B5
  intro H3 B
  rw [lx, List.take_of_length_le (Nat.le_refl _)] at B
  obtain ⟨ys, hD, ry⟩ := B.at_
  refine ⟨.L, D', ys, ts.map dE, rfl, SqL.of hD, ry.rep, ?_, by rw [List.length_map]; omega, ?_⟩
  · intro d hd
    obtain ⟨t, _, rfl⟩ := List.mem_map.mp hd
    exact good_E t
  have hc : cnt (ts.map dE) = ts.length := by rw [(cnt_nodup _).mpr (nd_E nd), List.length_map]
  rw [hc]
  refine ⟨by omega, ?_⟩
  have S03 := A.same.trans B.same
  walk_at "rd"
  refine k_lenT (SqT.of (S03 _ _ ha)) ?_
  rw [lx]
  walk_at "rd"
  refine k_ite (fun z => absurd z (by omega)) (fun _ => ?_)
  walk_at "rd"
  refine ⟨.ref a, ts, rfl, rv.same S03, by omega, fun p H4 C => ?_⟩
  obtain ⟨zs, hp, lz, _⟩ := C.sq
  rw [List.length_map] at lz
  walk_at "rd"
  refine k_lenL hp ?_
  walk_at "rd"
  refine k_ite (fun z => absurd z (by omega)) (fun _ => ?_)
  walk_at "rd"
  exact k H4 (S03.trans C.same)
theorem ves_chk {ws : List Str} {ts : List Tn} (h : VesOk ws ts) : ChkOk ts := by
  obtain ⟨hs, po, h8, tk⟩ := h.turns
  refine ⟨?_, tk.le, tk.nd, fun t ht => (tk.ok t ht).2.2.1, ?_⟩
  · have := List.length_pos_iff.mpr tk.ne
    omega
  · obtain ⟨n1, n2⟩ := hddF_in (ps := hs) ts [] List.nodup_nil (by simp) fun t ht => ⟨(tk.ok t ht).1, (tk.ok t ht).2.1⟩
    exact Nat.le_trans (nodup_len n1 n2) h8
theorem ves_rw {ws : List Str} {rs : List Rw} (h : VesOk ws (rs.map Rw.t)) : ∀ r ∈ rs, RwOk ws.length r := by
  obtain ⟨hs, po, _, tk⟩ := h.turns
  intro r hr
  obtain ⟨f, g, _, p⟩ := tk.ok r.t (List.mem_map.mpr ⟨r, hr, rfl⟩)
  exact ⟨po.2 _ f, po.2 _ g, p⟩
def spMade (K : PySem.W.Frag) : Sp := fun vs H Q _ => ∃ (a b : Addr) (S : Addr → Prop) (ws : List Str) (rs : List Rw), vs = [.ref a, .ref b] ∧ (SqL K H a (ws.map V.str) ∨ H a = some (.tup (ws.map V.str))) ∧ Rp K S H (.ref b) (.list (rs.map dR)) ∧ VesOk ws (rs.map Rw.t) ∧
  ∀ (p : Addr) (H' : Hp), Same H H' → Rz K H' (.ref p) (dV ws (rs.map Rw.t)) → Q (.ref p) H'
theorem len_made {K : PySem.W.Frag} {vs : List V} {H : Hp} {Q : VK} {E : XK} {x y : Str} (h : spMade K vs H Q E) : vs.length = [x, y].length := by
  obtain ⟨_, _, _, _, _, rfl, _⟩ := h
  rfl
def t_made (K : PySem.W.Frag) : TS := (tSeq (tAsg (tCall (spStuffs K) [] E0 (tCons (tVar 0) tNil)) (gName 2))
  (tSeq (tAsg (tCall (spTurnings K) [] E0 (tCons (tVar 1) (tCons (tCB (rLenQ K) (tCons (tVar 2) tNil)) tNil))) (gName 3))
  (tSeq (tDrop (tCall (spCheck K) [] E0 (tCons (tVar 3) tNil)))
  (tRet (tTup (tCons (tVar 2) (tCons (tVar 3) tNil)))))))
theorem rd_made {K : PySem.W.Frag} {vs : List V} {H : Hp} {Q : VK} {E : XK} {N : List Str} (hN : N.length = 4) (h : spMade K vs H Q E) : t_made K (ends Q) (L2.start N vs) H := by
  obtain ⟨a, b, S, ws, rs, rfl, ha, rb, vo, k⟩ := h
  rw [show L2.start N [.ref a, .ref b] = [some (.ref a), some (.ref b), none, none] by unfold L2.start; rw [hN]; rfl]
  have w1 := vo.w1
  have w5 := vo.w5
  have ck := ves_chk vo
  have l8 : rs.length ≤ 8 := by have := ck.2.1; rw [List.length_map] at this; exact this
  unfold t_made
  walk_at "rd"
  refine ⟨a, ws, rfl, ha, vo.words, w1, w5, fun p H1 S1 hp => ?_⟩
  walk_at "rd"
  refine k_lenT (SqT.of hp) ?_
  rw [List.length_map]
  walk_at "rd"
  refine ⟨b, S, rs, (ws.length : Int), rfl, rb.same S1, (by rw [Int.toNat_natCast]; exact ves_rw vo), by omega, by omega, l8, fun q H2 S2 rq => ?_⟩
  walk_at "rd"
  refine ⟨.ref q, rs.map Rw.t, rfl, rq, ck, fun H3 S3 => ?_⟩
  walk_at "rd"
  refine ⟨by show 2 ≤ sizeLine; decide, fun r nr => ?_⟩
  have S4 := same_new nr (.tup [.ref p, .ref q])
  exact k r _ (S1.trans (S2.trans (S3.trans S4))) (.tup upd_same (.cons (.tup (S4 _ _ (S3 _ _ (S2 _ _ hp))) (RpL.strs _)) (.cons ((rq.same S3).same S4) .nil)))
end Md
namespace Tr2
open PySem L2 Fr G1 Sm Vs Tw Tp2 Md Tr
open PySem.W (Dat kqdOk)
open PySem.Builtin.Str (strSub)
def Lt (s : Str) : Prop := ∀ c ∈ cl s, 97 ≤ c ∧ c ≤ 122
def Hs (s : Str) : Prop := ∀ c ∈ cl s, (97 ≤ c ∧ c ≤ 122) ∨ c = 48 ∨ c = 50 ∨ c = 51 ∨ c = 32 ∨ c = 43
def Ps (s : Str) : Prop := ∀ c ∈ cl s, (97 ≤ c ∧ c ≤ 122) ∨ c = 48 ∨ c = 50 ∨ c = 51 ∨ c = 32
theorem Ps.app {a b : Str} (h1 : Ps a) (h2 : Ps b) : Ps (a ++ b) := fun c hc => by
  rw [cl_app] at hc
  rcases List.mem_append.mp hc with h | h
  · exact h1 c h
  · exact h2 c h
theorem Hs.app {a b : Str} (h1 : Hs a) (h2 : Hs b) : Hs (a ++ b) := fun c hc => by
  rw [cl_app] at hc
  rcases List.mem_append.mp hc with h | h
  · exact h1 c h
  · exact h2 c h
theorem Ps.hs {s : Str} (h : Ps s) : Hs s := fun c hc => by have := h c hc; omega
theorem Lt.ps {s : Str} (h : Lt s) : Ps s := fun c hc => .inl (h c hc)
theorem hs_join : ∀ {ps : List Str}, (∀ p ∈ ps, Ps p) → Hs (Str.join pls ps)
  | [], _ => fun c hc => by rw [show cl (Str.join pls []) = [] by decide +kernel] at hc; cases hc
  | [p], h => (h p List.mem_cons_self).hs
  | p :: q :: r, h => by
    rw [join2]
    refine ((h p List.mem_cons_self).hs.app ?_).app (hs_join fun x hx => h x (List.mem_cons_of_mem _ hx))
    intro c hc
    rw [pls_cl] at hc
    simp only [List.mem_cons, List.not_mem_nil, or_false] at hc
    omega
theorem txt_join (l : List Str) : Txt.join " + " l = Str.join pls l := by first | exact StrLaws.glued_eq_join _ _ | exact Str.glued_eq_join _ _
theorem ps_stuff {w : Str} {n : Int} (hw : Lt w) (h0 : 0 < n) (h3 : n ≤ 3) : Ps (stuffT w n) := by
  have d2 : Ps ("2 " : Str) := fun c hc => by
    rw [show cl ("2 " : Str) = [50, 32] by decide +kernel] at hc
    simp only [List.mem_cons, List.not_mem_nil, or_false] at hc; omega
  have d3 : Ps ("3 " : Str) := fun c hc => by
    rw [show cl ("3 " : Str) = [51, 32] by decide +kernel] at hc
    simp only [List.mem_cons, List.not_mem_nil, or_false] at hc; omega
  rcases three h0 h3 with rfl | rfl | rfl
  · rw [stuff1]; exact hw.ps
  · rw [stuff2]; exact d2.app hw.ps
  · rw [stuff3]; exact d3.app hw.ps
theorem hs_heap {ws : List Str} {h : List Int} (ow : ∀ w ∈ ws, Lt w) (oh : ∀ x ∈ h, 0 ≤ x ∧ x ≤ 3) : Hs (heapT ws h) := by
  unfold heapT
  split
  · intro c hc
    rw [show cl ("0" : Str) = [48] by decide +kernel] at hc
    simp only [List.mem_cons, List.not_mem_nil, or_false] at hc; omega
  · rw [txt_join]
    refine hs_join fun p hp => ?_
    obtain ⟨q, hq, e⟩ := List.mem_filterMap.mp hp
    obtain ⟨m1, m2⟩ := List.of_mem_zip (a := q.1) (b := q.2) hq
    by_cases z : 0 < q.2
    · rw [if_pos z] at e
      cases Option.some.inj e
      exact ps_stuff (ow _ m1) z (oh _ m2).2
    · rw [if_neg z] at e; cases e
abbrev Key := Int ⊕ Str
abbrev Pt := Str × Str × Int
def kvOf (L : List Pt) : List (Key × V) := L.foldl (fun kv t => putK kv (.inr t.2.1) (.int t.2.2)) []
theorem kvOf_snoc (L : List Pt) (t : Pt) : kvOf (L ++ [t]) = putK (kvOf L) (.inr t.2.1) (.int t.2.2) := by unfold kvOf; rw [List.foldl_append]; rfl
theorem kv_take {L : List Pt} {i : Nat} {t : Pt} (e : L[i]? = some t) : kvOf (L.take (i + 1)) = putK (kvOf (L.take i)) (.inr t.2.1) (.int t.2.2) := by
  rw [List.take_add_one, e]; exact kvOf_snoc _ _
theorem put_len {kv : List (Key × V)} {k : Key} {v : V} : (putK kv k v).length ≤ kv.length + 1 := by
  unfold putK
  split
  · rw [List.length_map]; omega
  · rw [List.length_append]; exact Nat.le_refl _
theorem kv_len (L : List Pt) : ∀ i, (kvOf (L.take i)).length ≤ i
  | 0 => Nat.le_refl _
  | i + 1 => by
    cases e : L[i]? with
    | none => rw [List.take_add_one, e, show (none : Option Pt).toList = [] from rfl, List.append_nil]; have := kv_len L i; omega
    | some t => rw [kv_take e]; have := kv_len L i; have := put_len (kv := kvOf (L.take i)) (k := .inr t.2.1) (v := .int t.2.2); omega
theorem kv_none {w : Str} : ∀ {L : List Pt}, (∀ t ∈ L, t.2.1 ≠ w) → ∀ kv : List (Key × V), valV kv (.inr w) = none → valV (L.foldl (fun kv t => putK kv (.inr t.2.1) (.int t.2.2)) kv) (.inr w) = none
  | [], _, kv, h => h
  | t :: L, ne, kv, h => by
    refine kv_none (fun x hx => ne x (List.mem_cons_of_mem _ hx)) _ ?_
    rw [valV_put, if_neg (fun z => ne t List.mem_cons_self (Sum.inr.inj z).symm)]
    exact h
theorem kv_keep {w : Str} {v : V} : ∀ {L : List Pt}, (∀ t ∈ L, t.2.1 ≠ w) → ∀ kv : List (Key × V), valV kv (.inr w) = some v → valV (L.foldl (fun kv t => putK kv (.inr t.2.1) (.int t.2.2)) kv) (.inr w) = some v
  | [], _, kv, h => h
  | t :: L, ne, kv, h => by
    refine kv_keep (fun x hx => ne x (List.mem_cons_of_mem _ hx)) _ ?_
    rw [valV_put, if_neg (fun z => ne t List.mem_cons_self (Sum.inr.inj z).symm)]
    exact h
theorem kv_some {w : Str} {n : Int} {p : Str} : ∀ {L : List Pt}, (L.map (·.2.1)).Nodup → (p, w, n) ∈ L → ∀ kv : List (Key × V), valV (L.foldl (fun kv t => putK kv (.inr t.2.1) (.int t.2.2)) kv) (.inr w) = some (.int n)
  | t :: L, nd, m, kv => by
    rw [List.map_cons, List.nodup_cons] at nd
    rcases List.mem_cons.mp m with rfl | m
    · refine kv_keep (fun x hx z => nd.1 (List.mem_map.mpr ⟨x, hx, z⟩)) _ ?_
      rw [valV_put, if_pos rfl]
    · exact kv_some nd.2 m _
def pz (ws : List Str) (h : List Int) : List (Str × Int) := (ws.zip h).filter fun p => decide (0 < p.2)
theorem parts_pz (ws : List Str) (h : List Int) : partsT ws h = (pz ws h).map fun p => stuffT p.1 p.2 := by
  unfold partsT pz
  induction ws.zip h with
  | nil => rfl
  | cons q r ih =>
    rw [List.filterMap_cons, List.filter_cons]
    by_cases z : 0 < q.2
    · rw [if_pos z, if_pos (decide_eq_true z), List.map_cons, ih]
    · rw [if_neg z, if_neg (by simpa using z), ih]
def partsL (ws : List Str) (h : List Int) : List Pt := if partsT ws h = [] then [("0", "0", 1)] else (pz ws h).map fun p => (stuffT p.1 p.2, p.1, p.2)
theorem nd_keys : ∀ {ws : List Str} {h : List Int}, ws.Nodup → ((pz ws h).map (·.1)).Nodup := by
  intro ws
  induction ws with
  | nil => intro h _; exact List.nodup_nil
  | cons w ws ih =>
    intro h nd
    rw [List.nodup_cons] at nd
    cases h with
    | nil => exact List.nodup_nil
    | cons n h =>
      show (((w, n) :: ws.zip h).filter _ |>.map _).Nodup
      rw [List.filter_cons]
      split
      · rw [List.map_cons, List.nodup_cons]
        refine ⟨fun z => ?_, ih nd.2⟩
        obtain ⟨q, hq, e⟩ := List.mem_map.mp z
        have m := (List.mem_filter.mp hq).1
        obtain ⟨m1, _⟩ := List.of_mem_zip (a := q.1) (b := q.2) m
        exact nd.1 (by rw [← show q.1 = w from e]; exact m1)
      · exact ih nd.2
theorem kv_heap {ws : List Str} {h : List Int} (nd : ws.Nodup) (ow : ∀ w ∈ ws, Lt w) (oh : ∀ x ∈ h, 0 ≤ x) {i : Nat} {w : Str} {n : Int} (ew : ws[i]? = some w) (en : h[i]? = some n) : (valV (kvOf (partsL ws h)) (.inr w)).getD (.int 0) = .int n := by
  have mz : (w, n) ∈ ws.zip h := List.mem_of_getElem? (i := i) (by rw [List.getElem?_zip_eq_some]; exact ⟨ew, en⟩)
  have keyAt : ∀ q ∈ ws.zip h, q.1 = w → q.2 = n := by
    intro q hq e
    obtain ⟨j, hj⟩ := List.getElem?_of_mem hq
    obtain ⟨j1, j2⟩ := List.getElem?_zip_eq_some.mp hj
    have : i = j := nodup_ix nd ew (by rw [← e]; exact j1)
    subst this
    rw [en] at j2
    exact (Option.some.inj j2).symm
  by_cases z : 0 < n
  · have m : (w, n) ∈ pz ws h := List.mem_filter.mpr ⟨mz, decide_eq_true z⟩
    have ne : partsT ws h ≠ [] := by rw [parts_pz]; intro e; rw [List.map_eq_nil_iff.mp e] at m; cases m
    have := kv_some (w := w) (n := n) (p := stuffT w n) (L := partsL ws h) (by
      unfold partsL; rw [if_neg ne, List.map_map]; exact nd_keys nd) (by
      unfold partsL; rw [if_neg ne]; exact List.mem_map.mpr ⟨_, m, rfl⟩) []
    unfold kvOf
    rw [this]; rfl
  · have n0 : n = 0 := by have := oh n (List.mem_of_getElem? en); omega
    subst n0
    have := kv_none (w := w) (L := partsL ws h) (by
      intro t ht e
      unfold partsL at ht
      split at ht
      · rw [List.mem_singleton.mp ht] at e
        have hz := ow w (List.mem_of_getElem? ew) 48 (by rw [← e]; rw [show cl (("0", ("0" : Str), (1 : Int)) : Pt).2.1 = [48] by decide +kernel]; exact List.mem_cons_self)
        omega
      · obtain ⟨q, hq, rfl⟩ := List.mem_map.mp ht
        obtain ⟨mq, pq⟩ := List.mem_filter.mp hq
        have := keyAt q mq e
        have := of_decide_eq_true pq
        omega) [] rfl
    unfold kvOf
    rw [this]; rfl
def kvPW : List (Key × V) := [(.inr "", .int 1), (.inr "2", .int 2), (.inr "3", .int 3)]
inductive CutP : Str → Str → Int → Prop
  | one {w : Str} : 32 ∉ cl w → CutP w w 1
  | two {w : Str} : 32 ∉ cl w → CutP (("2" : Str) ++ " " ++ w) w 2
  | three {w : Str} : 32 ∉ cl w → CutP (("3" : Str) ++ " " ++ w) w 3
theorem lt_no {w : Str} (h : Lt w) : 32 ∉ cl w := fun z => by have := h 32 z; omega
theorem cut_parts {ws : List Str} {h : List Int} (ow : ∀ w ∈ ws, Lt w ∧ w.length ≤ 8) (oh : ∀ x ∈ h, 0 ≤ x ∧ x ≤ 3) : ∀ t ∈ partsL ws h, CutP t.1 t.2.1 t.2.2 ∧ t.1.length ≤ 10 ∧ 43 ∉ cl t.1 := by
  intro t ht
  unfold partsL at ht
  split at ht
  · rw [List.mem_singleton.mp ht]
    exact ⟨.one (by decide +kernel), by decide +kernel, by decide +kernel⟩
  · obtain ⟨q, hq, rfl⟩ := List.mem_map.mp ht
    obtain ⟨mq, pq⟩ := List.mem_filter.mp hq
    obtain ⟨m1, m2⟩ := List.of_mem_zip (a := q.1) (b := q.2) mq
    obtain ⟨lw, l8⟩ := ow _ m1
    have q0 := of_decide_eq_true pq
    have q3 := (oh _ m2).2
    have p43 : 43 ∉ cl (stuffT q.1 q.2) := fun z => by have := ps_stuff lw q0 q3 43 z; omega
    refine ⟨?_, stuffT_len l8 q0 q3, p43⟩
    show CutP (stuffT q.1 q.2) q.1 q.2
    rcases three q0 q3 with e | e | e
    · rw [e, stuff1]; exact .one (lt_no lw)
    · rw [e, stuff2, show ("2 " : Str) = ("2" : Str) ++ " " by decide +kernel]; exact .two (lt_no lw)
    · rw [e, stuff3, show ("3 " : Str) = ("3" : Str) ++ " " by decide +kernel]; exact .three (lt_no lw)
theorem heap_join {ws : List Str} {h : List Int} : heapT ws h = Str.join pls ((partsL ws h).map (·.1)) := by
  unfold heapT partsL
  split
  · rfl
  · rw [txt_join, parts_pz, List.map_map]; rfl
theorem partsL_ne {ws : List Str} {h : List Int} : partsL ws h ≠ [] := by
  unfold partsL
  split
  · simp
  · rename_i z
    intro e
    rw [parts_pz] at z
    exact z (by rw [List.map_eq_nil_iff.mp e]; rfl)
theorem partsL_len {ws : List Str} {h : List Int} (l5 : ws.length ≤ 5) : (partsL ws h).length ≤ 5 := by
  unfold partsL
  split
  · show 1 ≤ 5; decide
  · rw [List.length_map]
    refine Nat.le_trans (List.length_filter_le _ _) ?_
    rw [List.length_zip]; omega
theorem hs_ascii {s : Str} (h : Hs s) : s.cps.all (· < 128) = true := by
  rw [Array.all_eq_true_iff_forall_mem]
  intro c hc
  have := h c (by simpa using hc)
  exact decide_eq_true (by omega)
def WdOk (ws : List Str) : Prop := ws.Nodup ∧ ws.length ≤ 5 ∧ ∀ w ∈ ws, Lt w ∧ w.length ≤ 8
theorem WdOk.lt {ws : List Str} (h : WdOk ws) : ∀ w ∈ ws, Lt w := fun w hw => (h.2.2 w hw).1
theorem WdOk.ok {ws : List Str} (h : WdOk ws) : WsOk ws := ⟨h.2.1, fun w hw => ⟨(h.2.2 w hw).2, by
  unfold PyData.strOk
  rw [Array.all_eq_true_iff_forall_mem]
  intro c hc
  have := (h.2.2 w hw).1 c (by simpa using hc)
  exact decide_eq_true (by omega)⟩⟩
def spHeapG (K : PySem.W.Frag) : Sp := fun vs H Q _ => ∃ (v : V) (ws : List Str) (h : List Int), vs = [v, .str (heapT ws h)] ∧ Rz K H v (.tuple (ws.map Dat.str)) ∧ WdOk ws ∧ HeapOk ws.length h ∧ ∀ (p : Addr) (H' : Hp), Same H H' → Rz K H' (.ref p) (dI h) → Q (.ref p) H'
theorem len_heapG {K : PySem.W.Frag} {vs : List V} {H : Hp} {Q : VK} {E : XK} {x y : Str} (h : spHeapG K vs H Q E) : vs.length = [x, y].length := by
  obtain ⟨_, _, _, rfl, _⟩ := h
  rfl
def But (d : Addr) (H H' : Hp) : Prop := ∀ b o, b ≠ d → H b = some o → H' b = some o
theorem k_neS {H : Hp} {Q : VK} {i j : Str} (h : Q (.bl (!decide (i = j))) H) : rNe (.str i) (.str j) H Q := ⟨rfl, by
  by_cases e : i = j
  · subst e; simpa using h
  · simpa [e] using h⟩
theorem pw1 : valV kvPW (.inr "") = some (.int 1) := by rfl
theorem pw2 : valV kvPW (.inr "2") = some (.int 2) := by rfl
theorem pw3 : valV kvPW (.inr "3") = some (.int 3) := by rfl
theorem bl_cl : (cl (" " : Str))[0]? = some 32 := by decide +kernel
theorem rp_part {K : PySem.W.Frag} {H : Hp} {Q : VK} {s w : Str} {n : Int} (c : CutP s w n) (l : s.length ≤ 10) (k : ∀ p u, H p = none → valV kvPW (.inr u) = some (.int n) → ∀ m, Q (.ref p) (upd H p (.tup [.str u, m, .str w]))) : rRPart (.str s) [.str " "] H Q := by
  have hs : s.length ≤ sizeLine := by have : (10 : Nat) ≤ sizeLine := by decide
                                      omega
  refine ⟨s, " ", rfl, rfl, by decide +kernel, hs, ?_⟩
  cases c with
  | one h => exact .inr ⟨none1 bl_cl h, fun p np => k p "" np pw1 _⟩
  | two h =>
    refine .inl ⟨("2" : Str).length, occ_mid _ _ _, last1 bl_cl (by decide +kernel) h, fun p np => ?_⟩
    rw [sub_first, sub_last]
    exact k p "2" np pw2 _
  | three h =>
    refine .inl ⟨("3" : Str).length, occ_mid _ _ _, last1 bl_cl (by decide +kernel) h, fun p np => ?_⟩
    rw [sub_first, sub_last]
    exact k p "3" np pw3 _
def t_heapG (K : PySem.W.Frag) : TS := (tSeq (tAsg tDNewK (gName 2))
  (tSeq (tFor (iList K (tBM K "str" rSplit (tVar 1) (tCons (tC (.str " + ")) tNil))) (gName 3)
  (tSeq (tAsg (tBM K "str" rRPart (tVar 3) (tCons (tC (.str " ")) tNil)) (gName 4))
  (sDPut (tVar 2) (tOp (rIxT K) (tVar 4) (tC (.int 2))) (tKGet kvPW (tOp (rIxT K) (tVar 4) (tC (.int 0))) (tC (.int 0))))))
  (tRet (tCB (rTupOf K) (tCons (tComp (iTup K (tVar 0)) (tDGet2 (tVar 3) (tVar 0) (tC (.int 0)))) tNil)))))
theorem rd_heapG {K : PySem.W.Frag} {vs : List V} {H : Hp} {Q : VK} {E : XK} {N : List Str} (hN : N.length = 5) (h : spHeapG K vs H Q E) : t_heapG K (ends Q) (L2.start N vs) H := by
  obtain ⟨v, ws, h, rfl, rv, ow, oh, k⟩ := h
  obtain ⟨a, rfl, ha⟩ := dS_at rv
  rw [show L2.start N [.ref a, .str (heapT ws h)] = [some (.ref a), some (.str (heapT ws h)), none, none, none] by unfold L2.start; rw [hN]; rfl]
  have o3 : ∀ x ∈ h, 0 ≤ x ∧ x ≤ 3 := oh.2
  have cp := cut_parts ow.2.2 o3
  have hj := heap_join (ws := ws) (h := h)
  have p43 : ∀ p ∈ (partsL ws h).map (·.1), 43 ∉ cl p := fun p hp => by
    obtain ⟨t, ht, rfl⟩ := List.mem_map.mp hp
    exact (cp t ht).2.2
  have lH := heapT_len ow.ok o3
  have asc := hs_ascii (hs_heap ow.lt o3)
  have l5 := partsL_len (h := h) ow.2.1
  have neL := partsL_ne (ws := ws) (h := h)
  have kvw : ∀ i w, ws[i]? = some w → ∃ n, h[i]? = some n ∧ (valV (kvOf (partsL ws h)) (.inr w)).getD (.int 0) = .int n := fun i w ew => by
    have li : i < h.length := by rw [oh.1]; exact (List.getElem?_eq_some_iff.mp ew).1
    exact ⟨_, List.getElem?_eq_getElem li, kv_heap ow.1 ow.lt (fun x hx => (o3 x hx).1) ew (List.getElem?_eq_getElem li)⟩
  generalize partsL ws h = L at cp hj p43 l5 neL kvw
  rw [hj] at lH asc ⊢
  unfold t_heapG
  walk_at "rd"
  intro d nd
  have Sd := same_new nd (.dK [])
  have hd0 : upd H d (.dK []) d = some (.dK (kvOf (L.take 0))) := upd_same
  generalize upd H d (.dK []) = H1 at Sd hd0 ⊢
  walk_at "rd"
  refine ⟨rfl, ?_⟩
  walk_at "rd"
  refine ⟨_, pls, rfl, rfl, by decide +kernel, by omega, apart_join p43, asc, by decide +kernel, fun l nl => ?_⟩
  rw [split_join p43 (by intro e; exact neL (List.map_eq_nil_iff.mp e))]
  have hl : upd H1 l (.lst ((L.map (·.1)).map V.str)) l = some (.lst ((L.map (·.1)).map V.str)) := upd_same
  have S2 := Sd.trans (same_new nl (.lst ((L.map (·.1)).map V.str)))
  have hd2 : upd H1 l (.lst ((L.map (·.1)).map V.str)) d = some (.dK (kvOf (L.take 0))) := (same_new nl _) _ _ hd0
  have nld : l ≠ d := fun z => by rw [z, hd0] at nl; cases nl
  generalize upd H1 l (.lst ((L.map (·.1)).map V.str)) = H2 at hl S2 hd2 ⊢
  refine k_rlF (SqL.of hl) ?_
  refine fat_list (xs := (L.map (·.1)).map V.str) (fun i σ H3 => ∃ u3 u4 : Option V, σ = [some (.ref a), some (.str (Str.join pls (L.map (·.1)))), some (.ref d), u3, u4] ∧ But d H2 H3 ∧ H3 d = some (.dK (kvOf (L.take i)))) ⟨none, none, rfl, fun _ _ _ z => z, hd2⟩ (fun i σ H3 _ ⟨_, _, _, B, _⟩ => SqL.of (B _ _ nld hl)) ?_ ?_
  · rintro i y σ H3 e1 ⟨u3, u4, rfl, B3, hd3⟩
    rw [List.getElem?_map, List.getElem?_map] at e1
    obtain ⟨z, e2, rfl⟩ := Option.map_eq_some_iff.mp e1
    obtain ⟨t, et, rfl⟩ := Option.map_eq_some_iff.mp e2
    obtain ⟨c1, c2, _⟩ := cp t (List.mem_of_getElem? et)
    have li := (List.getElem?_eq_some_iff.mp et).1
    walk_at "rd"
    refine ⟨rfl, ?_⟩
    walk_at "rd"
    refine rp_part (K := K) c1 c2 fun p u np pu m => ?_
    have hp : upd H3 p (.tup [.str u, m, .str t.2.1]) p = some (.tup [.str u, m, .str t.2.1]) := upd_same
    have B4 : But d H2 (upd H3 p (.tup [.str u, m, .str t.2.1])) := fun b o nb q => (same_new np _) _ _ (B3 b o nb q)
    have hd4 : upd H3 p (.tup [.str u, m, .str t.2.1]) d = some (.dK (kvOf (L.take i))) := (same_new np _) _ _ hd3
    generalize upd H3 p (.tup [.str u, m, .str t.2.1]) = H4 at hp B4 hd4 ⊢
    walk_at "rd"
    unfold tKGet
    walk_at "rd"
    refine k_ixT (SqT.of hp) (v := .str u) rfl ?_
    walk_at "rd"
    refine ⟨.inr u, rfl, ?_⟩
    rw [pu]
    walk_at "rd"
    refine k_ixT (SqT.of hp) (v := .str t.2.1) rfl ?_
    refine ⟨d, _, rfl, DPut.k (k := .inr t.2.1) hd4 ?_, ?_⟩
    · exact small1000 (by have := kv_len L i; omega)
    · exact ⟨_, _, rfl, fun b o nb q => by rw [upd_ne nb]; exact B4 b o nb q, by rw [upd_same, kv_take et]; rfl⟩
  · rintro σ H3 ⟨u3, u4, rfl, B3, hd3⟩
    rw [List.length_map, List.length_map, List.take_of_length_le (Nat.le_refl _)] at hd3
    have ha3 : H3 a = some (.tup (ws.map V.str)) := B3 _ _ (ne_of_none ha nd) (S2 _ _ ha)
    have S3 : Same H H3 := fun b o q => B3 b o (ne_of_none q nd) (S2 b o q)
    walk_at "rd"
    refine ⟨a, rfl, ⟨_, SqT.of ha3⟩, ?_⟩
    refine comp_tup (xs := ws.map V.str) fun D nD => ⟨fun i H4 => AccZ K H3 D H4 ((h.take i).map Dat.int), by simpa using AccZ.start (Same.refl _) nD, fun i H4 _ A => SqT.of (A.same _ _ ha3), ?_, ?_⟩
    · intro i y H4 e1 A
      have hi : i < (ws.map V.str).length := (List.getElem?_eq_some_iff.mp e1).1
      rw [List.getElem?_map] at e1
      obtain ⟨w, ew, rfl⟩ := Option.map_eq_some_iff.mp e1
      obtain ⟨n, en, ev⟩ := kvw i w ew
      walk_at "rd"
      refine ⟨_, rfl, d, rfl, .inl ⟨_, .inl (A.same _ _ hd3)⟩, ?_⟩
      walk_at "rd"
      refine ⟨_, DGet.k (k := .inr w) (A.same _ _ hd3), ?_⟩
      rw [ev]
      refine pushed hi (A.pushK (.int n) (small1000 (by rw [List.length_map, List.length_take]; have := oh.1; have := ow.2.1; omega)) fun H5 A5 => ?_)
      show AccZ K H3 D H5 ((h.take (i + 1)).map Dat.int)
      rw [List.take_add_one, en, List.map_append]
      exact A5
    · intro H4 A
      rw [List.length_map, List.take_of_length_le (by rw [oh.1]; exact Nat.le_refl _)] at A
      walk_at "rd"
      refine k_tupL (SqL.of (AccZ.ints A)) fun p np => ?_
      exact k p _ (S3.trans (A.same.trans (same_new np _))) (.tup upd_same (RpL.ints _))
theorem dig_cl (m : Nat) : ∀ c ∈ cl (istr (m : Int)), 48 ≤ c ∧ c ≤ 57 := fun c hc => by
  rw [show cl (istr (m : Int)) = _ from PySem.W.KIN.signs_num m] at hc
  obtain ⟨ch, hch, e⟩ := List.mem_map.mp hc
  rw [← e]
  exact PyProof.Rows.digit_range (Nat.isDigit_of_mem_toDigits (by decide) (by decide) hch)
theorem istr_ne (m : Nat) : istr (m : Int) ≠ ("" : Str) := fun z => by
  have e : cl (istr (m : Int)) = [] := by rw [z]; decide +kernel
  rw [show cl (istr (m : Int)) = _ from PySem.W.KIN.signs_num m] at e
  have h := PySem.toDigits_len_ge 10 m
  rw [List.map_eq_nil_iff.mp e] at h
  exact absurd h (by decide)
theorem cp0 : (("0" : Str)).cps.toList = [48] := by decide +kernel
theorem cp9 : (("9" : Str)).cps.toList = [57] := by decide +kernel
def spNumG (K : PySem.W.Frag) : Sp := fun vs H Q _ => ∃ n : Int, vs = [.str (istr n)] ∧ 0 ≤ n ∧ n ≤ 10000000000 ∧ ∀ H', Same H H' → Q (.int n) H'
theorem len_numG {K : PySem.W.Frag} {vs : List V} {H : Hp} {Q : VK} {E : XK} {x : Str} (h : spNumG K vs H Q E) : vs.length = [x].length := by
  obtain ⟨_, rfl, _⟩ := h
  rfl
def t_numG (K : PySem.W.Frag) : TS := (tSeq (tIfS (tOr (tTest (tOp rEq (tVar 0) (tC (.str "")))) (tNot (tB (tCB (rAll K) (tCons (tComp (iStr (tVar 0)) (tChain rLeS rLeS (tC (.str "0")) (tVar 0) (tC (.str "9")))) tNil)))))
  (tRet (tC (.int 0)))
  tNext)
  (tRet (tCB rIntT (tCons (tVar 0) tNil))))
theorem rd_numG {K : PySem.W.Frag} {vs : List V} {H : Hp} {Q : VK} {E : XK} {N : List Str} (hN : N.length = 1) (h : spNumG K vs H Q E) : t_numG K (ends Q) (L2.start N vs) H := by
  obtain ⟨n, rfl, n0, n1, k⟩ := h
  rw [show L2.start N [.str (istr n)] = [some (.str (istr n))] by unfold L2.start; rw [hN]; rfl]
  obtain ⟨ir, il⟩ := int_reads n0 n1
  have l11 := Tw.istr_len n0 n1
  obtain ⟨m, rfl⟩ := Int.eq_ofNat_of_zero_le n0
  have dg := dig_cl m
  have ne := istr_ne m
  unfold t_numG
  walk_at "rd"
  rw [decide_eq_false ne]
  walk_at "rd"
  have asc : (istr (m : Int)).cps.all (· < 128) = true := by
    rw [Array.all_eq_true_iff_forall_mem]
    intro c hc
    have := dg c (by simpa using hc)
    exact decide_eq_true (by omega)
  refine ⟨_, rfl, asc, ?_⟩
  have sz : (istr (m : Int)).cps.size ≤ 11 := l11
  refine comp_str fun D nD => ⟨fun j H3 => AccZ K H D H3 ((List.replicate j true).map Dat.bool), AccZ.start (Same.refl _) nD, ?_, ?_⟩
  · intro i c H2 hc A
    have lc := dg c (List.mem_of_getElem? (by rw [Array.getElem?_toList]; exact hc))
    have hi : i < (istr (m : Int)).cps.size := (Array.getElem?_eq_some_iff.mp hc).1
    walk_at "rd"
    refine k_leS ?_
    rw [cp0]
    walk_at "rd"
    refine k_iteN (fun _ => ?_) (fun z => absurd z (sign_le lc.1))
    walk_at "rd"
    refine k_leS ?_
    rw [cp9, decide_eq_false (sign_le lc.2)]
    exact comp_bls (H0 := H) (by omega) hi (fun _ _ => Iff.rfl) A (Same.refl _)
  · intro H2 A
    walk_at "rd"
    refine k_all (AccZ.bls A) ?_
    rw [all_rep]
    walk_at "rd"
    exact ⟨_, _, rfl, ir, il, k H2 A.same⟩
def spPaceG (K : PySem.W.Frag) : Sp := fun vs H Q _ => ∃ q d : Int, vs = [.str (paceT q d)] ∧ PaceOk q d ∧ ∀ (p : Addr) (H' : Hp), Same H H' → Rz K H' (.ref p) (dI [q, d]) → Q (.ref p) H'
theorem len_paceG {K : PySem.W.Frag} {vs : List V} {H : Hp} {Q : VK} {E : XK} {x : Str} (h : spPaceG K vs H Q E) : vs.length = [x].length := by
  obtain ⟨_, _, rfl, _⟩ := h
  rfl
theorem sl_cl : (cl ("/" : Str))[0]? = some 47 := by decide +kernel
theorem no47 {n : Int} (n0 : 0 ≤ n) : 47 ∉ cl (istr n) := fun z => by
  obtain ⟨m, rfl⟩ := Int.eq_ofNat_of_zero_le n0
  have := dig_cl m 47 z; omega
theorem lt_of_small {n : Int} (h0 : 0 < n) (h1 : n ≤ 10000000000) : n.natAbs < 2 ^ 8000 := Nat.lt_of_lt_of_le (show n.natAbs < 2 ^ 34 by omega) (Nat.pow_le_pow_right (by decide) (by decide))
theorem pace_rat {q d : Int} (h : PaceOk q d) : dI [q, d] = Tr.dQ (Rat.divInt q d) := by
  obtain ⟨_, d0, g, _, _⟩ := h
  obtain ⟨e1, e2⟩ := low_rat (t := q) (b := d) (q := q) (d := d) (by omega) ⟨d0, g, rfl⟩
  unfold Tr.dQ
  rw [← e1, ← e2]
def t_pgIf (K : PySem.W.Frag) : TS := (tIfS (tOr (tTest (tOp rEq (tVar 2) (tC (.int 0)))) (tTest (tOp rEq (tVar 3) (tC (.int 0)))))
  (tRet (tC .non))
  tNext)
def t_paceG (K : PySem.W.Frag) : TS := (tSeq (tAsg (tBM K "str" rPart (tVar 0) (tCons (tC (.str "/")) tNil)) (gName 1))
  (tSeq (tAsg (tCall (spNumG K) [] E0 (tCons (tOp (rIxT K) (tVar 1) (tC (.int 0))) tNil)) (gName 2))
  (tSeq (tAsg (tIf (tTest (tOp rEq (tOp (rIxT K) (tVar 1) (tC (.int 1))) (tC (.str "")))) (tC (.int 1)) (tCall (spNumG K) [] E0 (tCons (tOp (rIxT K) (tVar 1) (tC (.int 2))) tNil))) (gName 3))
  (tSeq (t_pgIf K)
  (tRet (tCall (spFracQ K) [] E0 (tCons (tVar 2) (tCons (tVar 3) tNil))))))))
theorem rd_paceG {K : PySem.W.Frag} {vs : List V} {H : Hp} {Q : VK} {E : XK} {N : List Str} (hN : N.length = 4) (h : spPaceG K vs H Q E) : t_paceG K (ends Q) (L2.start N vs) H := by
  obtain ⟨q, d, rfl, po, k⟩ := h
  rw [show L2.start N [.str (paceT q d)] = [some (.str (paceT q d)), none, none, none] by unfold L2.start; rw [hN]; rfl]
  have lp := paceT_len po
  obtain ⟨q0, d0, g1, q1, d1⟩ := id po
  have hz : (paceT q d).length ≤ sizeLine := by rw [Tw.szL]; omega
  have rest : ∀ (p : Addr) (H2 : Hp) (σ : St), Same H H2 → σ = [some (.str (paceT q d)), some (.ref p), some (.int q), some (.int d)] →
      (tSeq (t_pgIf K)
        (tRet (tCall (spFracQ K) [] E0 (tCons (tVar 2) (tCons (tVar 3) tNil))))) (ends Q) σ H2 := by
    rintro p H2 σ S2 rfl
    walk_at "rd"
    unfold t_pgIf
    walk_at "rd"
    refine k_ite (fun z => absurd z (by omega)) (fun _ => ?_)
    walk_at "rd"
    refine k_ite (fun z => absurd z (by omega)) (fun _ => ?_)
    walk_at "rd"
    refine ⟨q, d, rfl, by omega, lt_of_small q0 q1, lt_of_small d0 d1, fun o H3 S3 r3 => k o H3 (S2.trans S3) ?_⟩
    rw [pace_rat po]
    exact r3
  unfold t_paceG
  walk_at "rd"
  refine ⟨rfl, ?_⟩
  walk_at "rd"
  refine ⟨_, "/", rfl, rfl, by decide +kernel, hz, ?_⟩
  by_cases e1 : d = 1
  · refine .inr ⟨?_, fun p np => ?_⟩
    · rw [show paceT q d = istr q from if_pos e1]
      exact none1 sl_cl (no47 (by omega))
    · have hp : upd H p (.tup [.str (paceT q d), .str Str.empty, .str Str.empty]) p = some (.tup [.str (paceT q d), .str Str.empty, .str Str.empty]) := upd_same
      have S1 := same_new np (.tup [.str (paceT q d), .str Str.empty, .str Str.empty])
      generalize upd H p (.tup [.str (paceT q d), .str Str.empty, .str Str.empty]) = H1 at hp S1 ⊢
      walk_at "rd"
      refine k_ixT (SqT.of hp) (v := .str (paceT q d)) rfl ?_
      walk_at "rd"
      refine ⟨q, by rw [show paceT q d = istr q from if_pos e1]; rfl, by omega, q1, fun H2 S2 => ?_⟩
      walk_at "rd"
      refine k_ixT (SqT.of (S2 _ _ hp)) (v := .str Str.empty) rfl ?_
      walk_at "rd"
      rw [show decide (Str.empty = ("" : Str)) = true by decide +kernel]
      walk_at "rd"
      refine rest p H2 _ (S1.trans S2) ?_
      rw [e1]; rfl
  · have ep : paceT q d = istr q ++ "/" ++ istr d := by
      unfold paceT
      rw [if_neg e1, Str.empty_append]
    refine .inl ⟨(istr q).length, ?_, ?_, fun p np => ?_⟩
    · rw [ep]; exact occ_mid _ _ _
    · rw [ep]; exact first1 sl_cl (no47 (by omega))
    · have es1 : strSub (paceT q d) 0 (istr q).length = istr q := by rw [ep]; exact sub_first _ _ _
      have es2 : strSub (paceT q d) ((istr q).length + ("/" : Str).length) (paceT q d).length = istr d := by rw [ep]; exact sub_last _ _ _
      rw [es1, es2]
      have hp : upd H p (.tup [.str (istr q), .str "/", .str (istr d)]) p = some (.tup [.str (istr q), .str "/", .str (istr d)]) := upd_same
      have S1 := same_new np (.tup [.str (istr q), .str "/", .str (istr d)])
      generalize upd H p (.tup [.str (istr q), .str "/", .str (istr d)]) = H1 at hp S1 ⊢
      walk_at "rd"
      refine k_ixT (SqT.of hp) (v := .str (istr q)) rfl ?_
      walk_at "rd"
      refine ⟨q, rfl, by omega, q1, fun H2 S2 => ?_⟩
      walk_at "rd"
      refine k_ixT (SqT.of (S2 _ _ hp)) (v := .str "/") rfl ?_
      walk_at "rd"
      rw [show decide (("/" : Str) = "") = false by decide +kernel]
      walk_at "rd"
      refine k_ixT (SqT.of (S2 _ _ hp)) (v := .str (istr d)) rfl ?_
      walk_at "rd"
      refine ⟨d, rfl, by omega, d1, fun H3 S3 => ?_⟩
      exact rest p H3 _ (S1.trans (S2.trans S3)) rfl
def spTurnRd (K : PySem.W.Frag) : Sp := fun vs H Q _ => ∃ (v : V) (ws : List Str) (t : Tn), vs = [v, .str (turnT ws t)] ∧ Rz K H v (.tuple (ws.map Dat.str)) ∧ WdOk ws ∧ TtOk ws t ∧ ∀ (p : Addr) (H' : Hp), Same H H' → Rz K H' (.ref p) (dT t) → Q (.ref p) H'
theorem len_turnRd {K : PySem.W.Frag} {vs : List V} {H : Hp} {Q : VK} {E : XK} {x y : Str} (h : spTurnRd K vs H Q E) : vs.length = [x, y].length := by
  obtain ⟨_, _, _, rfl, _⟩ := h
  rfl
theorem ar0 : (cl (" -> " : Str))[0]? = some 32 := by decide +kernel
theorem ar1 : (cl (" -> " : Str))[1]? = some 45 := by decide +kernel
theorem at0 : (cl (" @ " : Str))[0]? = some 32 := by decide +kernel
theorem at1 : (cl (" @ " : Str))[1]? = some 64 := by decide +kernel
theorem turn_cut (ws : List Str) (t : Tn) : turnT ws t = heapT ws t.fr ++ " -> " ++ (heapT ws t.to ++ " @ " ++ paceT t.q t.d) := by
  unfold turnT
  rw [Str.empty_append]
  simp only [Str.append_assoc]
theorem turnT_len {ws : List Str} {t : Tn} (ow : WsOk ws) (ok : TtOk ws t) : (turnT ws t).length ≤ 200 := by
  have h1 := heapT_len ow ok.1.2
  have h2 := heapT_len ow ok.2.1.2
  have h3 := paceT_len ok.2.2
  rw [turn_cut, Str.length_append, Str.length_append, Str.length_append, Str.length_append, lenAr, lenAt]
  omega
def t_turnRd (K : PySem.W.Frag) : TS := (tSeq (tAsg (tBM K "str" rPart (tVar 1) (tCons (tC (.str " -> ")) tNil)) (gName 2))
  (tSeq (tAsg (tBM K "str" rPart (tOp (rIxT K) (tVar 2) (tC (.int 2))) (tCons (tC (.str " @ ")) tNil)) (gName 3))
  (tSeq (tAsg (tCall (spPaceG K) [] E0 (tCons (tOp (rIxT K) (tVar 3) (tC (.int 2))) tNil)) (gName 4))
  (tSeq (tIfS (tTest (tOp rIsN (tVar 4) (tC .non)))
  (tRet (tC .non))
  tNext)
  (tSeq (tAsg (tTup (tCons (tCall (spHeapG K) [] E0 (tCons (tVar 0) (tCons (tOp (rIxT K) (tVar 2) (tC (.int 0))) tNil))) (tCons (tCall (spHeapG K) [] E0 (tCons (tVar 0) (tCons (tOp (rIxT K) (tVar 3) (tC (.int 0))) tNil))) (tCons (tVar 4) tNil)))) (gName 5))
  (tSeq (tIfS (tTest (tOp rNe (tCall (spTurnT K) [] E0 (tCons (tVar 0) (tCons (tVar 5) tNil))) (tVar 1)))
  (tRet (tC .non))
  tNext)
  (tRet (tVar 5))))))))
theorem rd_turnRd {K : PySem.W.Frag} {vs : List V} {H : Hp} {Q : VK} {E : XK} {N : List Str} (hN : N.length = 6) (h : spTurnRd K vs H Q E) : t_turnRd K (ends Q) (L2.start N vs) H := by
  obtain ⟨v, ws, t, rfl, rv, ow, ok, k⟩ := h
  rw [show L2.start N [v, .str (turnT ws t)] = [some v, some (.str (turnT ws t)), none, none, none, none] by unfold L2.start; rw [hN]; rfl]
  have lt := turnT_len ow.ok ok
  have sz := Tw.szL
  have hs1 := hs_heap ow.lt ok.1.2
  have hs2 := hs_heap ow.lt ok.2.1.2
  unfold t_turnRd
  walk_at "rd"
  refine ⟨rfl, ?_⟩
  walk_at "rd"
  refine ⟨_, " -> ", rfl, rfl, by decide +kernel, by omega, .inl ⟨(heapT ws t.fr).length, ?_, ?_, fun p np => ?_⟩⟩
  · rw [turn_cut]; exact occ_mid _ _ _
  · rw [turn_cut]; exact first2 ar0 ar1 (fun z => by have := hs1 45 z; omega) (by decide)
  have es1 : strSub (turnT ws t) 0 (heapT ws t.fr).length = heapT ws t.fr := by rw [turn_cut]; exact sub_first _ _ _
  have es2 : strSub (turnT ws t) ((heapT ws t.fr).length + (" -> " : Str).length) (turnT ws t).length = heapT ws t.to ++ " @ " ++ paceT t.q t.d := by rw [turn_cut]; exact sub_last _ _ _
  rw [es1, es2]
  have hp : upd H p (.tup [.str (heapT ws t.fr), .str " -> ", .str (heapT ws t.to ++ " @ " ++ paceT t.q t.d)]) p = some (.tup [.str (heapT ws t.fr), .str " -> ", .str (heapT ws t.to ++ " @ " ++ paceT t.q t.d)]) := upd_same
  have S1 := same_new np (.tup [.str (heapT ws t.fr), .str " -> ", .str (heapT ws t.to ++ " @ " ++ paceT t.q t.d)])
  generalize upd H p (.tup [.str (heapT ws t.fr), .str " -> ", .str (heapT ws t.to ++ " @ " ++ paceT t.q t.d)]) = H1 at hp S1 ⊢
  walk_at "rd"
  refine k_ixT (SqT.of hp) (v := .str (heapT ws t.to ++ " @ " ++ paceT t.q t.d)) rfl ?_
  refine ⟨rfl, ?_⟩
  walk_at "rd"
  refine ⟨_, " @ ", rfl, rfl, by decide +kernel, ?_, .inl ⟨(heapT ws t.to).length, occ_mid _ _ _, first2 at0 at1 (fun z => by have := hs2 64 z; omega) (by decide), fun p2 np2 => ?_⟩⟩
  · rw [turn_cut, Str.length_append] at lt; omega
  rw [sub_first, sub_last]
  have hp2 : upd H1 p2 (.tup [.str (heapT ws t.to), .str " @ ", .str (paceT t.q t.d)]) p2 = some (.tup [.str (heapT ws t.to), .str " @ ", .str (paceT t.q t.d)]) := upd_same
  have S2 := same_new np2 (.tup [.str (heapT ws t.to), .str " @ ", .str (paceT t.q t.d)])
  generalize upd H1 p2 (.tup [.str (heapT ws t.to), .str " @ ", .str (paceT t.q t.d)]) = H2 at hp2 S2 ⊢
  have S12 := S1.trans S2
  walk_at "rd"
  refine k_ixT (SqT.of hp2) (v := .str (paceT t.q t.d)) rfl ?_
  walk_at "rd"
  refine ⟨t.q, t.d, rfl, ok.2.2, fun p3 H3 S3 r3 => ?_⟩
  have S13 := S12.trans S3
  walk_at "rd"
  rw [decide_eq_false (fun z : V.ref p3 = V.non => by cases z)]
  walk_at "rd"
  refine k_ixT (SqT.of ((S2.trans S3) _ _ hp)) (v := .str (heapT ws t.fr)) rfl ?_
  walk_at "rd"
  refine ⟨v, ws, t.fr, rfl, rv.same S13, ow, ok.1, fun p4 H4 S4 r4 => ?_⟩
  walk_at "rd"
  refine k_ixT (SqT.of ((S3.trans S4) _ _ hp2)) (v := .str (heapT ws t.to)) rfl ?_
  walk_at "rd"
  refine ⟨v, ws, t.to, rfl, rv.same (S13.trans S4), ow, ok.2.1, fun p5 H5 S5 r5 => ?_⟩
  walk_at "rd"
  refine ⟨by show 3 ≤ sizeLine; decide, fun p6 np6 => ?_⟩
  have S6 := same_new np6 (.tup [.ref p4, .ref p5, .ref p3])
  have r6 : Rz K (upd H5 p6 (.tup [.ref p4, .ref p5, .ref p3])) (.ref p6) (dT t) := .tup upd_same (.cons ((r4.same S5).same S6) (.cons (r5.same S6) (.cons (((r3.same S4).same S5).same S6) .nil)))
  generalize upd H5 p6 (.tup [.ref p4, .ref p5, .ref p3]) = H6 at S6 r6 ⊢
  have S16 := S13.trans (S4.trans (S5.trans S6))
  walk_at "rd"
  refine ⟨v, .ref p6, ws, t, rfl, rv.same S16, r6, ow.ok, ok, fun H7 S7 => ?_⟩
  walk_at "rd"
  refine k_neS ?_
  rw [decide_eq_true rfl]
  walk_at "rd"
  exact k p6 H7 (S16.trans S7) (r6.same S7)
theorem wd_of {ws : List Str} {ts : List Tn} (h : VesOk ws ts) : WdOk ws := ⟨h.words.1, h.w5, fun w hw => ⟨(h.words.2 w hw).2.2, (h.words.2 w hw).2.1⟩⟩
theorem tt_of {ws : List Str} {ts : List Tn} (h : VesOk ws ts) : ∀ t ∈ ts, TtOk ws t := (ves_tv h).2.2
def rwOf (t : Tn) : Rw := ⟨false, false, t⟩
def spRead (K : PySem.W.Frag) : Sp := fun vs H Q _ => ∃ (a b : Addr) (ws : List Str) (ts : List Tn), vs = [.ref a, .ref b] ∧ SqL K H a (ws.map V.str) ∧ SqL K H b ((ts.map (turnT ws)).map V.str) ∧ VesOk ws ts ∧ ∀ (p : Addr) (H' : Hp), Same H H' → Rz K H' (.ref p) (dV ws ts) → Q (.ref p) H'
theorem len_read {K : PySem.W.Frag} {vs : List V} {H : Hp} {Q : VK} {E : XK} {x y : Str} (h : spRead K vs H Q E) : vs.length = [x, y].length := by
  obtain ⟨_, _, _, _, rfl, _⟩ := h
  rfl
def t_read (K : PySem.W.Frag) : TS := (tSeq (tAsg (tCall (spStuffs K) [] E0 (tCons (tVar 0) tNil)) (gName 2))
  (tSeq (tAsg (tLst tNil) (gName 3))
  (tSeq (tFor (iEnum K (tCons (tVar 1) tNil)) (gTup K 2 (gCons (gName 4) (gCons (gName 5) gNil)))
  (tSeq (tAsg (tCall (spTurnRd K) [] E0 (tCons (tVar 2) (tCons (tVar 5) tNil))) (gName 6))
  (tSeq (tIfS (tTest (tOp rIsN (tVar 6) (tC .non)))
  tNever
  tNext)
  (tDrop (tBM K "list" rAppend (tVar 3) (tCons (tVar 6) tNil))))))
  (tRet (tCall (spMade K) [] E0 (tCons (tVar 2) (tCons (tVar 3) tNil)))))))
theorem rd_read {K : PySem.W.Frag} {vs : List V} {H : Hp} {Q : VK} {E : XK} {N : List Str} (hN : N.length = 7) (h : spRead K vs H Q E) : t_read K (ends Q) (L2.start N vs) H := by
  obtain ⟨a, b, ws, ts, rfl, ha, hb, vo, k⟩ := h
  rw [show L2.start N [.ref a, .ref b] = [some (.ref a), some (.ref b), none, none, none, none, none] by unfold L2.start; rw [hN]; rfl]
  have wd := wd_of vo
  have tt := tt_of vo
  have t8 : ts.length ≤ 8 := (ves_tv vo).2.1
  unfold t_read
  walk_at "rd"
  refine ⟨a, ws, rfl, .inl ha, vo.words, vo.w1, vo.w5, fun p H1 S1 hp => ?_⟩
  have rp : Rz K H1 (.ref p) (.tuple (ws.map Dat.str)) := .tup hp (RpL.strs _)
  walk_at "rd"
  refine ⟨by decide, fun l nl => ?_⟩
  have A0 : AccZ K H1 l (upd H1 l (.lst [])) (((ts.take 0).map dT)) := AccZ.start (Same.refl _) nl
  have S2 := same_new nl (.lst [])
  generalize upd H1 l (.lst []) = H2 at A0 S2 ⊢
  walk_at "rd"
  refine ⟨b, _, rfl, (S1.trans S2).seq hb, ?_⟩
  refine fat_enum (xs := (ts.map (turnT ws)).map V.str) (fun i σ H3 => ∃ u4 u5 u6 : Option V, σ = [some (.ref a), some (.ref b), some (.ref p), some (.ref l), u4, u5, u6] ∧ AccZ K H1 l H3 ((ts.take i).map dT)) ⟨none, none, none, rfl, A0⟩ (fun i σ H3 _ ⟨_, _, _, _, A⟩ => (S1.trans A.same).seq hb) ?_ ?_
  · rintro i y σ H3 T e1 ⟨u4, u5, u6, rfl, A3⟩ nT
    rw [List.getElem?_map, List.getElem?_map] at e1
    obtain ⟨z, e2, rfl⟩ := Option.map_eq_some_iff.mp e1
    obtain ⟨t, et, rfl⟩ := Option.map_eq_some_iff.mp e2
    have li := (List.getElem?_eq_some_iff.mp et).1
    have A4 := A3.on (same_new nT (.tup [.int (i : Int), .str (turnT ws t)]))
    refine k_gTup (SqT.of upd_same) rfl ?_
    generalize upd H3 T (.tup [.int (i : Int), .str (turnT ws t)]) = H4 at A4 ⊢
    walk_at "rd"
    refine ⟨.ref p, ws, t, rfl, rp.same A4.same, wd, tt t (List.mem_of_getElem? et), fun q H5 S5 rq => ?_⟩
    have A5 := A4.on S5
    walk_at "rd"
    rw [decide_eq_false (fun z : V.ref q = V.non => by cases z)]
    walk_at "rd"
    refine ⟨A5.ty, ?_⟩
    walk_at "rd"
    refine k_appZ A5 rq (small1000 (by rw [List.length_map, List.length_take]; omega)) fun H6 A6 _ _ _ => ?_
    walk_at "rd"
    refine ⟨_, _, _, rfl, ?_⟩
    rw [List.take_add_one, et, List.map_append]
    exact A6
  · rintro σ H3 ⟨u4, u5, u6, rfl, A3⟩
    rw [List.length_map, List.length_map, List.take_of_length_le (Nat.le_refl _)] at A3
    walk_at "rd"
    obtain ⟨xs, hl, rl⟩ := A3.at_
    have em : (ts.map rwOf).map Rw.t = ts := by rw [List.map_map]; exact List.map_id _
    have ed : (ts.map rwOf).map dR = ts.map dT := by rw [List.map_map]; rfl
    refine ⟨p, l, fun x => x = l, ws, ts.map rwOf, rfl, .inr (A3.same _ _ hp), .lst rfl hl (by rw [ed]; exact rl.mono fun _ z => z.elim), by rw [em]; exact vo, fun q H4 S4 rq => ?_⟩
    rw [em] at rq
    exact k q H4 (S1.trans (A3.same.trans S4)) rq
end Tr2
set_option Elab.async false
set_option linter.all false
set_option maxRecDepth 100000
set_option maxHeartbeats 4000000
namespace K22
open PySem L2 Fr G1 Sm Vs Tw Md Tr2
open Tr (spFracQ len_fracQ t_fracQ rd_fracQ)
open PySem.W (Dat kqdOk)
open K22H
def spHeapTL (K : PySem.W.Frag) : Sp := fun vs H Q _ => ∃ (a : Addr) (v2 : V) (ws : List Str) (h : List Int), vs = [.ref a, v2] ∧ H a = some (.lst (ws.map V.str)) ∧ Rz K H v2 (dI h) ∧ WsOk ws ∧ HeapOk ws.length h ∧ ∀ H', Same H H' → Q (.str (heapT ws h)) H'
theorem len_heapTL {K : PySem.W.Frag} {vs : List V} {H : Hp} {Q : VK} {E : XK} {x y : Str} (h : spHeapTL K vs H Q E) : vs.length = [x, y].length := by
  obtain ⟨a, b, _, _, rfl, _⟩ := h
  rfl
def spTurnTL (K : PySem.W.Frag) : Sp := fun vs H Q _ => ∃ (a : Addr) (v2 : V) (ws : List Str) (t : Tn), vs = [.ref a, v2] ∧ H a = some (.lst (ws.map V.str)) ∧ Rz K H v2 (dT t) ∧ WsOk ws ∧ TtOk ws t ∧ ∀ H', Same H H' → Q (.str (turnT ws t)) H'
theorem len_turnTL {K : PySem.W.Frag} {vs : List V} {H : Hp} {Q : VK} {E : XK} {x y : Str} (h : spTurnTL K vs H Q E) : vs.length = [x, y].length := by
  obtain ⟨a, b, _, _, rfl, _⟩ := h
  rfl
def t_lheapTL (K : PySem.W.Frag) : TS := (tSeq (tAsg (tLst tNil) (gName 2))
  (tSeq (tFor (iRng1 (tCons (tCB (rLenQ K) (tCons (tVar 0) tNil)) tNil)) (gName 3)
  (tIfS (tTest (tOp rGt (tOp (rIxT K) (tVar 1) (tVar 3)) (tC (.int 0))))
  (tDrop (tBM K "list" rAppend (tVar 2) (tCons (tOp (rIxL K) (tLst (tCons (tC (.str "")) (tCons (tOp (rIxL K) (tVar 0) (tVar 3)) (tCons (tOp rAddS (tC (.str "2 ")) (tOp (rIxL K) (tVar 0) (tVar 3))) (tCons (tOp rAddS (tC (.str "3 ")) (tOp (rIxL K) (tVar 0) (tVar 3))) tNil))))) (tOp (rIxT K) (tVar 1) (tVar 3))) tNil)))
  tNext))
  (tSeq (tIfS (tTest (tOp (rEqD K) (tVar 2) (tLst tNil)))
  (tRet (tC (.str "0")))
  tNext)
  (tRet (tBM K "str" (rJoin K) (tC (.str " + ")) (tCons (tVar 2) tNil))))))
theorem rd_lheapTL {K : PySem.W.Frag} {vs : List V} {H : Hp} {Q : VK} {E : XK} {N : List Str} (hN : N.length = 4) (h : spHeapTL K vs H Q E) : t_lheapTL K (ends Q) (L2.start N vs) H := by
  obtain ⟨a, v2, ws, h, rfl, ha, r2, ow, oh, k⟩ := h
  obtain ⟨b, rfl, hb⟩ := dI_at r2
  rw [show L2.start N [.ref a, .ref b] = [some (.ref a), some (.ref b), none, none] by unfold L2.start; rw [hN]; rfl]
  have w5 := ow.1
  unfold t_lheapTL
  walk_at "rd"
  refine ⟨by decide, fun l nl => ?_⟩
  walk_at "rd"
  have Sl := same_new nl (.lst [])
  refine k_lenL (SqL.of (Sl _ _ ha)) ?_
  have lm : (ws.map V.str).length = ws.length := List.length_map ..
  rw [lm]
  walk_at "rd"
  have lm' : ((ws.length : Nat) : Int).toNat = ws.length := by omega
  rw [lm']
  refine fat_range (fun i σ H2 => ∃ u3 : Option V, σ = [some (.ref a), some (.ref b), some (.ref l), u3] ∧ AccZ K H l H2 ((partsT (ws.take i) (h.take i)).map Dat.str)) ⟨none, rfl, AccZ.start (Same.refl _) nl⟩ ?_ ?_
  · rintro i σ H2 hi ⟨u3, rfl, A⟩
    have hi2 : i < h.length := by rw [oh.1]; exact hi
    have f1 : ws[i]? = some ws[i] := List.getElem?_eq_getElem hi
    have f2 : h[i]? = some h[i] := List.getElem?_eq_getElem hi2
    have sn := partsT_snoc f1 f2
    have on := oh.2 _ (List.getElem_mem hi2)
    have lw := (ow.2 _ (List.getElem_mem hi)).1
    generalize ws[i] = w at f1 sn lw
    generalize h[i] = n at f2 sn on
    have g1 : (ws.map V.str)[i]? = some (.str w) := by rw [List.getElem?_map, f1]; rfl
    have g2 : (h.map V.int)[i]? = some (.int n) := by rw [List.getElem?_map, f2]; rfl
    have ha2 := A.same _ _ ha
    have hb2 := A.same _ _ hb
    walk_at "rd"
    refine k_ixT (SqT.of hb2) (v := .int n) (by rw [Int.zero_add]; exact atI_nat g2) ?_
    walk_at "rd"
    refine k_ite (fun z => ?_) (fun z => ?_)
    · walk_at "rd"
      refine ⟨A.ty, ?_⟩
      walk_at "rd"
      refine k_ixL (SqL.of ha2) (v := .str w) (by rw [Int.zero_add]; exact atI_nat g1) ?_
      walk_at "rd"
      refine k_ixL (SqL.of ha2) (v := .str w) (by rw [Int.zero_add]; exact atI_nat g1) ?_
      refine k_addS (by rw [lenP2, Tw.szL]; omega) ?_
      walk_at "rd"
      refine k_ixL (SqL.of ha2) (v := .str w) (by rw [Int.zero_add]; exact atI_nat g1) ?_
      refine k_addS (by rw [lenP3, Tw.szL]; omega) ?_
      walk_at "rd"
      refine ⟨by show 4 ≤ sizeLine; decide, fun q nq => ?_⟩
      have Sq := same_new nq (.lst [V.str "", .str w, .str (("2 " : Str) ++ w), .str (("3 " : Str) ++ w)])
      walk_at "rd"
      refine k_ixT (SqT.of (Sq _ _ hb2)) (v := .int n) (by rw [Int.zero_add]; exact atI_nat g2) ?_
      refine k_ixL (SqL.of upd_same) (four_of z on.2) ?_
      walk_at "rd"
      refine k_appZ (A.on Sq) (.str (stuffT w n)) (small1000 ?_) fun H4 A4 _ _ _ => ?_
      · rw [List.length_map]
        have := partsT_len (ws := ws.take i) (h := h.take i)
        rw [List.length_take] at this
        omega
      walk_at "rd"
      refine ⟨_, rfl, ?_⟩
      rw [sn, if_pos z, List.map_append]
      exact A4
    · walk_at "rd"
      refine ⟨_, rfl, ?_⟩
      rw [sn, if_neg z, List.append_nil]
      exact A
  · rintro σ H2 ⟨u3, rfl, A⟩
    rw [List.take_of_length_le (Nat.le_refl _), List.take_of_length_le (by rw [oh.1]; exact Nat.le_refl _)] at A
    walk_at "rd"
    refine ⟨by decide, fun q nq => ?_⟩
    have Sq := same_new nq (.lst [])
    have A2 := A.on Sq
    have hD := AccZ.strs A2
    have okp : kqdOk 8 (.list ((partsT ws h).map Dat.str)) = true := by
      show (((partsT ws h).map Dat.str).all (kqdOk 7)) = true
      rw [List.all_eq_true]
      intro x hx
      obtain ⟨i, hi, rfl⟩ := List.mem_map.mp hx
      exact (partsT_mem ow oh.2 hi).2
    refine k_eqD (d := .list ((partsT ws h).map Dat.str)) (e := .list []) A2.rep (.lst (SqL.of upd_same) .nil) okp (by decide +kernel) (fun z => ?_) (fun z => ?_)
    · walk_at "rd"
      have p : partsT ws h = [] := by
        have := Dat.list.inj z
        exact List.map_eq_nil_iff.mp this
      rw [nil_of_len p] at k
      exact k _ A2.same
    · walk_at "rd"
      have p : partsT ws h ≠ [] := fun q => z (by rw [q]; rfl)
      rw [join_of_len p] at k
      refine ⟨rfl, ?_⟩
      walk_at "rd"
      exact k_join (SqL.of hD) (join_fits ow oh.2) (k _ A2.same)
def t_lturnTL (K : PySem.W.Frag) : TS := (tSeq (tAsg (tCB rStrI (tCons (tOp (rIxT K) (tOp (rIxT K) (tVar 1) (tC (.int 2))) (tC (.int 0))) tNil)) (gName 2))
  (tSeq (tIfS (tTest (tOp rGt (tOp (rIxT K) (tOp (rIxT K) (tVar 1) (tC (.int 2))) (tC (.int 1))) (tC (.int 1))))
  (tAsg (tOp rAddS (tOp rAddS (tVar 2) (tC (.str "/"))) (tCB rStrI (tCons (tOp (rIxT K) (tOp (rIxT K) (tVar 1) (tC (.int 2))) (tC (.int 1))) tNil))) (gName 2))
  tNext)
  (tSeq (tAsg (tOp rAddS (tOp rAddS (tCall (spHeapTL K) [] E0 (tCons (tVar 0) (tCons (tOp (rIxT K) (tVar 1) (tC (.int 0))) tNil))) (tC (.str " -> "))) (tCall (spHeapTL K) [] E0 (tCons (tVar 0) (tCons (tOp (rIxT K) (tVar 1) (tC (.int 1))) tNil)))) (gName 3))
  (tRet (tOp rAddS (tOp rAddS (tVar 3) (tC (.str " @ "))) (tVar 2))))))
theorem rd_lturnTL {K : PySem.W.Frag} {vs : List V} {H : Hp} {Q : VK} {E : XK} {N : List Str} (hN : N.length = 4) (h : spTurnTL K vs H Q E) : t_lturnTL K (ends Q) (L2.start N vs) H := by
  obtain ⟨g, v2, ws, t, rfl, hg, r2, ow, ⟨o1, o2, op⟩, k⟩ := h
  obtain ⟨a, w1, w2, w3, rfl, ha, q1, q2, q3⟩ := dT_at r2
  obtain ⟨c, rfl, hc⟩ := dI_at q3
  rw [show L2.start N [.ref g, .ref a] = [some (.ref g), some (.ref a), none, none] by unfold L2.start; rw [hN]; rfl]
  have l1 := heapT_len ow o1.2
  have l2 := heapT_len ow o2.2
  have l3 := paceT_len op
  have lq := istr_len (i := t.q) (by have := op.1; omega) op.2.2.2.1
  have ld := istr_len (i := t.d) (by have := op.2.1; omega) op.2.2.2.2
  have sq := log_small (i := t.q) (by have := op.1; omega) op.2.2.2.1
  have sd := log_small (i := t.d) (by have := op.2.1; omega) op.2.2.2.2
  have fin : ∀ D' : Ends, D'.rt = (ends Q).rt → (tSeq (tAsg (tOp rAddS (tOp rAddS (tCall (spHeapTL K) [] E0 (tCons (tVar 0) (tCons (tOp (rIxT K) (tVar 1) (tC (.int 0))) tNil))) (tC (.str " -> "))) (tCall (spHeapTL K) [] E0 (tCons (tVar 0) (tCons (tOp (rIxT K) (tVar 1) (tC (.int 1))) tNil)))) (gName 3))
      (tRet (tOp rAddS (tOp rAddS (tVar 3) (tC (.str " @ "))) (tVar 2)))) D' [some (.ref g), some (.ref a), some (.str (paceT t.q t.d)), none] H := by
    intro D' eD
    walk_at "rd"
    refine k_ixT (SqT.of ha) (v := w1) rfl ?_
    walk_at "rd"
    refine ⟨g, w1, ws, t.fr, rfl, hg, q1, ow, o1, fun H1 S1 => ?_⟩
    walk_at "rd"
    refine k_addS (by rw [lenAr, Tw.szL]; omega) ?_
    walk_at "rd"
    refine k_ixT (SqT.of (S1 _ _ ha)) (v := w2) rfl ?_
    walk_at "rd"
    refine ⟨g, w2, ws, t.to, rfl, S1 _ _ hg, q2.same S1, ow, o2, fun H2 S2 => ?_⟩
    refine k_addS (by rw [strLen_append, lenAr, Tw.szL]; omega) ?_
    walk_at "rd"
    refine k_addS (by rw [strLen_append, strLen_append, lenAr, lenAt, Tw.szL]; omega) ?_
    walk_at "rd"
    refine k_addS (by rw [strLen_append, strLen_append, strLen_append, lenAr, lenAt, Tw.szL]; omega) ?_
    rw [eD]
    have := k H2 (S1.trans S2)
    unfold turnT at this
    rw [Str.empty_append] at this
    exact this
  unfold t_lturnTL
  walk_at "rd"
  refine k_ixT (SqT.of ha) (v := .ref c) rfl ?_
  walk_at "rd"
  refine k_ixT (SqT.of hc) (v := .int t.q) rfl ?_
  walk_at "rd"
  refine k_strI sq ?_
  walk_at "rd"
  refine k_ixT (SqT.of ha) (v := .ref c) rfl ?_
  walk_at "rd"
  refine k_ixT (SqT.of hc) (v := .int t.d) rfl ?_
  walk_at "rd"
  refine k_ite (fun z => ?_) (fun z => ?_)
  · walk_at "rd"
    refine k_addS (by rw [lenSl, Tw.szL]; omega) ?_
    walk_at "rd"
    refine k_ixT (SqT.of ha) (v := .ref c) rfl ?_
    walk_at "rd"
    refine k_ixT (SqT.of hc) (v := .int t.d) rfl ?_
    walk_at "rd"
    refine k_strI sd ?_
    refine k_addS (by rw [strLen_append, lenSl, Tw.szL]; omega) ?_
    have e : istr t.q ++ ("/" : Str) ++ istr t.d = paceT t.q t.d := by
      unfold paceT
      rw [if_neg (by omega), Str.empty_append]
    rw [e]
    exact fin _ rfl
  · have e : istr t.q = paceT t.q t.d := by
      unfold paceT
      rw [if_pos (by have := op.2.1; omega)]
    rw [e]
    exact fin _ rfl
theorem ves_rev {ws : List Str} {ts : List Tn} (h : VesOk ws ts) : VesOk ws ts.reverse := by
  obtain ⟨hs, po, h8, tk⟩ := h.turns
  exact ⟨h.words, h.w1, h.w5, hs, po, h8, by intro z; exact tk.ne (List.reverse_eq_nil_iff.mp z), by rw [List.length_reverse]; exact tk.le, by rw [List.map_reverse]; exact List.pairwise_reverse.mpr (tk.nd.imp fun z => z.symm), fun t ht => tk.ok t (List.mem_reverse.mp ht)⟩
theorem okS_dI (ns : List Int) (n : Nat) (l : ns.length ≤ 1000) : okS (n + 1) (dI ns) = true := okS_t (by rw [List.length_map]; exact l) fun d hd => by
  obtain ⟨i, _, rfl⟩ := List.mem_map.mp hd
  cases n <;> rfl
theorem len_of {ws : List Str} {ts : List Tn} (h : VesOk ws ts) {t : Tn} (ht : t ∈ ts) : t.fr.length ≤ 1000 ∧ t.to.length ≤ 1000 := by
  obtain ⟨hs, po, _, tk⟩ := h.turns
  obtain ⟨f, g, _⟩ := tk.ok t ht
  have l1 := (po.2 _ f).1
  have l2 := (po.2 _ g).1
  have := h.w5
  omega
theorem okS_V {ws : List Str} {ts : List Tn} (h : VesOk ws ts) : okS 4 (dV ws ts) = true := by
  have w5 := h.w5
  obtain ⟨hs, po, _, tk⟩ := id h.turns
  refine okS_t (by show 2 ≤ 1000; decide) fun d hd => ?_
  rcases List.mem_cons.mp hd with rfl | hd
  · refine okS_t (by rw [List.length_map]; omega) fun d hd => ?_
    obtain ⟨w, _, rfl⟩ := List.mem_map.mp hd
    rfl
  · cases List.mem_singleton.mp hd
    refine okS_t (by rw [List.length_map]; have := tk.le; omega) fun d hd => ?_
    obtain ⟨t, ht, rfl⟩ := List.mem_map.mp hd
    obtain ⟨l1, l2⟩ := len_of h ht
    refine okS_t (by show 3 ≤ 1000; decide) fun d hd => ?_
    rcases List.mem_cons.mp hd with rfl | hd
    · exact okS_dI _ 0 l1
    rcases List.mem_cons.mp hd with rfl | hd
    · exact okS_dI _ 0 l2
    · cases List.mem_singleton.mp hd
      exact okS_dI [t.q, t.d] 0 (by show 2 ≤ 1000; decide)
theorem okS_X {ws : List Str} {us : List Str} (h : ws.length ≤ 5) (h' : us.length ≤ 8) : okS 4 (.list [.list (ws.map Dat.str), .list (us.map Dat.str)]) = true := by
  refine okS_l (by show 2 ≤ 1000; decide) fun d hd => ?_
  have st : ∀ l : List Str, l.length ≤ 8 → okS 3 (.list (l.map Dat.str)) = true := fun l hl => okS_l (by rw [List.length_map]; omega) fun d hd => by
    obtain ⟨i, _, rfl⟩ := List.mem_map.mp hd
    rfl
  rcases List.mem_cons.mp hd with rfl | hd
  · exact st ws (by omega)
  · rcases List.mem_cons.mp hd with rfl | hd
    · exact st us h'
    · cases hd
theorem kd_pw {P : Program} {w : World} {K : PySem.W.Frag} {mg : Str → Option Value} {D : Addr} {n : Nat} {t0 t1 t2 u0 u1 u2 : Tok} {h0 h1 h2 : Int} (hm : mg "PIECES_WRITTEN" = some (.ref D))
    (hl : K.lookup D = some ⟨.type "dict", none, .dict #[⟨h0, .str "" t0, .int 1 u0⟩, ⟨h1, .str "2" t1, .int 2 u1⟩, ⟨h2, .str "3" t2, .int 3 u2⟩] n, #[]⟩) (e0 : h0 = hashStr w "") (e1 : h1 = hashStr w "2") (e2 : h2 = hashStr w "3") (ns : (D == sysModules) = false) : KD P w K mg "PIECES_WRITTEN" D kvPW := by
  refine ⟨hm, ns, fun h X => ⟨[(.inr "", .int 1 u0), (.inr "2", .int 2 u1), (.inr "3", .int 3 u2)], .cons ⟨rfl, _, rfl⟩ (.cons ⟨rfl, _, rfl⟩ (.cons ⟨rfl, _, rfl⟩ .nil)), ?_⟩⟩
  refine ⟨_, _, _, X _ _ hl, ⟨rfl, rfl, rfl⟩, rfl, ?_, .cons (mixKind_str ..) rfl (.cons (mixKind_str ..) rfl (.cons (mixKind_str ..) rfl .nil)), (by decide : ([.inr "", .inr "2", .inr "3"] : List L2.Key).Nodup)⟩
  intro e he
  have he' : e ∈ [(⟨h0, .str "" t0, .int 1 u0⟩ : DictEntry), ⟨h1, .str "2" t1, .int 2 u1⟩, ⟨h2, .str "3" t2, .int 3 u2⟩] := Array.mem_toList_iff.mpr he
  rcases List.mem_cons.mp he' with rfl | he'
  · exact ⟨.inr "", mixKind_str .., e0⟩
  rcases List.mem_cons.mp he' with rfl | he'
  · exact ⟨.inr "2", mixKind_str .., e1⟩
  · cases List.mem_singleton.mp he'
    exact ⟨.inr "3", mixKind_str .., e2⟩
def t_law (K : PySem.W.Frag) : TS := (tSeq (tAsg (tCall (spVessel K) [] E0 (tCons (tVar 0) tNil)) (gName 1))
  (tSeq (tAsg (tCB (rListOf K) (tCons (tOp (rIxT K) (tVar 1) (tC (.int 0))) tNil)) (gName 2))
  (tSeq (tAsg (tComp (iTup K (tOp (rIxT K) (tVar 1) (tC (.int 1)))) (tCall (spTurnTL K) [] E0 (tCons (tVar 3) (tCons (tVar 0) tNil)))) (gName 3))
  (tSeq (tAsg (tLst (tCons (tCB (rListOf K) (tCons (tVar 2) tNil)) (tCons (tCB (rListOf K) (tCons (tVar 3) tNil)) tNil))) (gName 4))
  (tSeq (tFor (iRng1 (tCons (tC (.int 2)) tNil)) (gName 5)
  (tSeq (tIfS (tNot (tB (tCall (spSame K 4) [] E0 (tCons (tCall (spRead K) [] E0 (tCons (tOp (rIxL K) (tVar 4) (tC (.int 0))) (tCons (tOp (rIxL K) (tVar 4) (tC (.int 1))) tNil))) (tCons (tVar 1) tNil)))))
  (tRet (tC (.bl false)))
  tNext)
  (tIfS (tNot (tB (tCall (spSame K 4) [] E0 (tCons (tCall (spRead K) [] E0 (tCons (tOp (rIxL K) (tVar 4) (tC (.int 0))) (tCons (tRevL K (tVar 3) (tUn (rU fun i => .int (-i)) (tC (.int 1)))) tNil))) (tCons (tTup (tCons (tOp (rIxT K) (tVar 1) (tC (.int 0))) (tCons (tRevT K (tOp (rIxT K) (tVar 1) (tC (.int 1))) (tUn (rU fun i => .int (-i)) (tC (.int 1)))) tNil))) tNil)))))
  (tRet (tC (.bl false)))
  tNext)))
  (tRet (tCall (spSame K 4) [] E0 (tCons (tVar 4) (tCons (tLst (tCons (tVar 2) (tCons (tVar 3) tNil))) tNil)))))))))
theorem rd_law {K : PySem.W.Frag} {vs : List V} {H : Hp} {Q : VK} {E : XK} (h : spLaw K vs H Q E) : t_law K (ends Q) (L2.start ["_law_script", "_law_vessel_here", "_law_words_here", "_law_texts", "_law_handed", "_law_k"] vs) H := by
  obtain ⟨a, ns, rfl, hS, hl, k⟩ := h
  show t_law K (ends Q) [some (.ref a), none, none, none, none, none] H
  unfold t_law
  walk_at "rd"
  refine ⟨a, ns, rfl, hS, fun p H1 ws ts S1 vo rv => ?_⟩
  obtain ⟨p', v1, v2, e0, hp, r1, r2⟩ := dV_at rv
  cases e0
  obtain ⟨b1, hv1, hb1⟩ := dS_at r1
  cases hv1
  obtain ⟨b, xs, rfl, hb, rx⟩ := r2.tup_at
  have tv := ves_tv vo
  have vr := ves_rev vo
  have w5 := vo.w5
  have t8 := tv.2.1
  walk_at "rd"
  refine k_ixT (SqT.of hp) (v := .ref b1) rfl ?_
  walk_at "rd"
  refine k_listT (SqT.of hb1) fun w nw => ?_
  have S2 := same_new nw (.lst (ws.map V.str))
  have hw : upd H1 w (.lst (ws.map V.str)) w = some (.lst (ws.map V.str)) := upd_same
  have hp2 := S2 _ _ hp
  have hb2 := S2 _ _ hb
  have rx2 := rx.same S2
  have rv2 := rv.same S2
  generalize upd H1 w (.lst (ws.map V.str)) = H2 at S2 hw hp2 hb2 rx2 rv2 ⊢
  walk_at "rd"
  refine k_ixT (SqT.of hp2) (v := .ref b) rfl ?_
  refine k_rtC (SqT.of hb2) ?_
  refine texts_at tv hb2 rx2 (fun H3 z t Q' S3 rz ot q => ?_) fun l H3 A3 => ?_
  · walk_at "rd"
    exact ⟨w, z, ws, t, rfl, S3 _ _ hw, rz, tv.1, ot, q⟩
  have hl3 := AccZ.strs A3
  have S3 := A3.same
  have hw3 := S3 _ _ hw
  have rv3 := rv2.same S3
  have ul : (ts.map (turnT ws)).length ≤ 8 := by rw [List.length_map]; exact t8
  clear A3
  walk_at "rd"
  refine k_listL (SqL.of hw3) fun g1 ng1 => ?_
  have T1 := same_new ng1 (.lst (ws.map V.str))
  have hg1 : upd H3 g1 (.lst (ws.map V.str)) g1 = some (.lst (ws.map V.str)) := upd_same
  have hw4 := T1 _ _ hw3
  have hl4 := T1 _ _ hl3
  have rv4 := rv3.same T1
  generalize upd H3 g1 (.lst (ws.map V.str)) = H4 at T1 hg1 hw4 hl4 rv4 ⊢
  walk_at "rd"
  refine k_listL (SqL.of hl4) fun g2 ng2 => ?_
  have T2 := same_new ng2 (.lst ((ts.map (turnT ws)).map V.str))
  have hg2 : upd H4 g2 (.lst ((ts.map (turnT ws)).map V.str)) g2 = some (.lst ((ts.map (turnT ws)).map V.str)) := upd_same
  have hw5 := T2 _ _ hw4
  have hl5 := T2 _ _ hl4
  have hg15 := T2 _ _ hg1
  have rv5 := rv4.same T2
  generalize upd H4 g2 (.lst ((ts.map (turnT ws)).map V.str)) = H5 at T2 hg2 hw5 hl5 hg15 rv5 ⊢
  walk_at "rd"
  refine ⟨by show 2 ≤ sizeLine; decide, fun m nm => ?_⟩
  have T3 := same_new nm (.lst [V.ref g1, .ref g2])
  have hm : upd H5 m (.lst [V.ref g1, .ref g2]) m = some (.lst [V.ref g1, .ref g2]) := upd_same
  have hw6 := T3 _ _ hw5
  have hl6 := T3 _ _ hl5
  have hg16 := T3 _ _ hg15
  have hg26 := T3 _ _ hg2
  have rv6 := rv5.same T3
  generalize upd H5 m (.lst [V.ref g1, .ref g2]) = H6 at T3 hm hw6 hl6 hg16 hg26 rv6 ⊢
  walk_at "rd"
  have okV := okS_V vo
  have okR := okS_V vr
  refine fat_range (fun i σ H7 => Same H6 H7 ∧ ∃ u : Option V, σ = [some (.ref a), some (.ref p), some (.ref w), some (.ref l), some (.ref m), u]) ⟨Same.refl _, none, rfl⟩ ?_ ?_
  · rintro i σ H7 hi ⟨S7, u, rfl⟩
    have hm7 := S7 _ _ hm
    walk_at "rd"
    refine k_ixL (SqL.of hm7) (v := .ref g1) rfl ?_
    walk_at "rd"
    refine k_ixL (SqL.of hm7) (v := .ref g2) rfl ?_
    walk_at "rd"
    refine ⟨g1, g2, ws, ts, rfl, SqL.of (S7 _ _ hg16), SqL.of (S7 _ _ hg26), vo, fun q H8 S8 rq => ?_⟩
    walk_at "rd"
    refine ⟨.ref q, .ref p, _, _, rfl, rq.a, ((rv6.same S7).same S8).a, okV, fun _ => ?_, fun z => absurd rfl z⟩
    walk_at "rd"
    have S68 := S7.trans S8
    refine k_ixL (SqL.of (S68 _ _ hm)) (v := .ref g1) rfl ?_
    walk_at "rd"
    refine k_revL ?_
    walk_at "rd"
    refine ⟨l, _, rfl, rfl, SqL.of (S68 _ _ hl6), fun r nr => ?_⟩
    have S9 := same_new nr (.lst ((ts.map (turnT ws)).map V.str).reverse)
    have hr : upd H8 r (.lst ((ts.map (turnT ws)).map V.str).reverse) r = some (.lst ((ts.reverse.map (turnT ws)).map V.str)) := by rw [upd_same, List.map_reverse, List.map_reverse]
    have S69 := S68.trans S9
    generalize upd H8 r (.lst ((ts.map (turnT ws)).map V.str).reverse) = H9 at S9 hr S69 ⊢
    walk_at "rd"
    refine ⟨g1, r, ws, ts.reverse, rfl, SqL.of (S69 _ _ hg16), SqL.of hr, vr, fun q' H10 S10 rq' => ?_⟩
    have S610 := S69.trans S10
    have rv10 := rv6.same S610
    obtain ⟨p'', y1, y2, e0, hp10, z1, z2⟩ := dV_at rv10
    cases e0
    obtain ⟨c, ys, rfl, hc, ry⟩ := z2.tup_at
    walk_at "rd"
    refine k_ixT (SqT.of hp10) (v := y1) rfl ?_
    walk_at "rd"
    refine k_ixT (SqT.of hp10) (v := .ref c) rfl ?_
    walk_at "rd"
    refine ⟨c, ys, rfl, rfl, SqT.of hc, fun e ne => ?_⟩
    have S11 := same_new ne (.tup ys.reverse)
    have re : Rz K (upd H10 e (.tup ys.reverse)) (.ref e) (.tuple (ts.reverse.map dT)) := .tup upd_same (by rw [List.map_reverse]; exact (ry.same S11).reverse)
    have z11 := z1.same S11
    have rq11 := rq'.same S11
    generalize upd H10 e (.tup ys.reverse) = H11 at S11 re z11 rq11 ⊢
    walk_at "rd"
    refine ⟨by show 2 ≤ sizeLine; decide, fun o no => ?_⟩
    have S12 := same_new no (.tup [y1, .ref e])
    have ro : Rz K (upd H11 o (.tup [y1, .ref e])) (.ref o) (dV ws ts.reverse) := .tup upd_same (.cons (z11.same S12) (.cons (re.same S12) .nil))
    walk_at "rd"
    refine ⟨.ref q', .ref o, _, _, rfl, (rq11.same S12).a, ro.a, okR, fun _ => ?_, fun z => absurd rfl z⟩
    walk_at "rd"
    exact ⟨((S610.trans S11).trans S12), _, rfl⟩
  · rintro σ H7 ⟨S7, u, rfl⟩
    walk_at "rd"
    refine ⟨by show 2 ≤ sizeLine; decide, fun o no => ?_⟩
    have S8 := same_new no (.lst [V.ref w, .ref l])
    have S68 := S7.trans S8
    walk_at "rd"
    have r1 : Ra K (upd H7 o (.lst [V.ref w, .ref l])) (.ref m) (.list [.list (ws.map Dat.str), .list ((ts.map (turnT ws)).map Dat.str)]) := .lst trivial (S68 _ _ hm) (.cons (.lst trivial (S68 _ _ hg16) (RpL.strs _)) (.cons (.lst trivial (S68 _ _ hg26) (RpL.strs _)) .nil))
    have r2 : Ra K (upd H7 o (.lst [V.ref w, .ref l])) (.ref o) (.list [.list (ws.map Dat.str), .list ((ts.map (turnT ws)).map Dat.str)]) := .lst trivial upd_same (.cons (.lst trivial (S68 _ _ hw6) (RpL.strs _)) (.cons (.lst trivial (S68 _ _ hl6) (RpL.strs _)) .nil))
    refine ⟨.ref m, .ref o, _, _, rfl, r1, r2, okS_X w5 ul, fun _ => ?_, fun z => absurd rfl z⟩
    exact k _
theorem sc_whole : FnScope ["value"] ["value"] (defScope (top 9)) := ⟨rfl, rfl, rfl, by decide +kernel, rfl, by decide +kernel, by decide +kernel⟩
theorem sc_greatest_divisor : FnScope ["one", "two", "rest"] ["one", "two"] (defScope (top 10)) := ⟨rfl, rfl, rfl, by decide +kernel, rfl, by decide +kernel, by decide +kernel⟩
theorem sc_fraction : FnScope ["top", "bottom", "divisor"] ["top", "bottom"] (defScope (top 11)) := ⟨rfl, rfl, rfl, by decide +kernel, rfl, by decide +kernel, by decide +kernel⟩
theorem sc_before : FnScope ["one", "two"] ["one", "two"] (defScope (top 12)) := ⟨rfl, rfl, rfl, by decide +kernel, rfl, by decide +kernel, by decide +kernel⟩
theorem sc_is_word : FnScope ["word"] ["word"] (defScope (top 20)) := ⟨rfl, rfl, rfl, by decide +kernel, rfl, by decide +kernel, by decide +kernel⟩
theorem sc_stuffs_of : FnScope ["words"] ["words"] (defScope (top 21)) := ⟨rfl, rfl, rfl, by decide +kernel, rfl, by decide +kernel, by decide +kernel⟩
theorem sc_is_heap : FnScope ["pieces", "size"] ["pieces", "size"] (defScope (top 22)) := ⟨rfl, rfl, rfl, by decide +kernel, rfl, by decide +kernel, by decide +kernel⟩
theorem sc_turnings_of : FnScope ["rows", "size", "row"] ["rows", "size"] (defScope (top 23)) := ⟨rfl, rfl, rfl, by decide +kernel, rfl, by decide +kernel, by decide +kernel⟩
theorem sc_check_turnings : FnScope ["turnings"] ["turnings"] (defScope (top 24)) := ⟨rfl, rfl, rfl, by decide +kernel, rfl, by decide +kernel, by decide +kernel⟩
theorem sc_heaps_of : FnScope ["turnings", "found", "turning"] ["turnings"] (defScope (top 25)) := ⟨rfl, rfl, rfl, by decide +kernel, rfl, by decide +kernel, by decide +kernel⟩
theorem sc_made : FnScope ["words", "rows", "stuffs", "turnings"] ["words", "rows"] (defScope (top 26)) := ⟨rfl, rfl, rfl, by decide +kernel, rfl, by decide +kernel, by decide +kernel⟩
theorem sc_stuff_text : FnScope ["word", "pieces"] ["word", "pieces"] (defScope (top 29)) := ⟨rfl, rfl, rfl, by decide +kernel, rfl, by decide +kernel, by decide +kernel⟩
theorem sc_heap_text : FnScope ["stuffs", "heap", "parts"] ["stuffs", "heap"] (defScope (top 30)) := ⟨rfl, rfl, rfl, by decide +kernel, rfl, by decide +kernel, by decide +kernel⟩
theorem sc_pace_text : FnScope ["pace", "top", "bottom"] ["pace"] (defScope (top 31)) := ⟨rfl, rfl, rfl, by decide +kernel, rfl, by decide +kernel, by decide +kernel⟩
theorem sc_turning_text : FnScope ["stuffs", "turning", "one", "two", "pace"] ["stuffs", "turning"] (defScope (top 32)) := ⟨rfl, rfl, rfl, by decide +kernel, rfl, by decide +kernel, by decide +kernel⟩
theorem sc_heap_guessed : FnScope ["stuffs", "text", "pieces", "part", "cut"] ["stuffs", "text"] (defScope (top 33)) := ⟨rfl, rfl, rfl, by decide +kernel, rfl, by decide +kernel, by decide +kernel⟩
theorem sc_number_guessed : FnScope ["text"] ["text"] (defScope (top 34)) := ⟨rfl, rfl, rfl, by decide +kernel, rfl, by decide +kernel, by decide +kernel⟩
theorem sc_pace_guessed : FnScope ["text", "cut", "top", "bottom"] ["text"] (defScope (top 35)) := ⟨rfl, rfl, rfl, by decide +kernel, rfl, by decide +kernel, by decide +kernel⟩
theorem sc_turning_read : FnScope ["stuffs", "text", "cut", "rest", "pace", "turning"] ["stuffs", "text"] (defScope (top 36)) := ⟨rfl, rfl, rfl, by decide +kernel, rfl, by decide +kernel, by decide +kernel⟩
theorem sc_read : FnScope ["words", "texts", "stuffs", "rows", "at", "text", "turning"] ["words", "texts"] (defScope (top 37)) := ⟨rfl, rfl, rfl, by decide +kernel, rfl, by decide +kernel, by decide +kernel⟩
theorem sc_law_cell_at : FnScope ["_law_script", "_law_k"] ["_law_script", "_law_k"] (defScope (top 39)) := ⟨rfl, rfl, rfl, by decide +kernel, rfl, by decide +kernel, by decide +kernel⟩
theorem sc_law_mixed : FnScope ["_law_cell", "_law_many", "_law_found", "_law_number", "_law_k"] ["_law_cell", "_law_many"] (defScope (top 40)) := ⟨rfl, rfl, rfl, by decide +kernel, rfl, by decide +kernel, by decide +kernel⟩
theorem sc_law_divisor : FnScope ["_law_one", "_law_other", "_law_rest"] ["_law_one", "_law_other"] (defScope (top 41)) := ⟨rfl, rfl, rfl, by decide +kernel, rfl, by decide +kernel, by decide +kernel⟩
theorem sc_law_lowest : FnScope ["_law_top", "_law_bottom", "_law_share"] ["_law_top", "_law_bottom"] (defScope (top 42)) := ⟨rfl, rfl, rfl, by decide +kernel, rfl, by decide +kernel, by decide +kernel⟩
theorem sc_law_base : FnScope ["_law_cell", "_law_size", "_law_number", "_law_found", "_law_k"] ["_law_cell", "_law_size"] (defScope (top 43)) := ⟨rfl, rfl, rfl, by decide +kernel, rfl, by decide +kernel, by decide +kernel⟩
theorem sc_law_word : FnScope ["_law_base_here", "_law_place", "_law_size", "_law_k", "_law_signs", "_law_other"] ["_law_base_here", "_law_place", "_law_size", "_law_k"] (defScope (top 44)) := ⟨rfl, rfl, rfl, by decide +kernel, rfl, by decide +kernel, by decide +kernel⟩
theorem sc_law_words : FnScope ["_law_script", "_law_at", "_law_many", "_law_cell", "_law_size", "_law_base_here", "_law_words_here", "_law_k", "_law_word_here"] ["_law_script", "_law_at", "_law_many"] (defScope (top 45)) := ⟨rfl, rfl, rfl, by decide +kernel, rfl, by decide +kernel, by decide +kernel⟩
theorem sc_law_heap : FnScope ["_law_number", "_law_many", "_law_most", "_law_found", "_law_k"] ["_law_number", "_law_many", "_law_most"] (defScope (top 46)) := ⟨rfl, rfl, rfl, by decide +kernel, rfl, by decide +kernel, by decide +kernel⟩
theorem sc_law_pool : FnScope ["_law_script", "_law_at", "_law_many", "_law_first", "_law_most", "_law_found", "_law_k", "_law_heap_here"] ["_law_script", "_law_at", "_law_many"] (defScope (top 47)) := ⟨rfl, rfl, rfl, by decide +kernel, rfl, by decide +kernel, by decide +kernel⟩
theorem sc_law_pace : FnScope ["_law_number", "_law_other", "_law_great"] ["_law_number", "_law_other", "_law_great"] (defScope (top 48)) := ⟨rfl, rfl, rfl, by decide +kernel, rfl, by decide +kernel, by decide +kernel⟩
theorem sc_law_turnings : FnScope ["_law_script", "_law_at", "_law_pool_here", "_law_first", "_law_pairs", "_law_found", "_law_k", "_law_xs", "_law_one", "_law_two", "_law_pair", "_law_pace_here"] ["_law_script", "_law_at", "_law_pool_here"] (defScope (top 49)) := ⟨rfl, rfl, rfl, by decide +kernel, rfl, by decide +kernel, by decide +kernel⟩
theorem sc_law_vessel : FnScope ["_law_script", "_law_many", "_law_words_here"] ["_law_script"] (defScope (top 50)) := ⟨rfl, rfl, rfl, by decide +kernel, rfl, by decide +kernel, by decide +kernel⟩
theorem sc_law_same : FnScope ["_law_found", "_law_due", "_law_k"] ["_law_found", "_law_due"] (defScope (top 51)) := ⟨rfl, rfl, rfl, by decide +kernel, rfl, by decide +kernel, by decide +kernel⟩
theorem sc_law_heap_text : FnScope ["_law_words_here", "_law_heap_here", "_law_found", "_law_k"] ["_law_words_here", "_law_heap_here"] (defScope (top 52)) := ⟨rfl, rfl, rfl, by decide +kernel, rfl, by decide +kernel, by decide +kernel⟩
theorem sc_law_turning_text : FnScope ["_law_words_here", "_law_turning", "_law_pace_here", "_law_sides"] ["_law_words_here", "_law_turning"] (defScope (top 53)) := ⟨rfl, rfl, rfl, by decide +kernel, rfl, by decide +kernel, by decide +kernel⟩
theorem sc_law : FnScope ["_law_script", "_law_vessel_here", "_law_words_here", "_law_texts", "_law_handed", "_law_k"] ["_law_script"] (defScope (top 54)) := ⟨rfl, rfl, rfl, by decide +kernel, rfl, by decide +kernel, by decide +kernel⟩
section
variable {P : Program} {w : World} {K : PySem.W.Frag} {mg : Str → Option Value} {base : Heap}
theorem ok_whole {nq : Addr} (G : Cn K mg nq) {pD : Addr} (Tpw : KD P w K mg "PIECES_WRITTEN" pD kvPW) (F : FunAt K mg "whole" (top 9) ["value"]) (B : Blt mg)  : FnC P w K mg base CX0 1 "whole" ["value"] spWhole := by
  refine F.ok sc_whole (fun vs H Q E h => len_whole h) (fun f cdv A outer s H vs Q E hr h => ?_)
  have nd := sc_whole.nd
  have hpo := fun {M A env} => @PassesOwn.never M A env
  have hu := hr.units
  have hu1 := Nat.lt_of_le_of_lt (Nat.add_le_add_left (by decide : 1 ≤ 64) _) hu
  have own : OwnFr (cxOf CX0 P w K mg base ["value"] "whole" (defScope (top 9)) f cdv A outer s H E).nox := ⟨rfl, rfl, rfl⟩
  exact ⟨tWhole K, (pss_one (ps_ret (pe_and (pe_callB call_isi rfl B.isinstance bb_isinstance (pa_cons (pv 0) (pa_cons (pe_bltn rfl B.int bb_int rfl) pa_nil))) (pe_one (pe_not (pe_callB call_isi rfl B.isinstance bb_isinstance (pa_cons (pv 0) (pa_cons (pe_bltn rfl B.bool bb_bool rfl) pa_nil)))))))), (by obtain ⟨i, rfl, k⟩ := h; exact rd_whole k)⟩
theorem ok_greatest_divisor {nq : Addr} (G : Cn K mg nq) {pD : Addr} (Tpw : KD P w K mg "PIECES_WRITTEN" pD kvPW) (F : FunAt K mg "greatest_divisor" (top 10) ["one", "two"]) (B : Blt mg)  : FnC P w K mg base CX0 1 "greatest_divisor" ["one", "two"] spDiv := by
  refine F.ok sc_greatest_divisor (fun vs H Q E h => len_div h) (fun f cdv A outer s H vs Q E hr h => ?_)
  have nd := sc_greatest_divisor.nd
  have hpo := fun {M A env} => @PassesOwn.never M A env
  have hu := hr.units
  have hu1 := Nat.lt_of_le_of_lt (Nat.add_le_add_left (by decide : 1 ≤ 64) _) hu
  have own : OwnFr (cxOf CX0 P w K mg base ["one", "two", "rest"] "greatest_divisor" (defScope (top 10)) f cdv A outer s H E).nox := ⟨rfl, rfl, rfl⟩
  exact ⟨tDiv, (pss_cons (ps_while hpo (pt_cmpR op_ne (pv 1) pe_int (nomark _))
  (pss_cons (ps_set (i := 2) nd rfl (by first | exact Or.inl rfl | exact Or.inr rfl) (pe_op op_modN (pv 0) (pv 1)))
  (pss_cons (ps_set (i := 0) nd rfl (by first | exact Or.inl rfl | exact Or.inr rfl) (pv 1))
  (pss_one (ps_set (i := 1) nd rfl (by first | exact Or.inl rfl | exact Or.inr rfl) (pv 2))))))
  (pss_one (ps_ret (pe_callB call_abs rfl B.abs bb_abs (pa_cons (pv 0) pa_nil))))), (by obtain ⟨a, b, rfl, k⟩ := h; exact rd_div a b H _ k)⟩
theorem ok_fraction {nq : Addr} (G : Cn K mg nq) {pD : Addr} (Tpw : KD P w K mg "PIECES_WRITTEN" pD kvPW) (F : FunAt K mg "fraction" (top 11) ["top", "bottom"]) (B : Blt mg) (c_greatest_divisor : FnC P w K mg base CX0 1 "greatest_divisor" ["one", "two"] spDiv) (c_whole : FnC P w K mg base CX0 1 "whole" ["value"] spWhole) : FnC P w K mg base CX0 2 "fraction" ["top", "bottom"] (spFracQ K) := by
  refine F.ok sc_fraction (fun vs H Q E h => len_fracQ h) (fun f cdv A outer s H vs Q E hr h => ?_)
  have nd := sc_fraction.nd
  have hpo := fun {M A env} => @PassesOwn.never M A env
  have hu := hr.units
  have hu1 := Nat.lt_of_le_of_lt (Nat.add_le_add_left (by decide : 1 ≤ 64) _) hu
  have own : OwnFr (cxOf CX0 P w K mg base ["top", "bottom", "divisor"] "fraction" (defScope (top 11)) f cdv A outer s H E).nox := ⟨rfl, rfl, rfl⟩
  exact ⟨t_fracQ K, (pss_cons (ps_if (PW.pt (pw_or (pt_not (pt_val (pe_callF c_whole hr rfl (pa_cons (pv 0) pa_nil)))) (pw_or1 (pt_not (pt_val (pe_callF c_whole hr rfl (pa_cons (pv 1) pa_nil)))))))
  pss_never
  pss_nil)
  (pss_cons (ps_if (pt_cmpR op_eq (pv 1) pe_int (nomark _))
  pss_never
  pss_nil)
  (pss_cons (ps_set (i := 2) nd rfl (by first | exact Or.inl rfl | exact Or.inr rfl) (pe_callF c_greatest_divisor hr rfl (pa_cons (pv 0) (pa_cons (pv 1) pa_nil))))
  (pss_cons (ps_if (pt_cmpR op_lt (pv 1) pe_int (nomark _))
  (pss_one (ps_set (i := 2) nd rfl (by first | exact Or.inl rfl | exact Or.inr rfl) (pe_un un_neg (pv 2))))
  pss_nil)
  (pss_one (ps_ret (pe_tup (pa_cons (pe_op op_fdivW (pv 0) (pv 2)) (pa_cons (pe_op op_fdivW (pv 1) (pv 2)) pa_nil))))))))), (rd_fracQ rfl h)⟩
theorem ok_before {nq : Addr} (G : Cn K mg nq) {pD : Addr} (Tpw : KD P w K mg "PIECES_WRITTEN" pD kvPW) (F : FunAt K mg "before" (top 12) ["one", "two"]) (B : Blt mg)  : FnC P w K mg base CX0 1 "before" ["one", "two"] (spBefore K) := by
  refine F.ok sc_before (fun vs H Q E h => len_before h) (fun f cdv A outer s H vs Q E hr h => ?_)
  have nd := sc_before.nd
  have hpo := fun {M A env} => @PassesOwn.never M A env
  have hu := hr.units
  have hu1 := Nat.lt_of_le_of_lt (Nat.add_le_add_left (by decide : 1 ≤ 64) _) hu
  have own : OwnFr (cxOf CX0 P w K mg base ["one", "two"] "before" (defScope (top 12)) f cdv A outer s H E).nox := ⟨rfl, rfl, rfl⟩
  exact ⟨t_before K, (pss_one (ps_ret (pe_cmpR op_lt (pe_op op_mulW (pe_ix ix_tup (pv 0) pe_int (fun _ _ => rfl)) (pe_ix ix_tup (pv 1) pe_int (fun _ _ => rfl))) (pe_op op_mulW (pe_ix ix_tup (pv 1) pe_int (fun _ _ => rfl)) (pe_ix ix_tup (pv 0) pe_int (fun _ _ => rfl))) (nomark _)))), (rd_before rfl h)⟩
theorem ok_is_word {nq : Addr} (G : Cn K mg nq) {pD : Addr} (Tpw : KD P w K mg "PIECES_WRITTEN" pD kvPW) (F : FunAt K mg "is_word" (top 20) ["word"]) (B : Blt mg)  : FnC P w K mg base CX0 1 "is_word" ["word"] (spIsWord K) := by
  refine F.ok sc_is_word (fun vs H Q E h => len_isWord h) (fun f cdv A outer s H vs Q E hr h => ?_)
  have nd := sc_is_word.nd
  have hpo := fun {M A env} => @PassesOwn.never M A env
  have hu := hr.units
  have hu1 := Nat.lt_of_le_of_lt (Nat.add_le_add_left (by decide : 1 ≤ 64) _) hu
  have own : OwnFr (cxOf CX0 P w K mg base ["word"] "is_word" (defScope (top 20)) f cdv A outer s H E).nox := ⟨rfl, rfl, rfl⟩
  exact ⟨t_isWord K, (pss_cons (ps_if (PW.pt (pw_or (pt_not (pt_val (pe_callB call_isi rfl B.isinstance bb_isinstance (pa_cons (pv 0) (pa_cons (pe_bltn rfl B.str bb_str rfl) pa_nil))))) (pw_or1 (pt_not (pt_chain op_le op_le pe_int (pe_callB call_len_str rfl B.len bb_len (pa_cons (pv 0) pa_nil)) (pe_globI rfl G.MOST_SIGNS))))))
  (pss_one (ps_ret pe_bl))
  pss_nil)
  (pss_one (ps_ret (pe_callB (call_all rfl) rfl B.all bb_all (pa_cons (pe_lc (M := ["word"]) (by show CompS (defScope (top 20)) ["word"] ["word"] _ _; exact ⟨rfl, by decide +kernel, by decide +kernel, by decide +kernel, by decide +kernel, rfl, by decide +kernel, by decide +kernel, by decide +kernel⟩) nd rfl (pi_str (pv 0)) (fun _ _ _ _ _ => (pe_chain op_le_str op_le_str pe_str (pv 0) pe_str))) pa_nil))))), (rd_isWord rfl h)⟩
theorem ok_stuffs_of {nq : Addr} (G : Cn K mg nq) {pD : Addr} (Tpw : KD P w K mg "PIECES_WRITTEN" pD kvPW) (F : FunAt K mg "stuffs_of" (top 21) ["words"]) (B : Blt mg) (c_is_word : FnC P w K mg base CX0 1 "is_word" ["word"] (spIsWord K)) : FnC P w K mg base CX0 2 "stuffs_of" ["words"] (spStuffs K) := by
  refine F.ok sc_stuffs_of (fun vs H Q E h => len_stuffs h) (fun f cdv A outer s H vs Q E hr h => ?_)
  have nd := sc_stuffs_of.nd
  have hpo := fun {M A env} => @PassesOwn.never M A env
  have hu := hr.units
  have hu1 := Nat.lt_of_le_of_lt (Nat.add_le_add_left (by decide : 1 ≤ 64) _) hu
  have own : OwnFr (cxOf CX0 P w K mg base ["words"] "stuffs_of" (defScope (top 21)) f cdv A outer s H E).nox := ⟨rfl, rfl, rfl⟩
  exact ⟨t_stuffs K, (pss_cons (ps_if (pt_not (pt_chain op_le op_le pe_int (pe_callB call_len_seq rfl B.len bb_len (pa_cons (pv 0) pa_nil)) (pe_globI rfl G.MOST_STUFFS)))
  pss_never
  pss_nil)
  (pss_cons (ps_if (pt_not (pt_val (pe_callB (call_all rfl) rfl B.all bb_all (pa_cons (pe_lc (M := ["words"]) (by show CompS (defScope (top 21)) ["words"] ["words"] _ _; exact ⟨rfl, by decide +kernel, by decide +kernel, by decide +kernel, by decide +kernel, rfl, by decide +kernel, by decide +kernel, by decide +kernel⟩) nd rfl (pi_seq (pv 0)) (fun _ _ _ _ _ => (pe_callF c_is_word hr rfl (pa_cons (pv 0) pa_nil)))) pa_nil))))
  pss_never
  pss_nil)
  (pss_cons (ps_if (pt_cmpR op_lt (pe_lenset (set_texts rfl) rfl B.len rfl B.set (pv 0)) (pe_callB call_len_seq rfl B.len bb_len (pa_cons (pv 0) pa_nil)) (nomark _))
  pss_never
  pss_nil)
  (pss_one (ps_ret (pe_callTy call_tuple_of rfl B.tuple bb_tuple (pa_cons (pv 0) pa_nil))))))), (rd_stuffs rfl h)⟩
theorem ok_is_heap {nq : Addr} (G : Cn K mg nq) {pD : Addr} (Tpw : KD P w K mg "PIECES_WRITTEN" pD kvPW) (F : FunAt K mg "is_heap" (top 22) ["pieces", "size"]) (B : Blt mg) (c_whole : FnC P w K mg base CX0 1 "whole" ["value"] spWhole) : FnC P w K mg base CX0 2 "is_heap" ["pieces", "size"] (spIsHeap K) := by
  refine F.ok sc_is_heap (fun vs H Q E h => len_isHeap h) (fun f cdv A outer s H vs Q E hr h => ?_)
  have nd := sc_is_heap.nd
  have hpo := fun {M A env} => @PassesOwn.never M A env
  have hu := hr.units
  have hu1 := Nat.lt_of_le_of_lt (Nat.add_le_add_left (by decide : 1 ≤ 64) _) hu
  have own : OwnFr (cxOf CX0 P w K mg base ["pieces", "size"] "is_heap" (defScope (top 22)) f cdv A outer s H E).nox := ⟨rfl, rfl, rfl⟩
  exact ⟨t_isHeap K, (pss_cons (ps_if (PW.pt (pw_or (pt_not (pt_val (pe_isLT rfl B.isinstance rfl B.list rfl B.tuple (pv 0)))) (pw_or1 (pt_cmpR op_ne (pe_callB call_len_seq rfl B.len bb_len (pa_cons (pv 0) pa_nil)) (pv 1) (nomark _)))))
  (pss_one (ps_ret pe_bl))
  pss_nil)
  (pss_one (ps_ret (pe_callB (call_all rfl) rfl B.all bb_all (pa_cons (pe_lc (M := ["pieces", "size"]) (by show CompS (defScope (top 22)) ["pieces", "size"] ["pieces", "size"] _ _; exact ⟨rfl, by decide +kernel, by decide +kernel, by decide +kernel, by decide +kernel, rfl, by decide +kernel, by decide +kernel, by decide +kernel⟩) nd rfl (pi_seq (pv 0)) (fun _ _ _ _ _ => (pe_and (pe_callF c_whole hr rfl (pa_cons (pv 0) pa_nil)) (pe_one (pe_chain op_le op_le pe_int (pv 0) (pe_globI rfl G.MOST_PIECES)))))) pa_nil))))), (rd_isHeap rfl h)⟩
theorem ok_turnings_of {nq : Addr} (G : Cn K mg nq) {pD : Addr} (Tpw : KD P w K mg "PIECES_WRITTEN" pD kvPW) (F : FunAt K mg "turnings_of" (top 23) ["rows", "size"]) (B : Blt mg) (c_before : FnC P w K mg base CX0 2 "before" ["one", "two"] (spBefore K)) (c_is_heap : FnC P w K mg base CX0 2 "is_heap" ["pieces", "size"] (spIsHeap K)) : FnC P w K mg base CX0 3 "turnings_of" ["rows", "size"] (spTurnings K) := by
  refine F.ok sc_turnings_of (fun vs H Q E h => len_turnings h) (fun f cdv A outer s H vs Q E hr h => ?_)
  have nd := sc_turnings_of.nd
  have hpo := fun {M A env} => @PassesOwn.never M A env
  have hu := hr.units
  have hu1 := Nat.lt_of_le_of_lt (Nat.add_le_add_left (by decide : 1 ≤ 64) _) hu
  have own : OwnFr (cxOf CX0 P w K mg base ["rows", "size", "row"] "turnings_of" (defScope (top 23)) f cdv A outer s H E).nox := ⟨rfl, rfl, rfl⟩
  exact ⟨t_turnings K nq, (pss_cons (ps_for hpo rfl (pi_list (pv 0)) (pg_name (i := 2) nd rfl (by first | exact Or.inl rfl | exact Or.inr rfl))
  (pss_one (ps_if (PW.pt (pw_or (pt_not (pt_val (pe_callF c_is_heap hr rfl (pa_cons (pe_ix ix_tup (pv 2) pe_int (fun _ _ => rfl)) (pa_cons (pv 1) pa_nil))))) (pw_or1 (pt_not (pt_val (pe_callF c_is_heap hr rfl (pa_cons (pe_ix ix_tup (pv 2) pe_int (fun _ _ => rfl)) (pa_cons (pv 1) pa_nil))))))))
  pss_never
  pss_nil)))
  (pss_cons (ps_for hpo rfl (pi_list (pv 0)) (pg_name (i := 2) nd rfl (by first | exact Or.inl rfl | exact Or.inr rfl))
  (pss_one (ps_if (pt_not (pt_val (pe_callF c_before hr rfl (pa_cons (pe_glob rfl G.NOUGHT rfl) (pa_cons (pe_ix ix_tup (pv 2) pe_int (fun _ _ => rfl)) pa_nil)))))
  pss_never
  pss_nil)))
  (pss_one (ps_ret (pe_callTy call_tuple_of rfl B.tuple bb_tuple (pa_cons (pe_lc (M := ["rows", "size", "#row"]) (by show CompS (defScope (top 23)) ["rows", "size", "row"] ["rows", "size", "#row"] _ _; exact ⟨rfl, by decide +kernel, by decide +kernel, by decide +kernel, by decide +kernel, rfl, by decide +kernel, by decide +kernel, by decide +kernel⟩) nd rfl (pi_list (pv 0)) (fun _ _ _ _ _ => (pe_tup (pa_cons (pe_callTy call_tuple_of rfl B.tuple bb_tuple (pa_cons (pe_ix ix_tup (pv 0) pe_int (fun _ _ => rfl)) pa_nil)) (pa_cons (pe_callTy call_tuple_of rfl B.tuple bb_tuple (pa_cons (pe_ix ix_tup (pv 0) pe_int (fun _ _ => rfl)) pa_nil)) (pa_cons (pe_callTy call_tuple_of rfl B.tuple bb_tuple (pa_cons (pe_ix ix_tup (pv 0) pe_int (fun _ _ => rfl)) pa_nil)) pa_nil)))))) pa_nil)))))), (rd_turnings G rfl h)⟩
theorem ok_check_turnings {nq : Addr} (G : Cn K mg nq) {pD : Addr} (Tpw : KD P w K mg "PIECES_WRITTEN" pD kvPW) (F : FunAt K mg "check_turnings" (top 24) ["turnings"]) (B : Blt mg) (c_heaps_of : FnC P w K mg base CX0 1 "heaps_of" ["turnings"] (spHeapsOf K)) : FnC P w K mg base CX0 2 "check_turnings" ["turnings"] (spCheck K) := by
  refine F.ok sc_check_turnings (fun vs H Q E h => len_check h) (fun f cdv A outer s H vs Q E hr h => ?_)
  have nd := sc_check_turnings.nd
  have hpo := fun {M A env} => @PassesOwn.never M A env
  have hu := hr.units
  have hu1 := Nat.lt_of_le_of_lt (Nat.add_le_add_left (by decide : 1 ≤ 64) _) hu
  have own : OwnFr (cxOf CX0 P w K mg base ["turnings"] "check_turnings" (defScope (top 24)) f cdv A outer s H E).nox := ⟨rfl, rfl, rfl⟩
  exact ⟨t_check K, (pss_cons (ps_if (pt_not (pt_chain op_le op_le pe_int (pe_callB call_len_seq rfl B.len bb_len (pa_cons (pv 0) pa_nil)) (pe_globI rfl G.MOST_TURNINGS)))
  pss_never
  pss_nil)
  (pss_cons (ps_if (pt_val (pe_callB (call_any rfl) rfl B.any bb_any (pa_cons (pe_lc (M := ["turnings"]) (by show CompS (defScope (top 24)) ["turnings"] ["turnings"] _ _; exact ⟨rfl, by decide +kernel, by decide +kernel, by decide +kernel, by decide +kernel, rfl, by decide +kernel, by decide +kernel, by decide +kernel⟩) nd rfl (pi_tup (pv 0)) (fun _ _ _ _ _ => (pe_cmpR (op_eqD hu) (pe_ix ix_tup (pv 0) pe_int (fun _ _ => rfl)) (pe_ix ix_tup (pv 0) pe_int (fun _ _ => rfl)) (nomark _)))) pa_nil)))
  pss_never
  pss_nil)
  (pss_cons (ps_if (pt_cmpR op_lt (pe_lenset (set_tuples rfl hu) rfl B.len rfl B.set (pe_lc (M := ["turnings"]) (by show CompS (defScope (top 24)) ["turnings"] ["turnings"] _ _; exact ⟨rfl, by decide +kernel, by decide +kernel, by decide +kernel, by decide +kernel, rfl, by decide +kernel, by decide +kernel, by decide +kernel⟩) nd rfl (pi_tup (pv 0)) (fun _ _ _ _ _ => (pe_slice sl_tup (pv 0) po_none (po_some pe_int))))) (pe_callB call_len_seq rfl B.len bb_len (pa_cons (pv 0) pa_nil)) (nomark _))
  pss_never
  pss_nil)
  (pss_one (ps_if (pt_cmpR op_gt (pe_callB call_len_seq rfl B.len bb_len (pa_cons (pe_callF c_heaps_of hr rfl (pa_cons (pv 0) pa_nil)) pa_nil)) (pe_globI rfl G.MOST_HEAPS) (nomark _))
  pss_never
  pss_nil))))), (rd_check rfl h)⟩
theorem ok_heaps_of {nq : Addr} (G : Cn K mg nq) {pD : Addr} (Tpw : KD P w K mg "PIECES_WRITTEN" pD kvPW) (F : FunAt K mg "heaps_of" (top 25) ["turnings"]) (B : Blt mg)  : FnC P w K mg base CX0 1 "heaps_of" ["turnings"] (spHeapsOf K) := by
  refine F.ok sc_heaps_of (fun vs H Q E h => len_heapsOf h) (fun f cdv A outer s H vs Q E hr h => ?_)
  have nd := sc_heaps_of.nd
  have hpo := fun {M A env} => @PassesOwn.never M A env
  have hu := hr.units
  have hu1 := Nat.lt_of_le_of_lt (Nat.add_le_add_left (by decide : 1 ≤ 64) _) hu
  have own : OwnFr (cxOf CX0 P w K mg base ["turnings", "found", "turning"] "heaps_of" (defScope (top 25)) f cdv A outer s H E).nox := ⟨rfl, rfl, rfl⟩
  exact ⟨t_heapsOf K, (pss_cons (ps_set (i := 1) nd rfl (by first | exact Or.inl rfl | exact Or.inr rfl) pe_dnewT)
  (pss_cons (ps_for hpo rfl (pi_tup (pv 0)) (pg_name (i := 2) nd rfl (by first | exact Or.inl rfl | exact Or.inr rfl))
  (pss_cons (ps_dput hu1 (pv 1) (pe_ix ix_tup (pv 2) pe_int (fun _ _ => rfl)) pe_bl rfl)
  (pss_one (ps_dput hu1 (pv 1) (pe_ix ix_tup (pv 2) pe_int (fun _ _ => rfl)) pe_bl rfl))))
  (pss_one (ps_ret (pe_callTy (call_listD rfl) rfl B.list bb_list (pa_cons (pv 1) pa_nil)))))), (rd_heapsOf rfl h)⟩
theorem ok_made {nq : Addr} (G : Cn K mg nq) {pD : Addr} (Tpw : KD P w K mg "PIECES_WRITTEN" pD kvPW) (F : FunAt K mg "made" (top 26) ["words", "rows"]) (B : Blt mg) (c_stuffs_of : FnC P w K mg base CX0 3 "stuffs_of" ["words"] (spStuffs K)) (c_turnings_of : FnC P w K mg base CX0 3 "turnings_of" ["rows", "size"] (spTurnings K)) (c_check_turnings : FnC P w K mg base CX0 3 "check_turnings" ["turnings"] (spCheck K)) : FnC P w K mg base CX0 4 "made" ["words", "rows"] (spMade K) := by
  refine F.ok sc_made (fun vs H Q E h => len_made h) (fun f cdv A outer s H vs Q E hr h => ?_)
  have nd := sc_made.nd
  have hpo := fun {M A env} => @PassesOwn.never M A env
  have hu := hr.units
  have hu1 := Nat.lt_of_le_of_lt (Nat.add_le_add_left (by decide : 1 ≤ 64) _) hu
  have own : OwnFr (cxOf CX0 P w K mg base ["words", "rows", "stuffs", "turnings"] "made" (defScope (top 26)) f cdv A outer s H E).nox := ⟨rfl, rfl, rfl⟩
  exact ⟨t_made K, (pss_cons (ps_set (i := 2) nd rfl (by first | exact Or.inl rfl | exact Or.inr rfl) (pe_callF c_stuffs_of hr rfl (pa_cons (pv 0) pa_nil)))
  (pss_cons (ps_set (i := 3) nd rfl (by first | exact Or.inl rfl | exact Or.inr rfl) (pe_callF c_turnings_of hr rfl (pa_cons (pv 1) (pa_cons (pe_callB call_len_seq rfl B.len bb_len (pa_cons (pv 2) pa_nil)) pa_nil))))
  (pss_cons (ps_expr (pe_callF c_check_turnings hr rfl (pa_cons (pv 3) pa_nil)))
  (pss_one (ps_ret (pe_tup (pa_cons (pv 2) (pa_cons (pv 3) pa_nil)))))))), (rd_made rfl h)⟩
theorem ok_stuff_text {nq : Addr} (G : Cn K mg nq) {pD : Addr} (Tpw : KD P w K mg "PIECES_WRITTEN" pD kvPW) (F : FunAt K mg "stuff_text" (top 29) ["word", "pieces"]) (B : Blt mg)  : FnC P w K mg base CX0 1 "stuff_text" ["word", "pieces"] spStuffT := by
  refine F.ok sc_stuff_text (fun vs H Q E h => len_stuffT h) (fun f cdv A outer s H vs Q E hr h => ?_)
  have nd := sc_stuff_text.nd
  have hpo := fun {M A env} => @PassesOwn.never M A env
  have hu := hr.units
  have hu1 := Nat.lt_of_le_of_lt (Nat.add_le_add_left (by decide : 1 ≤ 64) _) hu
  have own : OwnFr (cxOf CX0 P w K mg base ["word", "pieces"] "stuff_text" (defScope (top 29)) f cdv A outer s H E).nox := ⟨rfl, rfl, rfl⟩
  exact ⟨t_stuffT K, (pss_cons (ps_if (pt_cmpR op_eq (pv 1) pe_int (nomark _))
  (pss_one (ps_ret (pv 0)))
  pss_nil)
  (pss_one (ps_ret (pe_jn (PJ.cons (pe_fmtI (pv 1)) (PJ.cons pe_str (PJ.cons (pe_fmtS (pv 0)) PJ.nil))))))), (rd_stuffT rfl h)⟩
theorem ok_heap_text {nq : Addr} (G : Cn K mg nq) {pD : Addr} (Tpw : KD P w K mg "PIECES_WRITTEN" pD kvPW) (F : FunAt K mg "heap_text" (top 30) ["stuffs", "heap"]) (B : Blt mg) (c_stuff_text : FnC P w K mg base CX0 1 "stuff_text" ["word", "pieces"] spStuffT) : FnC P w K mg base CX0 2 "heap_text" ["stuffs", "heap"] (spHeapT K) := by
  refine F.ok sc_heap_text (fun vs H Q E h => len_heapT h) (fun f cdv A outer s H vs Q E hr h => ?_)
  have nd := sc_heap_text.nd
  have hpo := fun {M A env} => @PassesOwn.never M A env
  have hu := hr.units
  have hu1 := Nat.lt_of_le_of_lt (Nat.add_le_add_left (by decide : 1 ≤ 64) _) hu
  have own : OwnFr (cxOf CX0 P w K mg base ["stuffs", "heap", "parts"] "heap_text" (defScope (top 30)) f cdv A outer s H E).nox := ⟨rfl, rfl, rfl⟩
  exact ⟨t_heapT K, (pss_cons (ps_lcF (i := 2) ["word", "pieces"] ["stuffs", "heap", "parts"] nd rfl rfl (by show CompS (defScope (top 30)) ["stuffs", "heap", "parts"] ["stuffs", "heap", "parts"] _ _; exact ⟨rfl, by decide +kernel, by decide +kernel, by decide +kernel, by decide +kernel, rfl, by decide +kernel, by decide +kernel, by decide +kernel⟩) rfl (pi_zip (k1 := .T) (k2 := .T) rfl B.zip (pa_cons (pv 0) (pa_cons (pv 1) pa_nil))) (fun _ _ _ _ _ => (pg_tup rfl (pgs_cons (pg_name (i := 0) (show (["word", "pieces", "stuffs", "heap", "parts"] : List Str).Nodup by decide +kernel) rfl (by first | exact Or.inl rfl | exact Or.inr rfl)) (pgs_cons (pg_name (i := 1) (show (["word", "pieces", "stuffs", "heap", "parts"] : List Str).Nodup by decide +kernel) rfl (by first | exact Or.inl rfl | exact Or.inr rfl)) pgs_nil)))) (fun _ _ _ _ _ => (pt_cmpR op_gt (pv 1) pe_int (nomark _))) (fun _ _ _ _ _ => (pe_callF c_stuff_text hr rfl (pa_cons (pv 0) (pa_cons (pv 1) pa_nil)))))
  (pss_cons (ps_if (pt_cmpR op_eq (pe_callB call_len_seq rfl B.len bb_len (pa_cons (pv 2) pa_nil)) pe_int (nomark _))
  (pss_one (ps_ret pe_str))
  pss_nil)
  (pss_one (ps_ret (pe_bm PySem.F.plainAttrs_str PySem.F.slot_str_join PySem.F.type_str_join mt_join pe_str (pa_cons (pv 2) pa_nil)))))), (rd_heapT rfl h)⟩
theorem ok_pace_text {nq : Addr} (G : Cn K mg nq) {pD : Addr} (Tpw : KD P w K mg "PIECES_WRITTEN" pD kvPW) (F : FunAt K mg "pace_text" (top 31) ["pace"]) (B : Blt mg)  : FnC P w K mg base CX0 1 "pace_text" ["pace"] (spPaceT K) := by
  refine F.ok sc_pace_text (fun vs H Q E h => len_paceT h) (fun f cdv A outer s H vs Q E hr h => ?_)
  have nd := sc_pace_text.nd
  have hpo := fun {M A env} => @PassesOwn.never M A env
  have hu := hr.units
  have hu1 := Nat.lt_of_le_of_lt (Nat.add_le_add_left (by decide : 1 ≤ 64) _) hu
  have own : OwnFr (cxOf CX0 P w K mg base ["pace", "top", "bottom"] "pace_text" (defScope (top 31)) f cdv A outer s H E).nox := ⟨rfl, rfl, rfl⟩
  exact ⟨t_paceT K, (pss_cons (ps_set (i := 1) nd rfl (by first | exact Or.inl rfl | exact Or.inr rfl) (pe_ix ix_tup (pv 0) pe_int (fun _ _ => rfl)))
  (pss_cons (ps_set (i := 2) nd rfl (by first | exact Or.inl rfl | exact Or.inr rfl) (pe_ix ix_tup (pv 0) pe_int (fun _ _ => rfl)))
  (pss_cons (ps_if (pt_cmpR op_eq (pv 2) pe_int (nomark _))
  (pss_one (ps_ret (pe_jn1 (pe_fmtI (pv 1)))))
  pss_nil)
  (pss_one (ps_ret (pe_jn (PJ.cons (pe_fmtI (pv 1)) (PJ.cons pe_str (PJ.cons (pe_fmtI (pv 2)) PJ.nil))))))))), (rd_paceT rfl h)⟩
theorem ok_turning_text {nq : Addr} (G : Cn K mg nq) {pD : Addr} (Tpw : KD P w K mg "PIECES_WRITTEN" pD kvPW) (F : FunAt K mg "turning_text" (top 32) ["stuffs", "turning"]) (B : Blt mg) (c_heap_text : FnC P w K mg base CX0 2 "heap_text" ["stuffs", "heap"] (spHeapT K)) (c_pace_text : FnC P w K mg base CX0 2 "pace_text" ["pace"] (spPaceT K)) : FnC P w K mg base CX0 3 "turning_text" ["stuffs", "turning"] (spTurnT K) := by
  refine F.ok sc_turning_text (fun vs H Q E h => len_turnT h) (fun f cdv A outer s H vs Q E hr h => ?_)
  have nd := sc_turning_text.nd
  have hpo := fun {M A env} => @PassesOwn.never M A env
  have hu := hr.units
  have hu1 := Nat.lt_of_le_of_lt (Nat.add_le_add_left (by decide : 1 ≤ 64) _) hu
  have own : OwnFr (cxOf CX0 P w K mg base ["stuffs", "turning", "one", "two", "pace"] "turning_text" (defScope (top 32)) f cdv A outer s H E).nox := ⟨rfl, rfl, rfl⟩
  exact ⟨t_turnT K, (pss_cons (ps_set (i := 2) nd rfl (by first | exact Or.inl rfl | exact Or.inr rfl) (pe_callF c_heap_text hr rfl (pa_cons (pv 0) (pa_cons (pe_ix ix_tup (pv 1) pe_int (fun _ _ => rfl)) pa_nil))))
  (pss_cons (ps_set (i := 3) nd rfl (by first | exact Or.inl rfl | exact Or.inr rfl) (pe_callF c_heap_text hr rfl (pa_cons (pv 0) (pa_cons (pe_ix ix_tup (pv 1) pe_int (fun _ _ => rfl)) pa_nil))))
  (pss_cons (ps_set (i := 4) nd rfl (by first | exact Or.inl rfl | exact Or.inr rfl) (pe_callF c_pace_text hr rfl (pa_cons (pe_ix ix_tup (pv 1) pe_int (fun _ _ => rfl)) pa_nil)))
  (pss_one (ps_ret (pe_jn (PJ.cons (pe_fmtS (pv 2)) (PJ.cons pe_str (PJ.cons (pe_fmtS (pv 3)) (PJ.cons pe_str (PJ.cons (pe_fmtS (pv 4)) PJ.nil))))))))))), (rd_turnT rfl h)⟩
theorem ok_heap_guessed {nq : Addr} (G : Cn K mg nq) {pD : Addr} (Tpw : KD P w K mg "PIECES_WRITTEN" pD kvPW) (F : FunAt K mg "heap_guessed" (top 33) ["stuffs", "text"]) (B : Blt mg)  : FnC P w K mg base CX0 1 "heap_guessed" ["stuffs", "text"] (spHeapG K) := by
  refine F.ok sc_heap_guessed (fun vs H Q E h => len_heapG h) (fun f cdv A outer s H vs Q E hr h => ?_)
  have nd := sc_heap_guessed.nd
  have hpo := fun {M A env} => @PassesOwn.never M A env
  have hu := hr.units
  have hu1 := Nat.lt_of_le_of_lt (Nat.add_le_add_left (by decide : 1 ≤ 64) _) hu
  have own : OwnFr (cxOf CX0 P w K mg base ["stuffs", "text", "pieces", "part", "cut"] "heap_guessed" (defScope (top 33)) f cdv A outer s H E).nox := ⟨rfl, rfl, rfl⟩
  exact ⟨t_heapG K, (pss_cons (ps_set (i := 2) nd rfl (by first | exact Or.inl rfl | exact Or.inr rfl) pe_dnewK)
  (pss_cons (ps_for hpo rfl (pi_list (pe_bm PySem.F.plainAttrs_str PySem.F.slot_str_split PySem.F.type_str_split mt_split (pv 1) (pa_cons pe_str pa_nil))) (pg_name (i := 3) nd rfl (by first | exact Or.inl rfl | exact Or.inr rfl))
  (pss_cons (ps_set (i := 4) nd rfl (by first | exact Or.inl rfl | exact Or.inr rfl) (pe_bm PySem.F.plainAttrs_str PySem.F.slot_str_rpartition PySem.F.type_str_rpartition mt_rpartition (pv 3) (pa_cons pe_str pa_nil)))
  (pss_one (ps_dput hu1 (pv 2) (pe_ix ix_tup (pv 4) pe_int (fun _ _ => rfl)) (pe_kget rfl Tpw (pe_ix ix_tup (pv 4) pe_int (fun _ _ => rfl)) pe_int ⟨rfl, rfl, rfl, rfl⟩) rfl))))
  (pss_one (ps_ret (pe_callTy call_tuple_of rfl B.tuple bb_tuple (pa_cons (pe_lc (M := ["stuffs", "text", "pieces", "part", "cut"]) (by show CompS (defScope (top 33)) ["stuffs", "text", "pieces", "part", "cut"] ["stuffs", "text", "pieces", "part", "cut"] _ _; exact ⟨rfl, by decide +kernel, by decide +kernel, by decide +kernel, by decide +kernel, rfl, by decide +kernel, by decide +kernel, by decide +kernel⟩) nd rfl (pi_tup (pv 0)) (fun _ _ _ _ _ => (pe_dget2 hu1 (pv 3) (pv 0) pe_int ⟨rfl, rfl, rfl, rfl⟩))) pa_nil)))))), (rd_heapG rfl h)⟩
theorem ok_number_guessed {nq : Addr} (G : Cn K mg nq) {pD : Addr} (Tpw : KD P w K mg "PIECES_WRITTEN" pD kvPW) (F : FunAt K mg "number_guessed" (top 34) ["text"]) (B : Blt mg)  : FnC P w K mg base CX0 1 "number_guessed" ["text"] (spNumG K) := by
  refine F.ok sc_number_guessed (fun vs H Q E h => len_numG h) (fun f cdv A outer s H vs Q E hr h => ?_)
  have nd := sc_number_guessed.nd
  have hpo := fun {M A env} => @PassesOwn.never M A env
  have hu := hr.units
  have hu1 := Nat.lt_of_le_of_lt (Nat.add_le_add_left (by decide : 1 ≤ 64) _) hu
  have own : OwnFr (cxOf CX0 P w K mg base ["text"] "number_guessed" (defScope (top 34)) f cdv A outer s H E).nox := ⟨rfl, rfl, rfl⟩
  exact ⟨t_numG K, (pss_cons (ps_if (PW.pt (pw_or (pt_cmpR op_eq (pv 0) pe_str (nomark _)) (pw_or1 (pt_not (pt_val (pe_callB (call_all rfl) rfl B.all bb_all (pa_cons (pe_lc (M := ["text"]) (by show CompS (defScope (top 34)) ["text"] ["text"] _ _; exact ⟨rfl, by decide +kernel, by decide +kernel, by decide +kernel, by decide +kernel, rfl, by decide +kernel, by decide +kernel, by decide +kernel⟩) nd rfl (pi_str (pv 0)) (fun _ _ _ _ _ => (pe_chain op_le_str op_le_str pe_str (pv 0) pe_str))) pa_nil)))))))
  (pss_one (ps_ret pe_int))
  pss_nil)
  (pss_one (ps_ret (pe_callTy call_intT rfl B.int bb_int (pa_cons (pv 0) pa_nil))))), (rd_numG rfl h)⟩
theorem ok_pace_guessed {nq : Addr} (G : Cn K mg nq) {pD : Addr} (Tpw : KD P w K mg "PIECES_WRITTEN" pD kvPW) (F : FunAt K mg "pace_guessed" (top 35) ["text"]) (B : Blt mg) (c_number_guessed : FnC P w K mg base CX0 2 "number_guessed" ["text"] (spNumG K)) (c_fraction : FnC P w K mg base CX0 2 "fraction" ["top", "bottom"] (spFracQ K)) : FnC P w K mg base CX0 3 "pace_guessed" ["text"] (spPaceG K) := by
  refine F.ok sc_pace_guessed (fun vs H Q E h => len_paceG h) (fun f cdv A outer s H vs Q E hr h => ?_)
  have nd := sc_pace_guessed.nd
  have hpo := fun {M A env} => @PassesOwn.never M A env
  have hu := hr.units
  have hu1 := Nat.lt_of_le_of_lt (Nat.add_le_add_left (by decide : 1 ≤ 64) _) hu
  have own : OwnFr (cxOf CX0 P w K mg base ["text", "cut", "top", "bottom"] "pace_guessed" (defScope (top 35)) f cdv A outer s H E).nox := ⟨rfl, rfl, rfl⟩
  exact ⟨t_paceG K, (pss_cons (ps_set (i := 1) nd rfl (by first | exact Or.inl rfl | exact Or.inr rfl) (pe_bm PySem.F.plainAttrs_str PySem.F.slot_str_partition PySem.F.type_str_partition mt_partition (pv 0) (pa_cons pe_str pa_nil)))
  (pss_cons (ps_set (i := 2) nd rfl (by first | exact Or.inl rfl | exact Or.inr rfl) (pe_callF c_number_guessed hr rfl (pa_cons (pe_ix ix_tup (pv 1) pe_int (fun _ _ => rfl)) pa_nil)))
  (pss_cons (ps_set (i := 3) nd rfl (by first | exact Or.inl rfl | exact Or.inr rfl) (pe_ifExp (pt_cmpR op_eq (pe_ix ix_tup (pv 1) pe_int (fun _ _ => rfl)) pe_str (nomark _)) pe_int (pe_callF c_number_guessed hr rfl (pa_cons (pe_ix ix_tup (pv 1) pe_int (fun _ _ => rfl)) pa_nil))))
  (pss_cons (ps_if (PW.pt (pw_or (pt_cmpR op_eq (pv 2) pe_int (nomark _)) (pw_or1 (pt_cmpR op_eq (pv 3) pe_int (nomark _)))))
  (pss_one (ps_ret pe_non))
  pss_nil)
  (pss_one (ps_ret (pe_callF c_fraction hr rfl (pa_cons (pv 2) (pa_cons (pv 3) pa_nil))))))))), (rd_paceG rfl h)⟩
theorem ok_turning_read {nq : Addr} (G : Cn K mg nq) {pD : Addr} (Tpw : KD P w K mg "PIECES_WRITTEN" pD kvPW) (F : FunAt K mg "turning_read" (top 36) ["stuffs", "text"]) (B : Blt mg) (c_pace_guessed : FnC P w K mg base CX0 3 "pace_guessed" ["text"] (spPaceG K)) (c_heap_guessed : FnC P w K mg base CX0 3 "heap_guessed" ["stuffs", "text"] (spHeapG K)) (c_turning_text : FnC P w K mg base CX0 3 "turning_text" ["stuffs", "turning"] (spTurnT K)) : FnC P w K mg base CX0 4 "turning_read" ["stuffs", "text"] (spTurnRd K) := by
  refine F.ok sc_turning_read (fun vs H Q E h => len_turnRd h) (fun f cdv A outer s H vs Q E hr h => ?_)
  have nd := sc_turning_read.nd
  have hpo := fun {M A env} => @PassesOwn.never M A env
  have hu := hr.units
  have hu1 := Nat.lt_of_le_of_lt (Nat.add_le_add_left (by decide : 1 ≤ 64) _) hu
  have own : OwnFr (cxOf CX0 P w K mg base ["stuffs", "text", "cut", "rest", "pace", "turning"] "turning_read" (defScope (top 36)) f cdv A outer s H E).nox := ⟨rfl, rfl, rfl⟩
  exact ⟨t_turnRd K, (pss_cons (ps_set (i := 2) nd rfl (by first | exact Or.inl rfl | exact Or.inr rfl) (pe_bm PySem.F.plainAttrs_str PySem.F.slot_str_partition PySem.F.type_str_partition mt_partition (pv 1) (pa_cons pe_str pa_nil)))
  (pss_cons (ps_set (i := 3) nd rfl (by first | exact Or.inl rfl | exact Or.inr rfl) (pe_bm PySem.F.plainAttrs_str PySem.F.slot_str_partition PySem.F.type_str_partition mt_partition (pe_ix ix_tup (pv 2) pe_int (fun _ _ => rfl)) (pa_cons pe_str pa_nil)))
  (pss_cons (ps_set (i := 4) nd rfl (by first | exact Or.inl rfl | exact Or.inr rfl) (pe_callF c_pace_guessed hr rfl (pa_cons (pe_ix ix_tup (pv 3) pe_int (fun _ _ => rfl)) pa_nil)))
  (pss_cons (ps_if (pt_cmpR op_isN (pv 4) pe_non (nomark _))
  (pss_one (ps_ret pe_non))
  pss_nil)
  (pss_cons (ps_set (i := 5) nd rfl (by first | exact Or.inl rfl | exact Or.inr rfl) (pe_tup (pa_cons (pe_callF c_heap_guessed hr rfl (pa_cons (pv 0) (pa_cons (pe_ix ix_tup (pv 2) pe_int (fun _ _ => rfl)) pa_nil))) (pa_cons (pe_callF c_heap_guessed hr rfl (pa_cons (pv 0) (pa_cons (pe_ix ix_tup (pv 3) pe_int (fun _ _ => rfl)) pa_nil))) (pa_cons (pv 4) pa_nil)))))
  (pss_cons (ps_if (pt_cmpR op_ne (pe_callF c_turning_text hr rfl (pa_cons (pv 0) (pa_cons (pv 5) pa_nil))) (pv 1) (nomark _))
  (pss_one (ps_ret pe_non))
  pss_nil)
  (pss_one (ps_ret (pv 5))))))))), (rd_turnRd rfl h)⟩
theorem ok_read {nq : Addr} (G : Cn K mg nq) {pD : Addr} (Tpw : KD P w K mg "PIECES_WRITTEN" pD kvPW) (F : FunAt K mg "read" (top 37) ["words", "texts"]) (B : Blt mg) (c_stuffs_of : FnC P w K mg base CX0 4 "stuffs_of" ["words"] (spStuffs K)) (c_made : FnC P w K mg base CX0 4 "made" ["words", "rows"] (spMade K)) (c_turning_read : FnC P w K mg base CX0 4 "turning_read" ["stuffs", "text"] (spTurnRd K)) : FnC P w K mg base CX0 5 "read" ["words", "texts"] (spRead K) := by
  refine F.ok sc_read (fun vs H Q E h => len_read h) (fun f cdv A outer s H vs Q E hr h => ?_)
  have nd := sc_read.nd
  have hpo := fun {M A env} => @PassesOwn.never M A env
  have hu := hr.units
  have hu1 := Nat.lt_of_le_of_lt (Nat.add_le_add_left (by decide : 1 ≤ 64) _) hu
  have own : OwnFr (cxOf CX0 P w K mg base ["words", "texts", "stuffs", "rows", "at", "text", "turning"] "read" (defScope (top 37)) f cdv A outer s H E).nox := ⟨rfl, rfl, rfl⟩
  exact ⟨t_read K, (pss_cons (ps_set (i := 2) nd rfl (by first | exact Or.inl rfl | exact Or.inr rfl) (pe_callF c_stuffs_of hr rfl (pa_cons (pv 0) pa_nil)))
  (pss_cons (ps_set (i := 3) nd rfl (by first | exact Or.inl rfl | exact Or.inr rfl) (pe_lst pa_nil))
  (pss_cons (ps_for hpo rfl (pi_enum rfl B.enumerate (pa_cons (pv 1) pa_nil)) (pg_tup rfl (pgs_cons (pg_name (i := 4) nd rfl (by first | exact Or.inl rfl | exact Or.inr rfl)) (pgs_cons (pg_name (i := 5) nd rfl (by first | exact Or.inl rfl | exact Or.inr rfl)) pgs_nil)))
  (pss_cons (ps_set (i := 6) nd rfl (by first | exact Or.inl rfl | exact Or.inr rfl) (pe_callF c_turning_read hr rfl (pa_cons (pv 2) (pa_cons (pv 5) pa_nil))))
  (pss_cons (ps_if (pt_cmpR op_isN (pv 6) pe_non (nomark _))
  pss_never
  pss_nil)
  (pss_one (ps_expr (pe_bm PySem.F.plainAttrs_list PySem.F.slot_list_append PySem.F.type_list_append mt_append (pv 3) (pa_cons (pv 6) pa_nil)))))))
  (pss_one (ps_ret (pe_callF c_made hr rfl (pa_cons (pv 2) (pa_cons (pv 3) pa_nil)))))))), (rd_read rfl h)⟩
theorem ok_law_cell_at {nq : Addr} (G : Cn K mg nq) {pD : Addr} (Tpw : KD P w K mg "PIECES_WRITTEN" pD kvPW) (F : FunAt K mg "_law_cell_at" (top 39) ["_law_script", "_law_k"]) (B : Blt mg)  : FnC P w K mg base CX0 1 "_law_cell_at" ["_law_script", "_law_k"] (spCell K) := by
  refine F.ok sc_law_cell_at (fun vs H Q E h => len_cell h) (fun f cdv A outer s H vs Q E hr h => ?_)
  have nd := sc_law_cell_at.nd
  have hpo := fun {M A env} => @PassesOwn.never M A env
  have hu := hr.units
  have hu1 := Nat.lt_of_le_of_lt (Nat.add_le_add_left (by decide : 1 ≤ 64) _) hu
  have own : OwnFr (cxOf CX0 P w K mg base ["_law_script", "_law_k"] "_law_cell_at" (defScope (top 39)) f cdv A outer s H E).nox := ⟨rfl, rfl, rfl⟩
  exact ⟨tCell K, (pss_cons (ps_if (pt_cmpR op_lt (pv 1) (pe_callB call_len_seq rfl B.len bb_len (pa_cons (pv 0) pa_nil)) (nomark _))
  (pss_one (ps_ret (pe_ix ix_list (pv 0) (pv 1) (fun _ _ => rfl))))
  pss_nil)
  (pss_one (ps_ret pe_int))), (by obtain ⟨a, ns, k, rfl, hS, h0, q⟩ := h; exact rd_cell hS h0 q)⟩
theorem ok_law_mixed {nq : Addr} (G : Cn K mg nq) {pD : Addr} (Tpw : KD P w K mg "PIECES_WRITTEN" pD kvPW) (F : FunAt K mg "_law_mixed" (top 40) ["_law_cell", "_law_many"]) (B : Blt mg)  : FnC P w K mg base CX0 1 "_law_mixed" ["_law_cell", "_law_many"] (spMixed K) := by
  refine F.ok sc_law_mixed (fun vs H Q E h => len_mixed h) (fun f cdv A outer s H vs Q E hr h => ?_)
  have nd := sc_law_mixed.nd
  have hpo := fun {M A env} => @PassesOwn.never M A env
  have hu := hr.units
  have hu1 := Nat.lt_of_le_of_lt (Nat.add_le_add_left (by decide : 1 ≤ 64) _) hu
  have own : OwnFr (cxOf CX0 P w K mg base ["_law_cell", "_law_many", "_law_found", "_law_number", "_law_k"] "_law_mixed" (defScope (top 40)) f cdv A outer s H E).nox := ⟨rfl, rfl, rfl⟩
  exact ⟨t_mixed K, (pss_cons (ps_set (i := 2) nd rfl (by first | exact Or.inl rfl | exact Or.inr rfl) (pe_lst pa_nil))
  (pss_cons (ps_set (i := 3) nd rfl (by first | exact Or.inl rfl | exact Or.inr rfl) (pe_op op_fdiv (pv 0) pe_int))
  (pss_cons (ps_if (pt_cmpR op_eq (pe_op op_mod (pv 0) pe_int) pe_int (nomark _))
  (pss_cons (ps_for hpo rfl (pi_range1 rfl B.range (pa_cons (pv 1) pa_nil)) (pg_name (i := 4) nd rfl (by first | exact Or.inl rfl | exact Or.inr rfl))
  (pss_cons (ps_expr (pe_bm PySem.F.plainAttrs_list PySem.F.slot_list_append PySem.F.type_list_append mt_append (pv 2) (pa_cons (pe_op op_mod (pv 3) pe_int) pa_nil)))
  (pss_one (ps_set (i := 3) nd rfl (by first | exact Or.inl rfl | exact Or.inr rfl) (pe_op op_fdiv (pv 3) pe_int)))))
  (pss_one (ps_ret (pv 2))))
  pss_nil)
  (pss_cons (ps_set (i := 3) nd rfl (by first | exact Or.inl rfl | exact Or.inr rfl) (pe_op op_mod (pe_op op_add (pe_op op_mul (pe_op op_mod (pv 3) pe_int) pe_int) pe_int) pe_int))
  (pss_cons (ps_for hpo rfl (pi_range1 rfl B.range (pa_cons (pv 1) pa_nil)) (pg_name (i := 4) nd rfl (by first | exact Or.inl rfl | exact Or.inr rfl))
  (pss_cons (ps_set (i := 3) nd rfl (by first | exact Or.inl rfl | exact Or.inr rfl) (pe_op op_mod (pe_op op_add (pe_op op_add (pe_op op_add (pe_op op_mul (pv 3) (pv 3)) (pe_op op_mul pe_int (pv 3))) (pv 4)) pe_int) pe_int))
  (pss_one (ps_expr (pe_bm PySem.F.plainAttrs_list PySem.F.slot_list_append PySem.F.type_list_append mt_append (pv 2) (pa_cons (pv 3) pa_nil))))))
  (pss_one (ps_ret (pv 2)))))))), (rd_mixed rfl h)⟩
theorem ok_law_divisor {nq : Addr} (G : Cn K mg nq) {pD : Addr} (Tpw : KD P w K mg "PIECES_WRITTEN" pD kvPW) (F : FunAt K mg "_law_divisor" (top 41) ["_law_one", "_law_other"]) (B : Blt mg)  : FnC P w K mg base CX0 1 "_law_divisor" ["_law_one", "_law_other"] spDiv := by
  refine F.ok sc_law_divisor (fun vs H Q E h => len_div h) (fun f cdv A outer s H vs Q E hr h => ?_)
  have nd := sc_law_divisor.nd
  have hpo := fun {M A env} => @PassesOwn.never M A env
  have hu := hr.units
  have hu1 := Nat.lt_of_le_of_lt (Nat.add_le_add_left (by decide : 1 ≤ 64) _) hu
  have own : OwnFr (cxOf CX0 P w K mg base ["_law_one", "_law_other", "_law_rest"] "_law_divisor" (defScope (top 41)) f cdv A outer s H E).nox := ⟨rfl, rfl, rfl⟩
  exact ⟨tDiv, (pss_cons (ps_while hpo (pt_cmpR op_ne (pv 1) pe_int (nomark _))
  (pss_cons (ps_set (i := 2) nd rfl (by first | exact Or.inl rfl | exact Or.inr rfl) (pe_op op_modN (pv 0) (pv 1)))
  (pss_cons (ps_set (i := 0) nd rfl (by first | exact Or.inl rfl | exact Or.inr rfl) (pv 1))
  (pss_one (ps_set (i := 1) nd rfl (by first | exact Or.inl rfl | exact Or.inr rfl) (pv 2))))))
  (pss_one (ps_ret (pe_callB call_abs rfl B.abs bb_abs (pa_cons (pv 0) pa_nil))))), (by obtain ⟨a, b, rfl, k⟩ := h; exact rd_div a b H _ k)⟩
theorem ok_law_lowest {nq : Addr} (G : Cn K mg nq) {pD : Addr} (Tpw : KD P w K mg "PIECES_WRITTEN" pD kvPW) (F : FunAt K mg "_law_lowest" (top 42) ["_law_top", "_law_bottom"]) (B : Blt mg) (c_law_divisor : FnC P w K mg base CX0 1 "_law_divisor" ["_law_one", "_law_other"] spDiv) : FnC P w K mg base CX0 2 "_law_lowest" ["_law_top", "_law_bottom"] (spLowP K) := by
  refine F.ok sc_law_lowest (fun vs H Q E h => len_lowP h) (fun f cdv A outer s H vs Q E hr h => ?_)
  have nd := sc_law_lowest.nd
  have hpo := fun {M A env} => @PassesOwn.never M A env
  have hu := hr.units
  have hu1 := Nat.lt_of_le_of_lt (Nat.add_le_add_left (by decide : 1 ≤ 64) _) hu
  have own : OwnFr (cxOf CX0 P w K mg base ["_law_top", "_law_bottom", "_law_share"] "_law_lowest" (defScope (top 42)) f cdv A outer s H E).nox := ⟨rfl, rfl, rfl⟩
  exact ⟨tLow0, (pss_cons (ps_if (pt_cmpR op_lt (pv 1) pe_int (nomark _))
  pss_never
  pss_nil)
  (pss_cons (ps_if (pt_cmpR op_eq (pv 1) pe_int (nomark _))
  (pss_one (ps_set (i := 1) nd rfl (by first | exact Or.inl rfl | exact Or.inr rfl) pe_int))
  pss_nil)
  (pss_cons (ps_set (i := 2) nd rfl (by first | exact Or.inl rfl | exact Or.inr rfl) (pe_callF c_law_divisor hr rfl (pa_cons (pv 0) (pa_cons (pv 1) pa_nil))))
  (pss_one (ps_ret (pe_tup (pa_cons (pe_op op_fdivW (pv 0) (pv 2)) (pa_cons (pe_op op_fdivW (pv 1) (pv 2)) pa_nil)))))))), (rd_lowP rfl h)⟩
theorem ok_law_base {nq : Addr} (G : Cn K mg nq) {pD : Addr} (Tpw : KD P w K mg "PIECES_WRITTEN" pD kvPW) (F : FunAt K mg "_law_base" (top 43) ["_law_cell", "_law_size"]) (B : Blt mg)  : FnC P w K mg base CX0 1 "_law_base" ["_law_cell", "_law_size"] spBase := by
  refine F.ok sc_law_base (fun vs H Q E h => len_base h) (fun f cdv A outer s H vs Q E hr h => ?_)
  have nd := sc_law_base.nd
  have hpo := fun {M A env} => @PassesOwn.never M A env
  have hu := hr.units
  have hu1 := Nat.lt_of_le_of_lt (Nat.add_le_add_left (by decide : 1 ≤ 64) _) hu
  have own : OwnFr (cxOf CX0 P w K mg base ["_law_cell", "_law_size", "_law_number", "_law_found", "_law_k"] "_law_base" (defScope (top 43)) f cdv A outer s H E).nox := ⟨rfl, rfl, rfl⟩
  exact ⟨t_base K, (pss_cons (ps_set (i := 2) nd rfl (by first | exact Or.inl rfl | exact Or.inr rfl) (pe_op op_mod (pe_op op_add (pe_op op_mul (pe_op op_mod (pv 0) pe_int) pe_int) pe_int) pe_int))
  (pss_cons (ps_set (i := 3) nd rfl (by first | exact Or.inl rfl | exact Or.inr rfl) pe_str)
  (pss_cons (ps_for hpo rfl (pi_range1 rfl B.range (pa_cons (pv 1) pa_nil)) (pg_name (i := 4) nd rfl (by first | exact Or.inl rfl | exact Or.inr rfl))
  (pss_cons (ps_set (i := 2) nd rfl (by first | exact Or.inl rfl | exact Or.inr rfl) (pe_op op_mod (pe_op op_add (pe_op op_add (pe_op op_add (pe_op op_mul (pv 2) (pv 2)) (pe_op op_mul pe_int (pv 2))) (pv 4)) pe_int) pe_int))
  (pss_one (ps_set (i := 3) nd rfl (by first | exact Or.inl rfl | exact Or.inr rfl) (pe_op op_add_str (pv 3) (pe_ix ix_str pe_str (pe_op op_mod (pv 2) pe_int) (fun _ _ => rfl)))))))
  (pss_one (ps_ret (pv 3)))))), (rd_base rfl h)⟩
theorem ok_law_word {nq : Addr} (G : Cn K mg nq) {pD : Addr} (Tpw : KD P w K mg "PIECES_WRITTEN" pD kvPW) (F : FunAt K mg "_law_word" (top 44) ["_law_base_here", "_law_place", "_law_size", "_law_k"]) (B : Blt mg)  : FnC P w K mg base CX0 1 "_law_word" ["_law_base_here", "_law_place", "_law_size", "_law_k"] spWord := by
  refine F.ok sc_law_word (fun vs H Q E h => len_word h) (fun f cdv A outer s H vs Q E hr h => ?_)
  have nd := sc_law_word.nd
  have hpo := fun {M A env} => @PassesOwn.never M A env
  have hu := hr.units
  have hu1 := Nat.lt_of_le_of_lt (Nat.add_le_add_left (by decide : 1 ≤ 64) _) hu
  have own : OwnFr (cxOf CX0 P w K mg base ["_law_base_here", "_law_place", "_law_size", "_law_k", "_law_signs", "_law_other"] "_law_word" (defScope (top 44)) f cdv A outer s H E).nox := ⟨rfl, rfl, rfl⟩
  exact ⟨t_word K, (pss_cons (ps_set (i := 4) nd rfl (by first | exact Or.inl rfl | exact Or.inr rfl) pe_str)
  (pss_cons (ps_set (i := 5) nd rfl (by first | exact Or.inl rfl | exact Or.inr rfl) (pe_ix ix_str (pv 4) (pe_op op_mod (pe_op op_add (pe_bm PySem.F.plainAttrs_str PySem.F.slot_str_find PySem.F.type_str_find mt_find (pv 4) (pa_cons (pe_ix ix_str (pv 0) (pv 1) (fun _ _ => rfl)) pa_nil)) (pe_op op_mul pe_int (pv 3))) pe_int) (fun _ _ => rfl)))
  (pss_one (ps_ret (pe_op op_add_str (pe_op op_add_str (pe_slice sl_str (pv 0) po_none (po_some (pv 1))) (pv 5)) (pe_slice sl_str (pv 0) (po_some (pe_op op_add (pv 1) pe_int)) (po_some (pv 2)))))))), (rd_word rfl h)⟩
theorem ok_law_words {nq : Addr} (G : Cn K mg nq) {pD : Addr} (Tpw : KD P w K mg "PIECES_WRITTEN" pD kvPW) (F : FunAt K mg "_law_words" (top 45) ["_law_script", "_law_at", "_law_many"]) (B : Blt mg) (c_law_cell_at : FnC P w K mg base CX0 1 "_law_cell_at" ["_law_script", "_law_k"] (spCell K)) (c_law_base : FnC P w K mg base CX0 1 "_law_base" ["_law_cell", "_law_size"] spBase) (c_law_word : FnC P w K mg base CX0 1 "_law_word" ["_law_base_here", "_law_place", "_law_size", "_law_k"] spWord) : FnC P w K mg base CX0 2 "_law_words" ["_law_script", "_law_at", "_law_many"] (spWords K) := by
  refine F.ok sc_law_words (fun vs H Q E h => len_words h) (fun f cdv A outer s H vs Q E hr h => ?_)
  have nd := sc_law_words.nd
  have hpo := fun {M A env} => @PassesOwn.never M A env
  have hu := hr.units
  have hu1 := Nat.lt_of_le_of_lt (Nat.add_le_add_left (by decide : 1 ≤ 64) _) hu
  have own : OwnFr (cxOf CX0 P w K mg base ["_law_script", "_law_at", "_law_many", "_law_cell", "_law_size", "_law_base_here", "_law_words_here", "_law_k", "_law_word_here"] "_law_words" (defScope (top 45)) f cdv A outer s H E).nox := ⟨rfl, rfl, rfl⟩
  exact ⟨t_words K, (pss_cons (ps_set (i := 3) nd rfl (by first | exact Or.inl rfl | exact Or.inr rfl) (pe_callF c_law_cell_at hr rfl (pa_cons (pv 0) (pa_cons (pv 1) pa_nil))))
  (pss_cons (ps_set (i := 4) nd rfl (by first | exact Or.inl rfl | exact Or.inr rfl) (pe_op op_add pe_int (pe_op op_mod (pv 3) pe_int)))
  (pss_cons (ps_set (i := 5) nd rfl (by first | exact Or.inl rfl | exact Or.inr rfl) (pe_callF c_law_base hr rfl (pa_cons (pe_callF c_law_cell_at hr rfl (pa_cons (pv 0) (pa_cons (pe_op op_add (pv 1) pe_int) pa_nil))) (pa_cons pe_int pa_nil))))
  (pss_cons (ps_set (i := 6) nd rfl (by first | exact Or.inl rfl | exact Or.inr rfl) (pe_lst pa_nil))
  (pss_cons (ps_for hpo rfl (pi_range1 rfl B.range (pa_cons (pv 2) pa_nil)) (pg_name (i := 7) nd rfl (by first | exact Or.inl rfl | exact Or.inr rfl))
  (pss_cons (ps_set (i := 8) nd rfl (by first | exact Or.inl rfl | exact Or.inr rfl) (pe_callF c_law_word hr rfl (pa_cons (pv 5) (pa_cons (pe_op op_mod (pe_op op_fdiv (pv 3) pe_int) (pv 4)) (pa_cons (pv 4) (pa_cons (pv 7) pa_nil))))))
  (pss_cons (ps_if (pt_cmpR op_eq (pe_op op_mod (pe_op op_fdiv (pv 3) pe_int) pe_int) pe_int (nomark _))
  (pss_one (ps_set (i := 8) nd rfl (by first | exact Or.inl rfl | exact Or.inr rfl) (pe_slice sl_str (pv 5) po_none (po_some (pe_op op_add (pv 7) pe_int)))))
  pss_nil)
  (pss_one (ps_expr (pe_bm PySem.F.plainAttrs_list PySem.F.slot_list_append PySem.F.type_list_append mt_append (pv 6) (pa_cons (pv 8) pa_nil)))))))
  (pss_one (ps_ret (pv 6)))))))), (rd_words rfl h)⟩
theorem ok_law_heap {nq : Addr} (G : Cn K mg nq) {pD : Addr} (Tpw : KD P w K mg "PIECES_WRITTEN" pD kvPW) (F : FunAt K mg "_law_heap" (top 46) ["_law_number", "_law_many", "_law_most"]) (B : Blt mg)  : FnC P w K mg base CX0 1 "_law_heap" ["_law_number", "_law_many", "_law_most"] (spHeap K) := by
  refine F.ok sc_law_heap (fun vs H Q E h => len_heap h) (fun f cdv A outer s H vs Q E hr h => ?_)
  have nd := sc_law_heap.nd
  have hpo := fun {M A env} => @PassesOwn.never M A env
  have hu := hr.units
  have hu1 := Nat.lt_of_le_of_lt (Nat.add_le_add_left (by decide : 1 ≤ 64) _) hu
  have own : OwnFr (cxOf CX0 P w K mg base ["_law_number", "_law_many", "_law_most", "_law_found", "_law_k"] "_law_heap" (defScope (top 46)) f cdv A outer s H E).nox := ⟨rfl, rfl, rfl⟩
  exact ⟨t_heap K, (pss_cons (ps_set (i := 3) nd rfl (by first | exact Or.inl rfl | exact Or.inr rfl) (pe_lst pa_nil))
  (pss_cons (ps_for hpo rfl (pi_range1 rfl B.range (pa_cons (pv 1) pa_nil)) (pg_name (i := 4) nd rfl (by first | exact Or.inl rfl | exact Or.inr rfl))
  (pss_cons (ps_expr (pe_bm PySem.F.plainAttrs_list PySem.F.slot_list_append PySem.F.type_list_append mt_append (pv 3) (pa_cons (pe_op op_mod (pv 0) (pe_op op_add (pv 2) pe_int)) pa_nil)))
  (pss_one (ps_set (i := 0) nd rfl (by first | exact Or.inl rfl | exact Or.inr rfl) (pe_op op_fdiv (pv 0) (pe_op op_add (pv 2) pe_int))))))
  (pss_one (ps_ret (pe_callTy call_tuple_of rfl B.tuple bb_tuple (pa_cons (pv 3) pa_nil)))))), (rd_heap rfl h)⟩
theorem ok_law_pool {nq : Addr} (G : Cn K mg nq) {pD : Addr} (Tpw : KD P w K mg "PIECES_WRITTEN" pD kvPW) (F : FunAt K mg "_law_pool" (top 47) ["_law_script", "_law_at", "_law_many"]) (B : Blt mg) (c_law_cell_at : FnC P w K mg base CX0 1 "_law_cell_at" ["_law_script", "_law_k"] (spCell K)) (c_law_heap : FnC P w K mg base CX0 1 "_law_heap" ["_law_number", "_law_many", "_law_most"] (spHeap K)) (c_law_mixed : FnC P w K mg base CX0 1 "_law_mixed" ["_law_cell", "_law_many"] (spMixed K)) : FnC P w K mg base CX0 2 "_law_pool" ["_law_script", "_law_at", "_law_many"] (spPool K) := by
  refine F.ok sc_law_pool (fun vs H Q E h => len_pool h) (fun f cdv A outer s H vs Q E hr h => ?_)
  have nd := sc_law_pool.nd
  have hpo := fun {M A env} => @PassesOwn.never M A env
  have hu := hr.units
  have hu1 := Nat.lt_of_le_of_lt (Nat.add_le_add_left (by decide : 1 ≤ 64) _) hu
  have own : OwnFr (cxOf CX0 P w K mg base ["_law_script", "_law_at", "_law_many", "_law_first", "_law_most", "_law_found", "_law_k", "_law_heap_here"] "_law_pool" (defScope (top 47)) f cdv A outer s H E).nox := ⟨rfl, rfl, rfl⟩
  exact ⟨t_pool K, (pss_cons (ps_set (i := 3) nd rfl (by first | exact Or.inl rfl | exact Or.inr rfl) (pe_callF c_law_cell_at hr rfl (pa_cons (pv 0) (pa_cons (pv 1) pa_nil))))
  (pss_cons (ps_set (i := 4) nd rfl (by first | exact Or.inl rfl | exact Or.inr rfl) (pe_ix ix_list (pe_lst (pa_cons pe_int (pa_cons pe_int (pa_cons pe_int (pa_cons pe_int pa_nil))))) (pe_op op_mod (pv 3) pe_int) (fun _ _ => rfl)))
  (pss_cons (ps_set (i := 5) nd rfl (by first | exact Or.inl rfl | exact Or.inr rfl) (pe_lst pa_nil))
  (pss_cons (ps_for hpo rfl (pi_range1 rfl B.range (pa_cons (pe_op op_add pe_int (pe_op op_mod (pe_op op_fdiv (pv 3) pe_int) pe_int)) pa_nil)) (pg_name (i := 6) nd rfl (by first | exact Or.inl rfl | exact Or.inr rfl))
  (pss_cons (ps_set (i := 7) nd rfl (by first | exact Or.inl rfl | exact Or.inr rfl) (pe_callF c_law_heap hr rfl (pa_cons (pe_ix ix_list (pe_callF c_law_mixed hr rfl (pa_cons (pe_callF c_law_cell_at hr rfl (pa_cons (pv 0) (pa_cons (pe_op op_add (pe_op op_add (pv 1) pe_int) (pv 6)) pa_nil))) (pa_cons pe_int pa_nil))) pe_int (fun _ _ => rfl)) (pa_cons (pv 2) (pa_cons (pv 4) pa_nil)))))
  (pss_one (ps_if (pt_cmpR (op_notInD hu) (pv 7) (pv 5) (by with_unfolding_all rfl))
  (pss_one (ps_expr (pe_bm PySem.F.plainAttrs_list PySem.F.slot_list_append PySem.F.type_list_append mt_append (pv 5) (pa_cons (pv 7) pa_nil))))
  pss_nil))))
  (pss_cons (ps_if (pt_cmpR op_lt (pe_callB call_len_seq rfl B.len bb_len (pa_cons (pv 5) pa_nil)) pe_int (nomark _))
  (pss_one (ps_expr (pe_bm PySem.F.plainAttrs_list PySem.F.slot_list_append PySem.F.type_list_append mt_append (pv 5) (pa_cons (pe_callTy call_tuple_of rfl B.tuple bb_tuple (pa_cons (pe_op op_cat (pe_lst (pa_cons (pe_callTy call_int1 rfl B.int bb_int (pa_cons (pe_cmpR op_eq (pe_ix ix_tup (pe_ix ix_list (pv 5) pe_int (fun _ _ => rfl)) pe_int (fun _ _ => rfl)) pe_int (nomark _)) pa_nil)) pa_nil)) (pe_lc (M := ["_law_script", "_law_at", "_law_many", "_law_first", "_law_most", "_law_found", "#_law_k", "_law_heap_here"]) (by show CompS (defScope (top 47)) ["_law_script", "_law_at", "_law_many", "_law_first", "_law_most", "_law_found", "_law_k", "_law_heap_here"] ["_law_script", "_law_at", "_law_many", "_law_first", "_law_most", "_law_found", "#_law_k", "_law_heap_here"] _ _; exact ⟨rfl, by decide +kernel, by decide +kernel, by decide +kernel, by decide +kernel, rfl, by decide +kernel, by decide +kernel, by decide +kernel⟩) nd rfl (pi_range1 rfl B.range (pa_cons (pe_op op_sub (pv 2) pe_int) pa_nil)) (fun _ _ _ _ _ => pe_int))) pa_nil)) pa_nil))))
  pss_nil)
  (pss_one (ps_ret (pv 5)))))))), (rd_pool rfl h)⟩
theorem ok_law_pace {nq : Addr} (G : Cn K mg nq) {pD : Addr} (Tpw : KD P w K mg "PIECES_WRITTEN" pD kvPW) (F : FunAt K mg "_law_pace" (top 48) ["_law_number", "_law_other", "_law_great"]) (B : Blt mg) (c_law_lowest : FnC P w K mg base CX0 2 "_law_lowest" ["_law_top", "_law_bottom"] (spLowP K)) : FnC P w K mg base CX0 3 "_law_pace" ["_law_number", "_law_other", "_law_great"] (spPace K) := by
  refine F.ok sc_law_pace (fun vs H Q E h => len_pace h) (fun f cdv A outer s H vs Q E hr h => ?_)
  have nd := sc_law_pace.nd
  have hpo := fun {M A env} => @PassesOwn.never M A env
  have hu := hr.units
  have hu1 := Nat.lt_of_le_of_lt (Nat.add_le_add_left (by decide : 1 ≤ 64) _) hu
  have own : OwnFr (cxOf CX0 P w K mg base ["_law_number", "_law_other", "_law_great"] "_law_pace" (defScope (top 48)) f cdv A outer s H E).nox := ⟨rfl, rfl, rfl⟩
  exact ⟨t_pace K, (pss_cons (ps_if (pt_val (pv 2))
  (pss_one (ps_ret (pe_callF c_law_lowest hr rfl (pa_cons (pe_op op_add pe_int (pe_op op_mod (pe_op op_mul (pv 0) pe_int) (pe_op op_sub (pe_op op_pow pe_int pe_int) pe_int))) (pa_cons (pe_op op_add pe_int (pe_op op_mod (pe_op op_mul (pv 1) pe_int) (pe_op op_sub (pe_op op_pow pe_int pe_int) pe_int))) pa_nil)))))
  pss_nil)
  (pss_one (ps_ret (pe_callF c_law_lowest hr rfl (pa_cons (pe_op op_add pe_int (pe_op op_mod (pv 0) pe_int)) (pa_cons (pe_op op_add pe_int (pe_op op_mod (pv 1) pe_int)) pa_nil)))))), (rd_pace rfl h)⟩
theorem ok_law_turnings {nq : Addr} (G : Cn K mg nq) {pD : Addr} (Tpw : KD P w K mg "PIECES_WRITTEN" pD kvPW) (F : FunAt K mg "_law_turnings" (top 49) ["_law_script", "_law_at", "_law_pool_here"]) (B : Blt mg) (c_law_cell_at : FnC P w K mg base CX0 3 "_law_cell_at" ["_law_script", "_law_k"] (spCell K)) (c_law_mixed : FnC P w K mg base CX0 3 "_law_mixed" ["_law_cell", "_law_many"] (spMixed K)) (c_law_pace : FnC P w K mg base CX0 3 "_law_pace" ["_law_number", "_law_other", "_law_great"] (spPace K)) : FnC P w K mg base CX0 4 "_law_turnings" ["_law_script", "_law_at", "_law_pool_here"] (spTurn K) := by
  refine F.ok sc_law_turnings (fun vs H Q E h => len_turn h) (fun f cdv A outer s H vs Q E hr h => ?_)
  have nd := sc_law_turnings.nd
  have hpo := fun {M A env} => @PassesOwn.never M A env
  have hu := hr.units
  have hu1 := Nat.lt_of_le_of_lt (Nat.add_le_add_left (by decide : 1 ≤ 64) _) hu
  have own : OwnFr (cxOf CX0 P w K mg base ["_law_script", "_law_at", "_law_pool_here", "_law_first", "_law_pairs", "_law_found", "_law_k", "_law_xs", "_law_one", "_law_two", "_law_pair", "_law_pace_here"] "_law_turnings" (defScope (top 49)) f cdv A outer s H E).nox := ⟨rfl, rfl, rfl⟩
  exact ⟨t_turn K, (pss_cons (ps_set (i := 3) nd rfl (by first | exact Or.inl rfl | exact Or.inr rfl) (pe_callF c_law_cell_at hr rfl (pa_cons (pv 0) (pa_cons (pv 1) pa_nil))))
  (pss_cons (ps_set (i := 4) nd rfl (by first | exact Or.inl rfl | exact Or.inr rfl) (pe_lst pa_nil))
  (pss_cons (ps_set (i := 5) nd rfl (by first | exact Or.inl rfl | exact Or.inr rfl) (pe_lst pa_nil))
  (pss_cons (ps_for hpo rfl (pi_range1 rfl B.range (pa_cons (pe_op op_add pe_int (pe_op op_mod (pe_op op_fdiv (pv 3) pe_int) pe_int)) pa_nil)) (pg_name (i := 6) nd rfl (by first | exact Or.inl rfl | exact Or.inr rfl))
  (pss_cons (ps_set (i := 7) nd rfl (by first | exact Or.inl rfl | exact Or.inr rfl) (pe_callF c_law_mixed hr rfl (pa_cons (pe_callF c_law_cell_at hr rfl (pa_cons (pv 0) (pa_cons (pe_op op_add (pe_op op_add (pv 1) pe_int) (pv 6)) pa_nil))) (pa_cons pe_int pa_nil))))
  (pss_cons (ps_set (i := 8) nd rfl (by first | exact Or.inl rfl | exact Or.inr rfl) (pe_op op_mod (pe_ix ix_list (pv 7) pe_int (fun _ _ => rfl)) (pe_callB call_len_seq rfl B.len bb_len (pa_cons (pv 2) pa_nil))))
  (pss_cons (ps_set (i := 9) nd rfl (by first | exact Or.inl rfl | exact Or.inr rfl) (pe_op op_mod (pe_op op_add (pe_op op_add (pv 8) pe_int) (pe_op op_mod (pe_ix ix_list (pv 7) pe_int (fun _ _ => rfl)) (pe_op op_sub (pe_callB call_len_seq rfl B.len bb_len (pa_cons (pv 2) pa_nil)) pe_int))) (pe_callB call_len_seq rfl B.len bb_len (pa_cons (pv 2) pa_nil))))
  (pss_cons (ps_if (pt_cmpR op_eq (pe_op op_mod (pv 3) pe_int) pe_int (nomark _))
  (pss_cons (ps_set (i := 8) nd rfl (by first | exact Or.inl rfl | exact Or.inr rfl) (pe_op op_mod (pv 6) (pe_callB call_len_seq rfl B.len bb_len (pa_cons (pv 2) pa_nil))))
  (pss_one (ps_set (i := 9) nd rfl (by first | exact Or.inl rfl | exact Or.inr rfl) (pe_op op_mod (pe_op op_add (pv 6) pe_int) (pe_callB call_len_seq rfl B.len bb_len (pa_cons (pv 2) pa_nil))))))
  pss_nil)
  (pss_one (ps_for hpo rfl (pi_list (pe_slice sl_list (pe_lst (pa_cons (pe_tup (pa_cons (pv 8) (pa_cons (pv 9) pa_nil))) (pa_cons (pe_tup (pa_cons (pv 9) (pa_cons (pv 8) pa_nil))) pa_nil))) po_none (po_some (pe_op op_add pe_int (pe_callTy call_int1 rfl B.int bb_int (pa_cons (pe_cmpR op_eq (pe_op op_mod (pv 3) pe_int) pe_int (nomark _)) pa_nil)))))) (pg_name (i := 10) nd rfl (by first | exact Or.inl rfl | exact Or.inr rfl))
  (pss_one (ps_if (PW.pt (pw_and (pt_cmpR (op_notInD hu) (pv 10) (pv 4) (by with_unfolding_all rfl)) (pw_and1 (pt_cmpR op_lt (pe_callB call_len_seq rfl B.len bb_len (pa_cons (pv 4) pa_nil)) pe_int (nomark _)))))
  (pss_cons (ps_expr (pe_bm PySem.F.plainAttrs_list PySem.F.slot_list_append PySem.F.type_list_append mt_append (pv 4) (pa_cons (pv 10) pa_nil)))
  (pss_cons (ps_set (i := 11) nd rfl (by first | exact Or.inl rfl | exact Or.inr rfl) (pe_callF c_law_pace hr rfl (pa_cons (pe_ix ix_list (pv 7) (pe_op op_add pe_int (pe_op op_mod (pe_ix ix_tup (pv 10) pe_int (fun _ _ => rfl)) pe_int)) (fun _ _ => rfl)) (pa_cons (pe_ix ix_list (pv 7) (pe_op op_add pe_int (pe_op op_mod (pe_ix ix_tup (pv 10) pe_int (fun _ _ => rfl)) pe_int)) (fun _ _ => rfl)) (pa_cons (pe_cmpR op_eq (pe_op op_mod (pe_op op_fdiv (pv 3) pe_int) pe_int) pe_int (nomark _)) pa_nil)))))
  (pss_one (ps_expr (pe_bm PySem.F.plainAttrs_list PySem.F.slot_list_append PySem.F.type_list_append mt_append (pv 5) (pa_cons (pe_tup (pa_cons (pe_ix ix_list (pv 2) (pe_ix ix_tup (pv 10) pe_int (fun _ _ => rfl)) (fun _ _ => rfl)) (pa_cons (pe_ix ix_list (pv 2) (pe_ix ix_tup (pv 10) pe_int (fun _ _ => rfl)) (fun _ _ => rfl)) (pa_cons (pv 11) pa_nil)))) pa_nil))))))
  pss_nil)))))))))
  (pss_one (ps_ret (pv 5))))))), (rd_turn rfl h)⟩
theorem ok_law_vessel {nq : Addr} (G : Cn K mg nq) {pD : Addr} (Tpw : KD P w K mg "PIECES_WRITTEN" pD kvPW) (F : FunAt K mg "_law_vessel" (top 50) ["_law_script"]) (B : Blt mg) (c_law_words : FnC P w K mg base CX0 4 "_law_words" ["_law_script", "_law_at", "_law_many"] (spWords K)) (c_law_cell_at : FnC P w K mg base CX0 4 "_law_cell_at" ["_law_script", "_law_k"] (spCell K)) (c_law_turnings : FnC P w K mg base CX0 4 "_law_turnings" ["_law_script", "_law_at", "_law_pool_here"] (spTurn K)) (c_law_pool : FnC P w K mg base CX0 4 "_law_pool" ["_law_script", "_law_at", "_law_many"] (spPool K)) : FnC P w K mg base CX0 5 "_law_vessel" ["_law_script"] (spVessel K) := by
  refine F.ok sc_law_vessel (fun vs H Q E h => len_vessel h) (fun f cdv A outer s H vs Q E hr h => ?_)
  have nd := sc_law_vessel.nd
  have hpo := fun {M A env} => @PassesOwn.never M A env
  have hu := hr.units
  have hu1 := Nat.lt_of_le_of_lt (Nat.add_le_add_left (by decide : 1 ≤ 64) _) hu
  have own : OwnFr (cxOf CX0 P w K mg base ["_law_script", "_law_many", "_law_words_here"] "_law_vessel" (defScope (top 50)) f cdv A outer s H E).nox := ⟨rfl, rfl, rfl⟩
  exact ⟨t_vessel K, (pss_cons (ps_set (i := 1) nd rfl (by first | exact Or.inl rfl | exact Or.inr rfl) (pe_op op_add pe_int (pe_op op_mod (pe_callF c_law_cell_at hr rfl (pa_cons (pv 0) (pa_cons pe_int pa_nil))) pe_int)))
  (pss_cons (ps_set (i := 2) nd rfl (by first | exact Or.inl rfl | exact Or.inr rfl) (pe_callF c_law_words hr rfl (pa_cons (pv 0) (pa_cons pe_int (pa_cons (pv 1) pa_nil)))))
  (pss_one (ps_ret (pe_tup (pa_cons (pe_callTy call_tuple_of rfl B.tuple bb_tuple (pa_cons (pv 2) pa_nil)) (pa_cons (pe_callTy call_tuple_of rfl B.tuple bb_tuple (pa_cons (pe_callF c_law_turnings hr rfl (pa_cons (pv 0) (pa_cons pe_int (pa_cons (pe_callF c_law_pool hr rfl (pa_cons (pv 0) (pa_cons pe_int (pa_cons (pv 1) pa_nil)))) pa_nil)))) pa_nil)) pa_nil))))))), (rd_vessel rfl h)⟩
theorem ok_same0 (F : FunAt K mg "_law_same" (top 51) ["_law_found", "_law_due"]) (B : Blt mg) : FnC P w K mg base CX0 1 "_law_same" ["_law_found", "_law_due"] (spSame K 0) := by
  refine F.ok sc_law_same (fun vs H Q E h => len_same h) (fun f cdv A outer s H vs Q E hr h => ?_)
  have nd := sc_law_same.nd
  have hpo := fun {M A env} => @PassesOwn.never M A env
  have hu := hr.units
  exact ⟨t_same0 K, (pss_cons (ps_if (PW.pt (pw_or (pt_val (pe_callB call_isi rfl B.isinstance bb_isinstance (pa_cons (pv 1) (pa_cons (pe_bltn rfl B.tuple bb_tuple rfl) pa_nil)))) (pw_or1 (pt_val (pe_callB call_isi rfl B.isinstance bb_isinstance (pa_cons (pv 1) (pa_cons (pe_bltn rfl B.list bb_list rfl) pa_nil)))))))
  pss_never
  pss_nil)
  (pss_cons (ps_if (pt_val (pe_callB call_isi rfl B.isinstance bb_isinstance (pa_cons (pv 1) (pa_cons (pe_bltn rfl B.bool bb_bool rfl) pa_nil))))
  (pss_one (ps_ret (pe_and (pe_callB call_isi rfl B.isinstance bb_isinstance (pa_cons (pv 0) (pa_cons (pe_bltn rfl B.bool bb_bool rfl) pa_nil))) (pe_one (pe_cmpR op_eq (pv 0) (pv 1) (nomark _))))))
  pss_nil)
  (pss_cons (ps_if (pt_val (pe_callB call_isi rfl B.isinstance bb_isinstance (pa_cons (pv 1) (pa_cons (pe_bltn rfl B.int bb_int rfl) pa_nil))))
  (pss_one (ps_ret (pe_and (pe_callB call_isi rfl B.isinstance bb_isinstance (pa_cons (pv 0) (pa_cons (pe_bltn rfl B.int bb_int rfl) pa_nil))) (pe_and (pe_not (pe_callB call_isi rfl B.isinstance bb_isinstance (pa_cons (pv 0) (pa_cons (pe_bltn rfl B.bool bb_bool rfl) pa_nil)))) (pe_one (pe_cmpR op_eq (pv 0) (pv 1) (nomark _)))))))
  pss_nil)
  (pss_cons (ps_if (pt_val (pe_callB call_isi rfl B.isinstance bb_isinstance (pa_cons (pv 1) (pa_cons (pe_bltn rfl B.str bb_str rfl) pa_nil))))
  (pss_one (ps_ret (pe_and (pe_callB call_isi rfl B.isinstance bb_isinstance (pa_cons (pv 0) (pa_cons (pe_bltn rfl B.str bb_str rfl) pa_nil))) (pe_one (pe_cmpR op_eq (pv 0) (pv 1) (nomark _))))))
  pss_nil)
  (pss_one (ps_ret (pe_and (pe_cmpR op_isN (pv 1) pe_non (nomark _)) (pe_one (pe_cmpR op_isN (pv 0) pe_non (nomark _)))))))))), (rd_same0 rfl h)⟩
theorem ok_sameS {m : Nat} (F : FunAt K mg "_law_same" (top 51) ["_law_found", "_law_due"]) (B : Blt mg) (c_law_same : FnC P w K mg base CX0 (m + 1) "_law_same" ["_law_found", "_law_due"] (spSame K m)) : FnC P w K mg base CX0 (m + 2) "_law_same" ["_law_found", "_law_due"] (spSame K (m + 1)) := by
  refine F.ok sc_law_same (fun vs H Q E h => len_same h) (fun f cdv A outer s H vs Q E hr h => ?_)
  have nd := sc_law_same.nd
  have hpo := fun {M A env} => @PassesOwn.never M A env
  have hu := hr.units
  exact ⟨t_same K m, (pss_cons (ps_if (PW.pt (pw_or (pt_val (pe_callB call_isi rfl B.isinstance bb_isinstance (pa_cons (pv 1) (pa_cons (pe_bltn rfl B.tuple bb_tuple rfl) pa_nil)))) (pw_or1 (pt_val (pe_callB call_isi rfl B.isinstance bb_isinstance (pa_cons (pv 1) (pa_cons (pe_bltn rfl B.list bb_list rfl) pa_nil)))))))
  (pss_cons (ps_if (PW.pt (pw_or (pt_cmpR op_ne (pe_callB call_isi rfl B.isinstance bb_isinstance (pa_cons (pv 0) (pa_cons (pe_bltn rfl B.tuple bb_tuple rfl) pa_nil))) (pe_callB call_isi rfl B.isinstance bb_isinstance (pa_cons (pv 1) (pa_cons (pe_bltn rfl B.tuple bb_tuple rfl) pa_nil))) (nomark _)) (pw_or1 (pt_cmpR op_ne (pe_callB call_isi rfl B.isinstance bb_isinstance (pa_cons (pv 0) (pa_cons (pe_bltn rfl B.list bb_list rfl) pa_nil))) (pe_callB call_isi rfl B.isinstance bb_isinstance (pa_cons (pv 1) (pa_cons (pe_bltn rfl B.list bb_list rfl) pa_nil))) (nomark _)))))
  (pss_one (ps_ret pe_bl))
  pss_nil)
  (pss_cons (ps_if (pt_cmpR op_ne (pe_callB call_len_seq rfl B.len bb_len (pa_cons (pv 0) pa_nil)) (pe_callB call_len_seq rfl B.len bb_len (pa_cons (pv 1) pa_nil)) (nomark _))
  (pss_one (ps_ret pe_bl))
  pss_nil)
  (pss_cons (ps_for hpo rfl (pi_range1 rfl B.range (pa_cons (pe_callB call_len_seq rfl B.len bb_len (pa_cons (pv 1) pa_nil)) pa_nil)) (pg_name (i := 2) nd rfl (by first | exact Or.inl rfl | exact Or.inr rfl))
  (pss_one (ps_if (pt_not (pt_val (pe_callF c_law_same hr rfl (pa_cons (pe_ix ix_seq (pv 0) (pv 2) (fun _ _ => rfl)) (pa_cons (pe_ix ix_seq (pv 1) (pv 2) (fun _ _ => rfl)) pa_nil)))))
  (pss_one (ps_ret pe_bl))
  pss_nil)))
  (pss_one (ps_ret pe_bl)))))
  pss_nil)
  (pss_cons (ps_if (pt_val (pe_callB call_isi rfl B.isinstance bb_isinstance (pa_cons (pv 1) (pa_cons (pe_bltn rfl B.bool bb_bool rfl) pa_nil))))
  (pss_one (ps_ret (pe_and (pe_callB call_isi rfl B.isinstance bb_isinstance (pa_cons (pv 0) (pa_cons (pe_bltn rfl B.bool bb_bool rfl) pa_nil))) (pe_one (pe_cmpR op_eq (pv 0) (pv 1) (nomark _))))))
  pss_nil)
  (pss_cons (ps_if (pt_val (pe_callB call_isi rfl B.isinstance bb_isinstance (pa_cons (pv 1) (pa_cons (pe_bltn rfl B.int bb_int rfl) pa_nil))))
  (pss_one (ps_ret (pe_and (pe_callB call_isi rfl B.isinstance bb_isinstance (pa_cons (pv 0) (pa_cons (pe_bltn rfl B.int bb_int rfl) pa_nil))) (pe_and (pe_not (pe_callB call_isi rfl B.isinstance bb_isinstance (pa_cons (pv 0) (pa_cons (pe_bltn rfl B.bool bb_bool rfl) pa_nil)))) (pe_one (pe_cmpR op_eq (pv 0) (pv 1) (nomark _)))))))
  pss_nil)
  (pss_cons (ps_if (pt_val (pe_callB call_isi rfl B.isinstance bb_isinstance (pa_cons (pv 1) (pa_cons (pe_bltn rfl B.str bb_str rfl) pa_nil))))
  (pss_one (ps_ret (pe_and (pe_callB call_isi rfl B.isinstance bb_isinstance (pa_cons (pv 0) (pa_cons (pe_bltn rfl B.str bb_str rfl) pa_nil))) (pe_one (pe_cmpR op_eq (pv 0) (pv 1) (nomark _))))))
  pss_nil)
  (pss_one (ps_ret (pe_and (pe_cmpR op_isN (pv 1) pe_non (nomark _)) (pe_one (pe_cmpR op_isN (pv 0) pe_non (nomark _)))))))))), (rd_same rfl h)⟩
theorem ok_same (F : FunAt K mg "_law_same" (top 51) ["_law_found", "_law_due"]) (B : Blt mg) : ∀ m : Nat, FnC P w K mg base CX0 (m + 1) "_law_same" ["_law_found", "_law_due"] (spSame K m)
  | 0 => ok_same0 F B
  | m + 1 => ok_sameS F B (ok_same F B m)
theorem ok_law_heap_text {nq : Addr} (G : Cn K mg nq) {pD : Addr} (Tpw : KD P w K mg "PIECES_WRITTEN" pD kvPW) (F : FunAt K mg "_law_heap_text" (top 52) ["_law_words_here", "_law_heap_here"]) (B : Blt mg)  : FnC P w K mg base CX0 1 "_law_heap_text" ["_law_words_here", "_law_heap_here"] (spHeapTL K) := by
  refine F.ok sc_law_heap_text (fun vs H Q E h => len_heapTL h) (fun f cdv A outer s H vs Q E hr h => ?_)
  have nd := sc_law_heap_text.nd
  have hpo := fun {M A env} => @PassesOwn.never M A env
  have hu := hr.units
  have hu1 := Nat.lt_of_le_of_lt (Nat.add_le_add_left (by decide : 1 ≤ 64) _) hu
  have own : OwnFr (cxOf CX0 P w K mg base ["_law_words_here", "_law_heap_here", "_law_found", "_law_k"] "_law_heap_text" (defScope (top 52)) f cdv A outer s H E).nox := ⟨rfl, rfl, rfl⟩
  exact ⟨t_lheapTL K, (pss_cons (ps_set (i := 2) nd rfl (by first | exact Or.inl rfl | exact Or.inr rfl) (pe_lst pa_nil))
  (pss_cons (ps_for hpo rfl (pi_range1 rfl B.range (pa_cons (pe_callB call_len_seq rfl B.len bb_len (pa_cons (pv 0) pa_nil)) pa_nil)) (pg_name (i := 3) nd rfl (by first | exact Or.inl rfl | exact Or.inr rfl))
  (pss_one (ps_if (pt_cmpR op_gt (pe_ix ix_tup (pv 1) (pv 3) (fun _ _ => rfl)) pe_int (nomark _))
  (pss_one (ps_expr (pe_bm PySem.F.plainAttrs_list PySem.F.slot_list_append PySem.F.type_list_append mt_append (pv 2) (pa_cons (pe_ix ix_list (pe_lst (pa_cons pe_str (pa_cons (pe_ix ix_list (pv 0) (pv 3) (fun _ _ => rfl)) (pa_cons (pe_op op_add_str pe_str (pe_ix ix_list (pv 0) (pv 3) (fun _ _ => rfl))) (pa_cons (pe_op op_add_str pe_str (pe_ix ix_list (pv 0) (pv 3) (fun _ _ => rfl))) pa_nil))))) (pe_ix ix_tup (pv 1) (pv 3) (fun _ _ => rfl)) (fun _ _ => rfl)) pa_nil))))
  pss_nil)))
  (pss_cons (ps_if (pt_cmpR (op_eqD hu) (pv 2) (pe_lst pa_nil) (nomark _))
  (pss_one (ps_ret pe_str))
  pss_nil)
  (pss_one (ps_ret (pe_bm PySem.F.plainAttrs_str PySem.F.slot_str_join PySem.F.type_str_join mt_join pe_str (pa_cons (pv 2) pa_nil))))))), (rd_lheapTL rfl h)⟩
theorem ok_law_turning_text {nq : Addr} (G : Cn K mg nq) {pD : Addr} (Tpw : KD P w K mg "PIECES_WRITTEN" pD kvPW) (F : FunAt K mg "_law_turning_text" (top 53) ["_law_words_here", "_law_turning"]) (B : Blt mg) (c_law_heap_text : FnC P w K mg base CX0 1 "_law_heap_text" ["_law_words_here", "_law_heap_here"] (spHeapTL K)) : FnC P w K mg base CX0 2 "_law_turning_text" ["_law_words_here", "_law_turning"] (spTurnTL K) := by
  refine F.ok sc_law_turning_text (fun vs H Q E h => len_turnTL h) (fun f cdv A outer s H vs Q E hr h => ?_)
  have nd := sc_law_turning_text.nd
  have hpo := fun {M A env} => @PassesOwn.never M A env
  have hu := hr.units
  have hu1 := Nat.lt_of_le_of_lt (Nat.add_le_add_left (by decide : 1 ≤ 64) _) hu
  have own : OwnFr (cxOf CX0 P w K mg base ["_law_words_here", "_law_turning", "_law_pace_here", "_law_sides"] "_law_turning_text" (defScope (top 53)) f cdv A outer s H E).nox := ⟨rfl, rfl, rfl⟩
  exact ⟨t_lturnTL K, (pss_cons (ps_set (i := 2) nd rfl (by first | exact Or.inl rfl | exact Or.inr rfl) (pe_callTy call_strI rfl B.str bb_str (pa_cons (pe_ix ix_tup (pe_ix ix_tup (pv 1) pe_int (fun _ _ => rfl)) pe_int (fun _ _ => rfl)) pa_nil)))
  (pss_cons (ps_if (pt_cmpR op_gt (pe_ix ix_tup (pe_ix ix_tup (pv 1) pe_int (fun _ _ => rfl)) pe_int (fun _ _ => rfl)) pe_int (nomark _))
  (pss_one (ps_set (i := 2) nd rfl (by first | exact Or.inl rfl | exact Or.inr rfl) (pe_op op_add_str (pe_op op_add_str (pv 2) pe_str) (pe_callTy call_strI rfl B.str bb_str (pa_cons (pe_ix ix_tup (pe_ix ix_tup (pv 1) pe_int (fun _ _ => rfl)) pe_int (fun _ _ => rfl)) pa_nil)))))
  pss_nil)
  (pss_cons (ps_set (i := 3) nd rfl (by first | exact Or.inl rfl | exact Or.inr rfl) (pe_op op_add_str (pe_op op_add_str (pe_callF c_law_heap_text hr rfl (pa_cons (pv 0) (pa_cons (pe_ix ix_tup (pv 1) pe_int (fun _ _ => rfl)) pa_nil))) pe_str) (pe_callF c_law_heap_text hr rfl (pa_cons (pv 0) (pa_cons (pe_ix ix_tup (pv 1) pe_int (fun _ _ => rfl)) pa_nil)))))
  (pss_one (ps_ret (pe_op op_add_str (pe_op op_add_str (pv 3) pe_str) (pv 2))))))), (rd_lturnTL rfl h)⟩
theorem ok_law {nq : Addr} (G : Cn K mg nq) {pD : Addr} (Tpw : KD P w K mg "PIECES_WRITTEN" pD kvPW) {f : Addr} {fd : FuncData} (F : Fun K "law" "law" (top 54) f fd) (B : Blt mg) (c_law_vessel : FnC P w K mg base CX0 5 "_law_vessel" ["_law_script"] (spVessel K)) (c_law_same : FnC P w K mg base CX0 5 "_law_same" ["_law_found", "_law_due"] (spSame K 4)) (c_law_turning_text : FnC P w K mg base CX0 5 "_law_turning_text" ["_law_words_here", "_law_turning"] (spTurnTL K)) (c_read : FnC P w K mg base CX0 5 "read" ["words", "texts"] (spRead K)) : FnOk P w K mg base CX0 6 f fd ["_law_script"] (spLaw K) := by
  refine F.ok sc_law (fun vs H Q E h => ?_) (fun cdv A outer s H vs Q E hr h => ?_)
  · obtain ⟨a, ns, rfl, _⟩ := h
    rfl
  have nd := sc_law.nd
  have hpo := fun {M A env} => @PassesOwn.never M A env
  have hu := hr.units
  have hu1 := Nat.lt_of_le_of_lt (Nat.add_le_add_left (by decide : 1 ≤ 64) _) hu
  exact ⟨t_law K, (pss_cons (ps_set (i := 1) nd rfl (by first | exact Or.inl rfl | exact Or.inr rfl) (pe_callF c_law_vessel hr rfl (pa_cons (pv 0) pa_nil)))
  (pss_cons (ps_set (i := 2) nd rfl (by first | exact Or.inl rfl | exact Or.inr rfl) (pe_callTy call_list_of rfl B.list bb_list (pa_cons (pe_ix ix_tup (pv 1) pe_int (fun _ _ => rfl)) pa_nil)))
  (pss_cons (ps_lc (M := ["_law_script", "_law_vessel_here", "_law_words_here", "_law_texts", "_law_handed", "_law_k"]) (i := 3) nd rfl rfl (by show CompS (defScope (top 54)) ["_law_script", "_law_vessel_here", "_law_words_here", "_law_texts", "_law_handed", "_law_k"] ["_law_script", "_law_vessel_here", "_law_words_here", "_law_texts", "_law_handed", "_law_k"] _ _; exact ⟨rfl, by decide +kernel, by decide +kernel, by decide +kernel, by decide +kernel, rfl, by decide +kernel, by decide +kernel, by decide +kernel⟩) rfl (pi_tup (pe_ix ix_tup (pv 1) pe_int (fun _ _ => rfl))) (fun _ _ _ _ _ => (pe_callF c_law_turning_text hr rfl (pa_cons (pv 3) (pa_cons (pv 0) pa_nil)))))
  (pss_cons (ps_set (i := 4) nd rfl (by first | exact Or.inl rfl | exact Or.inr rfl) (pe_lst (pa_cons (pe_callTy call_list_of rfl B.list bb_list (pa_cons (pv 2) pa_nil)) (pa_cons (pe_callTy call_list_of rfl B.list bb_list (pa_cons (pv 3) pa_nil)) pa_nil))))
  (pss_cons (ps_for hpo rfl (pi_range1 rfl B.range (pa_cons pe_int pa_nil)) (pg_name (i := 5) nd rfl (by first | exact Or.inl rfl | exact Or.inr rfl))
  (pss_cons (ps_if (pt_not (pt_val (pe_callF c_law_same hr rfl (pa_cons (pe_callF c_read hr rfl (pa_cons (pe_ix ix_list (pv 4) pe_int (fun _ _ => rfl)) (pa_cons (pe_ix ix_list (pv 4) pe_int (fun _ _ => rfl)) pa_nil))) (pa_cons (pv 1) pa_nil)))))
  (pss_one (ps_ret pe_bl))
  pss_nil)
  (pss_one (ps_if (pt_not (pt_val (pe_callF c_law_same hr rfl (pa_cons (pe_callF c_read hr rfl (pa_cons (pe_ix ix_list (pv 4) pe_int (fun _ _ => rfl)) (pa_cons (pe_revL (pv 3) (pe_un un_neg pe_int)) pa_nil))) (pa_cons (pe_tup (pa_cons (pe_ix ix_tup (pv 1) pe_int (fun _ _ => rfl)) (pa_cons (pe_revT (pe_ix ix_tup (pv 1) pe_int (fun _ _ => rfl)) (pe_un un_neg pe_int)) pa_nil))) pa_nil)))))
  (pss_one (ps_ret pe_bl))
  pss_nil))))
  (pss_one (ps_ret (pe_callF c_law_same hr rfl (pa_cons (pv 4) (pa_cons (pe_lst (pa_cons (pv 2) (pa_cons (pv 3) pa_nil))) pa_nil)))))))))), (rd_law h)⟩
end
section
variable {P : Program} {w : World} {K : PySem.W.Frag} {mg : Str → Option Value} {base : Heap}
theorem ok_all {nq : Addr} (G : Cn K mg nq) {pD : Addr} (Tpw : KD P w K mg "PIECES_WRITTEN" pD kvPW) {f : Addr} {fd : FuncData} (F : Fun K "law" "law" (top 54) f fd) (B : Blt mg) (F0 : FunAt K mg "whole" (top 9) ["value"]) (F1 : FunAt K mg "greatest_divisor" (top 10) ["one", "two"]) (F2 : FunAt K mg "fraction" (top 11) ["top", "bottom"]) (F3 : FunAt K mg "before" (top 12) ["one", "two"]) (F4 : FunAt K mg "is_word" (top 20) ["word"]) (F5 : FunAt K mg "stuffs_of" (top 21) ["words"]) (F6 : FunAt K mg "is_heap" (top 22) ["pieces", "size"]) (F7 : FunAt K mg "turnings_of" (top 23) ["rows", "size"]) (F8 : FunAt K mg "check_turnings" (top 24) ["turnings"]) (F9 : FunAt K mg "heaps_of" (top 25) ["turnings"]) (F10 : FunAt K mg "made" (top 26) ["words", "rows"]) (F11 : FunAt K mg "stuff_text" (top 29) ["word", "pieces"]) (F12 : FunAt K mg "heap_text" (top 30) ["stuffs", "heap"]) (F13 : FunAt K mg "pace_text" (top 31) ["pace"]) (F14 : FunAt K mg "turning_text" (top 32) ["stuffs", "turning"]) (F15 : FunAt K mg "heap_guessed" (top 33) ["stuffs", "text"]) (F16 : FunAt K mg "number_guessed" (top 34) ["text"]) (F17 : FunAt K mg "pace_guessed" (top 35) ["text"]) (F18 : FunAt K mg "turning_read" (top 36) ["stuffs", "text"]) (F19 : FunAt K mg "read" (top 37) ["words", "texts"]) (F20 : FunAt K mg "_law_cell_at" (top 39) ["_law_script", "_law_k"]) (F21 : FunAt K mg "_law_mixed" (top 40) ["_law_cell", "_law_many"]) (F22 : FunAt K mg "_law_divisor" (top 41) ["_law_one", "_law_other"]) (F23 : FunAt K mg "_law_lowest" (top 42) ["_law_top", "_law_bottom"]) (F24 : FunAt K mg "_law_base" (top 43) ["_law_cell", "_law_size"]) (F25 : FunAt K mg "_law_word" (top 44) ["_law_base_here", "_law_place", "_law_size", "_law_k"]) (F26 : FunAt K mg "_law_words" (top 45) ["_law_script", "_law_at", "_law_many"]) (F27 : FunAt K mg "_law_heap" (top 46) ["_law_number", "_law_many", "_law_most"]) (F28 : FunAt K mg "_law_pool" (top 47) ["_law_script", "_law_at", "_law_many"]) (F29 : FunAt K mg "_law_pace" (top 48) ["_law_number", "_law_other", "_law_great"]) (F30 : FunAt K mg "_law_turnings" (top 49) ["_law_script", "_law_at", "_law_pool_here"]) (F31 : FunAt K mg "_law_vessel" (top 50) ["_law_script"]) (F32 : FunAt K mg "_law_same" (top 51) ["_law_found", "_law_due"]) (F33 : FunAt K mg "_law_heap_text" (top 52) ["_law_words_here", "_law_heap_here"]) (F34 : FunAt K mg "_law_turning_text" (top 53) ["_law_words_here", "_law_turning"]) : FnOk P w K mg base CX0 6 f fd ["_law_script"] (spLaw K) := by
  have c_whole := ok_whole (P := P) (w := w) (base := base) G Tpw F0 B
  have c_greatest_divisor := ok_greatest_divisor (P := P) (w := w) (base := base) G Tpw F1 B
  have c_before := ok_before (P := P) (w := w) (base := base) G Tpw F3 B
  have c_is_word := ok_is_word (P := P) (w := w) (base := base) G Tpw F4 B
  have c_heaps_of := ok_heaps_of (P := P) (w := w) (base := base) G Tpw F9 B
  have c_stuff_text := ok_stuff_text (P := P) (w := w) (base := base) G Tpw F11 B
  have c_pace_text := ok_pace_text (P := P) (w := w) (base := base) G Tpw F13 B
  have c_heap_guessed := ok_heap_guessed (P := P) (w := w) (base := base) G Tpw F15 B
  have c_number_guessed := ok_number_guessed (P := P) (w := w) (base := base) G Tpw F16 B
  have c_law_cell_at := ok_law_cell_at (P := P) (w := w) (base := base) G Tpw F20 B
  have c_law_mixed := ok_law_mixed (P := P) (w := w) (base := base) G Tpw F21 B
  have c_law_divisor := ok_law_divisor (P := P) (w := w) (base := base) G Tpw F22 B
  have c_law_base := ok_law_base (P := P) (w := w) (base := base) G Tpw F24 B
  have c_law_word := ok_law_word (P := P) (w := w) (base := base) G Tpw F25 B
  have c_law_heap := ok_law_heap (P := P) (w := w) (base := base) G Tpw F27 B
  have c_law_heap_text := ok_law_heap_text (P := P) (w := w) (base := base) G Tpw F33 B
  have c_fraction := ok_fraction (P := P) (w := w) (base := base) G Tpw F2 B (c_greatest_divisor.mono (by decide : 1 ≤ 1)) (c_whole.mono (by decide : 1 ≤ 1))
  have c_stuffs_of := ok_stuffs_of (P := P) (w := w) (base := base) G Tpw F5 B (c_is_word.mono (by decide : 1 ≤ 1))
  have c_is_heap := ok_is_heap (P := P) (w := w) (base := base) G Tpw F6 B (c_whole.mono (by decide : 1 ≤ 1))
  have c_check_turnings := ok_check_turnings (P := P) (w := w) (base := base) G Tpw F8 B (c_heaps_of.mono (by decide : 1 ≤ 1))
  have c_heap_text := ok_heap_text (P := P) (w := w) (base := base) G Tpw F12 B (c_stuff_text.mono (by decide : 1 ≤ 1))
  have c_law_lowest := ok_law_lowest (P := P) (w := w) (base := base) G Tpw F23 B (c_law_divisor.mono (by decide : 1 ≤ 1))
  have c_law_words := ok_law_words (P := P) (w := w) (base := base) G Tpw F26 B (c_law_cell_at.mono (by decide : 1 ≤ 1)) (c_law_base.mono (by decide : 1 ≤ 1)) (c_law_word.mono (by decide : 1 ≤ 1))
  have c_law_pool := ok_law_pool (P := P) (w := w) (base := base) G Tpw F28 B (c_law_cell_at.mono (by decide : 1 ≤ 1)) (c_law_heap.mono (by decide : 1 ≤ 1)) (c_law_mixed.mono (by decide : 1 ≤ 1))
  have c_law_turning_text := ok_law_turning_text (P := P) (w := w) (base := base) G Tpw F34 B (c_law_heap_text.mono (by decide : 1 ≤ 1))
  have c_turnings_of := ok_turnings_of (P := P) (w := w) (base := base) G Tpw F7 B (c_before.mono (by decide : 1 ≤ 2)) (c_is_heap.mono (by decide : 2 ≤ 2))
  have c_turning_text := ok_turning_text (P := P) (w := w) (base := base) G Tpw F14 B (c_heap_text.mono (by decide : 2 ≤ 2)) (c_pace_text.mono (by decide : 1 ≤ 2))
  have c_pace_guessed := ok_pace_guessed (P := P) (w := w) (base := base) G Tpw F17 B (c_number_guessed.mono (by decide : 1 ≤ 2)) (c_fraction.mono (by decide : 2 ≤ 2))
  have c_law_pace := ok_law_pace (P := P) (w := w) (base := base) G Tpw F29 B (c_law_lowest.mono (by decide : 2 ≤ 2))
  have c_made := ok_made (P := P) (w := w) (base := base) G Tpw F10 B (c_stuffs_of.mono (by decide : 2 ≤ 3)) (c_turnings_of.mono (by decide : 3 ≤ 3)) (c_check_turnings.mono (by decide : 2 ≤ 3))
  have c_turning_read := ok_turning_read (P := P) (w := w) (base := base) G Tpw F18 B (c_pace_guessed.mono (by decide : 3 ≤ 3)) (c_heap_guessed.mono (by decide : 1 ≤ 3)) (c_turning_text.mono (by decide : 3 ≤ 3))
  have c_law_turnings := ok_law_turnings (P := P) (w := w) (base := base) G Tpw F30 B (c_law_cell_at.mono (by decide : 1 ≤ 3)) (c_law_mixed.mono (by decide : 1 ≤ 3)) (c_law_pace.mono (by decide : 3 ≤ 3))
  have c_read := ok_read (P := P) (w := w) (base := base) G Tpw F19 B (c_stuffs_of.mono (by decide : 2 ≤ 4)) (c_made.mono (by decide : 4 ≤ 4)) (c_turning_read.mono (by decide : 4 ≤ 4))
  have c_law_vessel := ok_law_vessel (P := P) (w := w) (base := base) G Tpw F31 B (c_law_words.mono (by decide : 2 ≤ 4)) (c_law_cell_at.mono (by decide : 1 ≤ 4)) (c_law_turnings.mono (by decide : 4 ≤ 4)) (c_law_pool.mono (by decide : 2 ≤ 4))
  have c_law_same := ok_same (P := P) (w := w) (base := base) F32 B 4
  exact ok_law (P := P) (w := w) (base := base) G Tpw F B (c_law_vessel.mono (by decide : 5 ≤ 5)) (c_law_same.mono (by decide : 5 ≤ 5)) (c_law_turning_text.mono (by decide : 2 ≤ 5)) (c_read.mono (by decide : 5 ≤ 5))
end
theorem bd1 {G : Value → Value → Value → Option Addr → Value → Value → FuncData} {ps : List Str} (e : ps.length = 1) (h : ∀ (a b c : Value) (d : Option Addr) (x y u0 : Value), bindArgs (G a b c d x y) ⟨[u0], []⟩ = pure (ps.zip [u0])) (a b c : Value) (d : Option Addr) (x y : Value) (us : List Value) (hl : us.length = ps.length) : bindArgs (G a b c d x y) ⟨us, []⟩ = pure (ps.zip us) := by
  have e0 : us.length = 1 := hl.trans e; obtain ⟨u0, us, rfl⟩ := List.exists_cons_of_length_eq_add_one e0; cases List.eq_nil_of_length_eq_zero (Nat.succ.inj e0); exact h a b c d x y u0
theorem bd2 {G : Value → Value → Value → Option Addr → Value → Value → FuncData} {ps : List Str} (e : ps.length = 2) (h : ∀ (a b c : Value) (d : Option Addr) (x y u0 u1 : Value), bindArgs (G a b c d x y) ⟨[u0, u1], []⟩ = pure (ps.zip [u0, u1])) (a b c : Value) (d : Option Addr) (x y : Value) (us : List Value) (hl : us.length = ps.length) : bindArgs (G a b c d x y) ⟨us, []⟩ = pure (ps.zip us) := by
  have e0 : us.length = 2 := hl.trans e; obtain ⟨u0, us, rfl⟩ := List.exists_cons_of_length_eq_add_one e0; have e1 : us.length = 1 := Nat.succ.inj e0; obtain ⟨u1, us, rfl⟩ := List.exists_cons_of_length_eq_add_one e1; cases List.eq_nil_of_length_eq_zero (Nat.succ.inj e1); exact h a b c d x y u0 u1
theorem bd3 {G : Value → Value → Value → Option Addr → Value → Value → FuncData} {ps : List Str} (e : ps.length = 3) (h : ∀ (a b c : Value) (d : Option Addr) (x y u0 u1 u2 : Value), bindArgs (G a b c d x y) ⟨[u0, u1, u2], []⟩ = pure (ps.zip [u0, u1, u2])) (a b c : Value) (d : Option Addr) (x y : Value) (us : List Value) (hl : us.length = ps.length) : bindArgs (G a b c d x y) ⟨us, []⟩ = pure (ps.zip us) := by
  have e0 : us.length = 3 := hl.trans e; obtain ⟨u0, us, rfl⟩ := List.exists_cons_of_length_eq_add_one e0; have e1 : us.length = 2 := Nat.succ.inj e0; obtain ⟨u1, us, rfl⟩ := List.exists_cons_of_length_eq_add_one e1; have e2 : us.length = 1 := Nat.succ.inj e1; obtain ⟨u2, us, rfl⟩ := List.exists_cons_of_length_eq_add_one e2; cases List.eq_nil_of_length_eq_zero (Nat.succ.inj e2); exact h a b c d x y u0 u1 u2
theorem bd4 {G : Value → Value → Value → Option Addr → Value → Value → FuncData} {ps : List Str} (e : ps.length = 4) (h : ∀ (a b c : Value) (d : Option Addr) (x y u0 u1 u2 u3 : Value), bindArgs (G a b c d x y) ⟨[u0, u1, u2, u3], []⟩ = pure (ps.zip [u0, u1, u2, u3])) (a b c : Value) (d : Option Addr) (x y : Value) (us : List Value) (hl : us.length = ps.length) : bindArgs (G a b c d x y) ⟨us, []⟩ = pure (ps.zip us) := by
  have e0 : us.length = 4 := hl.trans e; obtain ⟨u0, us, rfl⟩ := List.exists_cons_of_length_eq_add_one e0; have e1 : us.length = 3 := Nat.succ.inj e0; obtain ⟨u1, us, rfl⟩ := List.exists_cons_of_length_eq_add_one e1; have e2 : us.length = 2 := Nat.succ.inj e1; obtain ⟨u2, us, rfl⟩ := List.exists_cons_of_length_eq_add_one e2; have e3 : us.length = 1 := Nat.succ.inj e2; obtain ⟨u3, us, rfl⟩ := List.exists_cons_of_length_eq_add_one e3; cases List.eq_nil_of_length_eq_zero (Nat.succ.inj e3); exact h a b c d x y u0 u1 u2 u3
theorem all_mk {l : PySem.W.OpenLaw} {w : World} {K : PySem.W.Frag} {h : Heap} {mg : Str → Option Value} {fa f0 f1 f2 f3 f4 f5 f6 f7 f8 f9 f10 f11 f12 f13 f14 f15 f16 f17 f18 f19 f20 f21 f22 f23 f24 f25 f26 f27 f28 f29 f30 f31 f32 f33 f34 f35 : Addr} (X : K.In h) (G : h.Ns mainGlobals mg) (hfa : mg "law" = some (.ref fa))
    {od0 an0 od1 an1 od2 an2 od3 an3 od4 an4 od5 an5 od6 an6 od7 an7 od8 an8 od9 an9 od10 an10 od11 an11 od12 an12 od13 an13 od14 an14 od15 an15 od16 an16 od17 an17 od18 an18 od19 an19 od20 an20 od21 an21 od22 an22 od23 an23 od24 an24 od25 an25 od26 an26 od27 an27 od28 an28 od29 an29 od30 an30 od31 an31 od32 an32 od33 an33 od34 an34 od35 an35 : Option Addr} {sl0 sl1 sl2 sl3 sl4 sl5 sl6 sl7 sl8 sl9 sl10 sl11 sl12 sl13 sl14 sl15 sl16 sl17 sl18 sl19 sl20 sl21 sl22 sl23 sl24 sl25 sl26 sl27 sl28 sl29 sl30 sl31 sl32 sl33 sl34 sl35 : Array (Option Value)} {oc0 kV0 dc0 pm0 cd0 ct0 oc1 kV1 dc1 pm1 cd1 ct1 oc2 kV2 dc2 pm2 cd2 ct2 oc3 kV3 dc3 pm3 cd3 ct3 oc4 kV4 dc4 pm4 cd4 ct4 oc5 kV5 dc5 pm5 cd5 ct5 oc6 kV6 dc6 pm6 cd6 ct6 oc7 kV7 dc7 pm7 cd7 ct7 oc8 kV8 dc8 pm8 cd8 ct8 oc9 kV9 dc9 pm9 cd9 ct9 oc10 kV10 dc10 pm10 cd10 ct10 oc11 kV11 dc11 pm11 cd11 ct11 oc12 kV12 dc12 pm12 cd12 ct12 oc13 kV13 dc13 pm13 cd13 ct13 oc14 kV14 dc14 pm14 cd14 ct14 oc15 kV15 dc15 pm15 cd15 ct15 oc16 kV16 dc16 pm16 cd16 ct16 oc17 kV17 dc17 pm17 cd17 ct17 oc18 kV18 dc18 pm18 cd18 ct18 oc19 kV19 dc19 pm19 cd19 ct19 oc20 kV20 dc20 pm20 cd20 ct20 oc21 kV21 dc21 pm21 cd21 ct21 oc22 kV22 dc22 pm22 cd22 ct22 oc23 kV23 dc23 pm23 cd23 ct23 oc24 kV24 dc24 pm24 cd24 ct24 oc25 kV25 dc25 pm25 cd25 ct25 oc26 kV26 dc26 pm26 cd26 ct26 oc27 kV27 dc27 pm27 cd27 ct27 oc28 kV28 dc28 pm28 cd28 ct28 oc29 kV29 dc29 pm29 cd29 ct29 oc30 kV30 dc30 pm30 cd30 ct30 oc31 kV31 dc31 pm31 cd31 ct31 oc32 kV32 dc32 pm32 cd32 ct32 oc33 kV33 dc33 pm33 cd33 ct33 oc34 kV34 dc34 pm34 cd34 ct34 oc35 kV35 dc35 pm35 cd35 ct35 : Value}
    (a0 : PySem.W.nsIn K mainGlobals "whole" = some (some (.ref f0))) (l0 : K.lookup f0 = some ⟨oc0, od0, .func (PySem.W.fnOf "whole" "whole" (defArgs (top 9)) (defBody (top 9)) (defScope (top 9)) .none kV0 dc0 pm0 an0 cd0 ct0), sl0⟩) (c0 : PySem.W.codeIn K cd0 "whole" = true) (k0 : PySem.W.keepIn K (.ref f0) = true)
    (a1 : PySem.W.nsIn K mainGlobals "greatest_divisor" = some (some (.ref f1))) (l1 : K.lookup f1 = some ⟨oc1, od1, .func (PySem.W.fnOf "greatest_divisor" "greatest_divisor" (defArgs (top 10)) (defBody (top 10)) (defScope (top 10)) .none kV1 dc1 pm1 an1 cd1 ct1), sl1⟩) (c1 : PySem.W.codeIn K cd1 "greatest_divisor" = true) (k1 : PySem.W.keepIn K (.ref f1) = true)
    (a2 : PySem.W.nsIn K mainGlobals "fraction" = some (some (.ref f2))) (l2 : K.lookup f2 = some ⟨oc2, od2, .func (PySem.W.fnOf "fraction" "fraction" (defArgs (top 11)) (defBody (top 11)) (defScope (top 11)) .none kV2 dc2 pm2 an2 cd2 ct2), sl2⟩) (c2 : PySem.W.codeIn K cd2 "fraction" = true) (k2 : PySem.W.keepIn K (.ref f2) = true)
    (a3 : PySem.W.nsIn K mainGlobals "before" = some (some (.ref f3))) (l3 : K.lookup f3 = some ⟨oc3, od3, .func (PySem.W.fnOf "before" "before" (defArgs (top 12)) (defBody (top 12)) (defScope (top 12)) .none kV3 dc3 pm3 an3 cd3 ct3), sl3⟩) (c3 : PySem.W.codeIn K cd3 "before" = true) (k3 : PySem.W.keepIn K (.ref f3) = true)
    (a4 : PySem.W.nsIn K mainGlobals "is_word" = some (some (.ref f4))) (l4 : K.lookup f4 = some ⟨oc4, od4, .func (PySem.W.fnOf "is_word" "is_word" (defArgs (top 20)) (defBody (top 20)) (defScope (top 20)) .none kV4 dc4 pm4 an4 cd4 ct4), sl4⟩) (c4 : PySem.W.codeIn K cd4 "is_word" = true) (k4 : PySem.W.keepIn K (.ref f4) = true)
    (a5 : PySem.W.nsIn K mainGlobals "stuffs_of" = some (some (.ref f5))) (l5 : K.lookup f5 = some ⟨oc5, od5, .func (PySem.W.fnOf "stuffs_of" "stuffs_of" (defArgs (top 21)) (defBody (top 21)) (defScope (top 21)) .none kV5 dc5 pm5 an5 cd5 ct5), sl5⟩) (c5 : PySem.W.codeIn K cd5 "stuffs_of" = true) (k5 : PySem.W.keepIn K (.ref f5) = true)
    (a6 : PySem.W.nsIn K mainGlobals "is_heap" = some (some (.ref f6))) (l6 : K.lookup f6 = some ⟨oc6, od6, .func (PySem.W.fnOf "is_heap" "is_heap" (defArgs (top 22)) (defBody (top 22)) (defScope (top 22)) .none kV6 dc6 pm6 an6 cd6 ct6), sl6⟩) (c6 : PySem.W.codeIn K cd6 "is_heap" = true) (k6 : PySem.W.keepIn K (.ref f6) = true)
    (a7 : PySem.W.nsIn K mainGlobals "turnings_of" = some (some (.ref f7))) (l7 : K.lookup f7 = some ⟨oc7, od7, .func (PySem.W.fnOf "turnings_of" "turnings_of" (defArgs (top 23)) (defBody (top 23)) (defScope (top 23)) .none kV7 dc7 pm7 an7 cd7 ct7), sl7⟩) (c7 : PySem.W.codeIn K cd7 "turnings_of" = true) (k7 : PySem.W.keepIn K (.ref f7) = true)
    (a8 : PySem.W.nsIn K mainGlobals "check_turnings" = some (some (.ref f8))) (l8 : K.lookup f8 = some ⟨oc8, od8, .func (PySem.W.fnOf "check_turnings" "check_turnings" (defArgs (top 24)) (defBody (top 24)) (defScope (top 24)) .none kV8 dc8 pm8 an8 cd8 ct8), sl8⟩) (c8 : PySem.W.codeIn K cd8 "check_turnings" = true) (k8 : PySem.W.keepIn K (.ref f8) = true)
    (a9 : PySem.W.nsIn K mainGlobals "heaps_of" = some (some (.ref f9))) (l9 : K.lookup f9 = some ⟨oc9, od9, .func (PySem.W.fnOf "heaps_of" "heaps_of" (defArgs (top 25)) (defBody (top 25)) (defScope (top 25)) .none kV9 dc9 pm9 an9 cd9 ct9), sl9⟩) (c9 : PySem.W.codeIn K cd9 "heaps_of" = true) (k9 : PySem.W.keepIn K (.ref f9) = true)
    (a10 : PySem.W.nsIn K mainGlobals "made" = some (some (.ref f10))) (l10 : K.lookup f10 = some ⟨oc10, od10, .func (PySem.W.fnOf "made" "made" (defArgs (top 26)) (defBody (top 26)) (defScope (top 26)) .none kV10 dc10 pm10 an10 cd10 ct10), sl10⟩) (c10 : PySem.W.codeIn K cd10 "made" = true) (k10 : PySem.W.keepIn K (.ref f10) = true)
    (a11 : PySem.W.nsIn K mainGlobals "stuff_text" = some (some (.ref f11))) (l11 : K.lookup f11 = some ⟨oc11, od11, .func (PySem.W.fnOf "stuff_text" "stuff_text" (defArgs (top 29)) (defBody (top 29)) (defScope (top 29)) .none kV11 dc11 pm11 an11 cd11 ct11), sl11⟩) (c11 : PySem.W.codeIn K cd11 "stuff_text" = true) (k11 : PySem.W.keepIn K (.ref f11) = true)
    (a12 : PySem.W.nsIn K mainGlobals "heap_text" = some (some (.ref f12))) (l12 : K.lookup f12 = some ⟨oc12, od12, .func (PySem.W.fnOf "heap_text" "heap_text" (defArgs (top 30)) (defBody (top 30)) (defScope (top 30)) .none kV12 dc12 pm12 an12 cd12 ct12), sl12⟩) (c12 : PySem.W.codeIn K cd12 "heap_text" = true) (k12 : PySem.W.keepIn K (.ref f12) = true)
    (a13 : PySem.W.nsIn K mainGlobals "pace_text" = some (some (.ref f13))) (l13 : K.lookup f13 = some ⟨oc13, od13, .func (PySem.W.fnOf "pace_text" "pace_text" (defArgs (top 31)) (defBody (top 31)) (defScope (top 31)) .none kV13 dc13 pm13 an13 cd13 ct13), sl13⟩) (c13 : PySem.W.codeIn K cd13 "pace_text" = true) (k13 : PySem.W.keepIn K (.ref f13) = true)
    (a14 : PySem.W.nsIn K mainGlobals "turning_text" = some (some (.ref f14))) (l14 : K.lookup f14 = some ⟨oc14, od14, .func (PySem.W.fnOf "turning_text" "turning_text" (defArgs (top 32)) (defBody (top 32)) (defScope (top 32)) .none kV14 dc14 pm14 an14 cd14 ct14), sl14⟩) (c14 : PySem.W.codeIn K cd14 "turning_text" = true) (k14 : PySem.W.keepIn K (.ref f14) = true)
    (a15 : PySem.W.nsIn K mainGlobals "heap_guessed" = some (some (.ref f15))) (l15 : K.lookup f15 = some ⟨oc15, od15, .func (PySem.W.fnOf "heap_guessed" "heap_guessed" (defArgs (top 33)) (defBody (top 33)) (defScope (top 33)) .none kV15 dc15 pm15 an15 cd15 ct15), sl15⟩) (c15 : PySem.W.codeIn K cd15 "heap_guessed" = true) (k15 : PySem.W.keepIn K (.ref f15) = true)
    (a16 : PySem.W.nsIn K mainGlobals "number_guessed" = some (some (.ref f16))) (l16 : K.lookup f16 = some ⟨oc16, od16, .func (PySem.W.fnOf "number_guessed" "number_guessed" (defArgs (top 34)) (defBody (top 34)) (defScope (top 34)) .none kV16 dc16 pm16 an16 cd16 ct16), sl16⟩) (c16 : PySem.W.codeIn K cd16 "number_guessed" = true) (k16 : PySem.W.keepIn K (.ref f16) = true)
    (a17 : PySem.W.nsIn K mainGlobals "pace_guessed" = some (some (.ref f17))) (l17 : K.lookup f17 = some ⟨oc17, od17, .func (PySem.W.fnOf "pace_guessed" "pace_guessed" (defArgs (top 35)) (defBody (top 35)) (defScope (top 35)) .none kV17 dc17 pm17 an17 cd17 ct17), sl17⟩) (c17 : PySem.W.codeIn K cd17 "pace_guessed" = true) (k17 : PySem.W.keepIn K (.ref f17) = true)
    (a18 : PySem.W.nsIn K mainGlobals "turning_read" = some (some (.ref f18))) (l18 : K.lookup f18 = some ⟨oc18, od18, .func (PySem.W.fnOf "turning_read" "turning_read" (defArgs (top 36)) (defBody (top 36)) (defScope (top 36)) .none kV18 dc18 pm18 an18 cd18 ct18), sl18⟩) (c18 : PySem.W.codeIn K cd18 "turning_read" = true) (k18 : PySem.W.keepIn K (.ref f18) = true)
    (a19 : PySem.W.nsIn K mainGlobals "read" = some (some (.ref f19))) (l19 : K.lookup f19 = some ⟨oc19, od19, .func (PySem.W.fnOf "read" "read" (defArgs (top 37)) (defBody (top 37)) (defScope (top 37)) .none kV19 dc19 pm19 an19 cd19 ct19), sl19⟩) (c19 : PySem.W.codeIn K cd19 "read" = true) (k19 : PySem.W.keepIn K (.ref f19) = true)
    (a20 : PySem.W.nsIn K mainGlobals "_law_cell_at" = some (some (.ref f20))) (l20 : K.lookup f20 = some ⟨oc20, od20, .func (PySem.W.fnOf "_law_cell_at" "_law_cell_at" (defArgs (top 39)) (defBody (top 39)) (defScope (top 39)) .none kV20 dc20 pm20 an20 cd20 ct20), sl20⟩) (c20 : PySem.W.codeIn K cd20 "_law_cell_at" = true) (k20 : PySem.W.keepIn K (.ref f20) = true)
    (a21 : PySem.W.nsIn K mainGlobals "_law_mixed" = some (some (.ref f21))) (l21 : K.lookup f21 = some ⟨oc21, od21, .func (PySem.W.fnOf "_law_mixed" "_law_mixed" (defArgs (top 40)) (defBody (top 40)) (defScope (top 40)) .none kV21 dc21 pm21 an21 cd21 ct21), sl21⟩) (c21 : PySem.W.codeIn K cd21 "_law_mixed" = true) (k21 : PySem.W.keepIn K (.ref f21) = true)
    (a22 : PySem.W.nsIn K mainGlobals "_law_divisor" = some (some (.ref f22))) (l22 : K.lookup f22 = some ⟨oc22, od22, .func (PySem.W.fnOf "_law_divisor" "_law_divisor" (defArgs (top 41)) (defBody (top 41)) (defScope (top 41)) .none kV22 dc22 pm22 an22 cd22 ct22), sl22⟩) (c22 : PySem.W.codeIn K cd22 "_law_divisor" = true) (k22 : PySem.W.keepIn K (.ref f22) = true)
    (a23 : PySem.W.nsIn K mainGlobals "_law_lowest" = some (some (.ref f23))) (l23 : K.lookup f23 = some ⟨oc23, od23, .func (PySem.W.fnOf "_law_lowest" "_law_lowest" (defArgs (top 42)) (defBody (top 42)) (defScope (top 42)) .none kV23 dc23 pm23 an23 cd23 ct23), sl23⟩) (c23 : PySem.W.codeIn K cd23 "_law_lowest" = true) (k23 : PySem.W.keepIn K (.ref f23) = true)
    (a24 : PySem.W.nsIn K mainGlobals "_law_base" = some (some (.ref f24))) (l24 : K.lookup f24 = some ⟨oc24, od24, .func (PySem.W.fnOf "_law_base" "_law_base" (defArgs (top 43)) (defBody (top 43)) (defScope (top 43)) .none kV24 dc24 pm24 an24 cd24 ct24), sl24⟩) (c24 : PySem.W.codeIn K cd24 "_law_base" = true) (k24 : PySem.W.keepIn K (.ref f24) = true)
    (a25 : PySem.W.nsIn K mainGlobals "_law_word" = some (some (.ref f25))) (l25 : K.lookup f25 = some ⟨oc25, od25, .func (PySem.W.fnOf "_law_word" "_law_word" (defArgs (top 44)) (defBody (top 44)) (defScope (top 44)) .none kV25 dc25 pm25 an25 cd25 ct25), sl25⟩) (c25 : PySem.W.codeIn K cd25 "_law_word" = true) (k25 : PySem.W.keepIn K (.ref f25) = true)
    (a26 : PySem.W.nsIn K mainGlobals "_law_words" = some (some (.ref f26))) (l26 : K.lookup f26 = some ⟨oc26, od26, .func (PySem.W.fnOf "_law_words" "_law_words" (defArgs (top 45)) (defBody (top 45)) (defScope (top 45)) .none kV26 dc26 pm26 an26 cd26 ct26), sl26⟩) (c26 : PySem.W.codeIn K cd26 "_law_words" = true) (k26 : PySem.W.keepIn K (.ref f26) = true)
    (a27 : PySem.W.nsIn K mainGlobals "_law_heap" = some (some (.ref f27))) (l27 : K.lookup f27 = some ⟨oc27, od27, .func (PySem.W.fnOf "_law_heap" "_law_heap" (defArgs (top 46)) (defBody (top 46)) (defScope (top 46)) .none kV27 dc27 pm27 an27 cd27 ct27), sl27⟩) (c27 : PySem.W.codeIn K cd27 "_law_heap" = true) (k27 : PySem.W.keepIn K (.ref f27) = true)
    (a28 : PySem.W.nsIn K mainGlobals "_law_pool" = some (some (.ref f28))) (l28 : K.lookup f28 = some ⟨oc28, od28, .func (PySem.W.fnOf "_law_pool" "_law_pool" (defArgs (top 47)) (defBody (top 47)) (defScope (top 47)) .none kV28 dc28 pm28 an28 cd28 ct28), sl28⟩) (c28 : PySem.W.codeIn K cd28 "_law_pool" = true) (k28 : PySem.W.keepIn K (.ref f28) = true)
    (a29 : PySem.W.nsIn K mainGlobals "_law_pace" = some (some (.ref f29))) (l29 : K.lookup f29 = some ⟨oc29, od29, .func (PySem.W.fnOf "_law_pace" "_law_pace" (defArgs (top 48)) (defBody (top 48)) (defScope (top 48)) .none kV29 dc29 pm29 an29 cd29 ct29), sl29⟩) (c29 : PySem.W.codeIn K cd29 "_law_pace" = true) (k29 : PySem.W.keepIn K (.ref f29) = true)
    (a30 : PySem.W.nsIn K mainGlobals "_law_turnings" = some (some (.ref f30))) (l30 : K.lookup f30 = some ⟨oc30, od30, .func (PySem.W.fnOf "_law_turnings" "_law_turnings" (defArgs (top 49)) (defBody (top 49)) (defScope (top 49)) .none kV30 dc30 pm30 an30 cd30 ct30), sl30⟩) (c30 : PySem.W.codeIn K cd30 "_law_turnings" = true) (k30 : PySem.W.keepIn K (.ref f30) = true)
    (a31 : PySem.W.nsIn K mainGlobals "_law_vessel" = some (some (.ref f31))) (l31 : K.lookup f31 = some ⟨oc31, od31, .func (PySem.W.fnOf "_law_vessel" "_law_vessel" (defArgs (top 50)) (defBody (top 50)) (defScope (top 50)) .none kV31 dc31 pm31 an31 cd31 ct31), sl31⟩) (c31 : PySem.W.codeIn K cd31 "_law_vessel" = true) (k31 : PySem.W.keepIn K (.ref f31) = true)
    (a32 : PySem.W.nsIn K mainGlobals "_law_same" = some (some (.ref f32))) (l32 : K.lookup f32 = some ⟨oc32, od32, .func (PySem.W.fnOf "_law_same" "_law_same" (defArgs (top 51)) (defBody (top 51)) (defScope (top 51)) .none kV32 dc32 pm32 an32 cd32 ct32), sl32⟩) (c32 : PySem.W.codeIn K cd32 "_law_same" = true) (k32 : PySem.W.keepIn K (.ref f32) = true)
    (a33 : PySem.W.nsIn K mainGlobals "_law_heap_text" = some (some (.ref f33))) (l33 : K.lookup f33 = some ⟨oc33, od33, .func (PySem.W.fnOf "_law_heap_text" "_law_heap_text" (defArgs (top 52)) (defBody (top 52)) (defScope (top 52)) .none kV33 dc33 pm33 an33 cd33 ct33), sl33⟩) (c33 : PySem.W.codeIn K cd33 "_law_heap_text" = true) (k33 : PySem.W.keepIn K (.ref f33) = true)
    (a34 : PySem.W.nsIn K mainGlobals "_law_turning_text" = some (some (.ref f34))) (l34 : K.lookup f34 = some ⟨oc34, od34, .func (PySem.W.fnOf "_law_turning_text" "_law_turning_text" (defArgs (top 53)) (defBody (top 53)) (defScope (top 53)) .none kV34 dc34 pm34 an34 cd34 ct34), sl34⟩) (c34 : PySem.W.codeIn K cd34 "_law_turning_text" = true) (k34 : PySem.W.keepIn K (.ref f34) = true)
    (a35 : PySem.W.nsIn K mainGlobals "law" = some (some (.ref f35))) (l35 : K.lookup f35 = some ⟨oc35, od35, .func (PySem.W.fnOf "law" "law" (defArgs (top 54)) (defBody (top 54)) (defScope (top 54)) .none kV35 dc35 pm35 an35 cd35 ct35), sl35⟩) (c35 : PySem.W.codeIn K cd35 "law" = true) (k35 : PySem.W.keepIn K (.ref f35) = true)
    (z_len : PySem.W.nsIn K mainGlobals "len" = some none)
    (z_abs : PySem.W.nsIn K mainGlobals "abs" = some none)
    (z_range : PySem.W.nsIn K mainGlobals "range" = some none)
    (z_isinstance : PySem.W.nsIn K mainGlobals "isinstance" = some none)
    (z_int : PySem.W.nsIn K mainGlobals "int" = some none)
    (z_bool : PySem.W.nsIn K mainGlobals "bool" = some none)
    (z_tuple : PySem.W.nsIn K mainGlobals "tuple" = some none)
    (z_list : PySem.W.nsIn K mainGlobals "list" = some none)
    (z_str : PySem.W.nsIn K mainGlobals "str" = some none)
    (z_zip : PySem.W.nsIn K mainGlobals "zip" = some none)
    (z_set : PySem.W.nsIn K mainGlobals "set" = some none)
    (z_all : PySem.W.nsIn K mainGlobals "all" = some none)
    (z_any : PySem.W.nsIn K mainGlobals "any" = some none)
    (z_min : PySem.W.nsIn K mainGlobals "min" = some none)
    (z_max : PySem.W.nsIn K mainGlobals "max" = some none)
    (z_sum : PySem.W.nsIn K mainGlobals "sum" = some none)
    (z_sorted : PySem.W.nsIn K mainGlobals "sorted" = some none)
    (z_enumerate : PySem.W.nsIn K mainGlobals "enumerate" = some none)
    (z_reversed : PySem.W.nsIn K mainGlobals "reversed" = some none)
    (z_dict : PySem.W.nsIn K mainGlobals "dict" = some none)
    (z_ord : PySem.W.nsIn K mainGlobals "ord" = some none)
    (z_divmod : PySem.W.nsIn K mainGlobals "divmod" = some none)
    {tk0 tk1 tk2 tk3 tk4 tn0 tn1 tp0 tp1 tp2 tq0 tq1 tq2 : Tok} {nq pD : Addr} {nqd : Option Addr} {nqn pDn : Nat} {nqs : Array (Option Value)} {ph0 ph1 ph2 : Int}
    (hcn0 : PySem.W.nsIn K mainGlobals "MOST_STUFFS" = some (some (.int 5 tk0)))
    (hcn1 : PySem.W.nsIn K mainGlobals "MOST_SIGNS" = some (some (.int 8 tk1)))
    (hcn2 : PySem.W.nsIn K mainGlobals "MOST_PIECES" = some (some (.int 3 tk2)))
    (hcn3 : PySem.W.nsIn K mainGlobals "MOST_TURNINGS" = some (some (.int 8 tk3)))
    (hcn4 : PySem.W.nsIn K mainGlobals "MOST_HEAPS" = some (some (.int 8 tk4)))
    (hcnN : PySem.W.nsIn K mainGlobals "NOUGHT" = some (some (.ref nq)))
    (hcnL : K.lookup nq = some ⟨.type "tuple", nqd, .seq #[.int 0 tn0, .int 1 tn1] nqn, nqs⟩)
    (hpwN : PySem.W.nsIn K mainGlobals "PIECES_WRITTEN" = some (some (.ref pD)))
    (hpwL : K.lookup pD = some ⟨.type "dict", none, .dict #[⟨ph0, .str "" tp0, .int 1 tq0⟩, ⟨ph1, .str "2" tp1, .int 2 tq1⟩, ⟨ph2, .str "3" tp2, .int 3 tq2⟩] pDn, #[]⟩)
    (hpw0 : ph0 = PySem.hashStr w "")
    (hpw1 : ph1 = PySem.hashStr w "2")
    (hpw2 : ph2 = PySem.hashStr w "3")
    (hpwS : (pD == PySem.sysModules) = false)
    : ∃ fd : FuncData, (∀ (s : Shared) (v : Value), BindsTo s fd ⟨[v], []⟩ [("_law_script", v)]) ∧ ∀ base : Heap, K.In base → base.Ns mainGlobals mg → FnOk l.prog w K mg base CX0 6 fa fd ["_law_script"] (spLaw K) := by
  have e := hfa.symm.trans (PySem.W.mg_of X G a35)
  cases e
  have B : Blt mg := ⟨PySem.W.mg_none_of X G z_len, PySem.W.mg_none_of X G z_abs, PySem.W.mg_none_of X G z_range, PySem.W.mg_none_of X G z_isinstance, PySem.W.mg_none_of X G z_int, PySem.W.mg_none_of X G z_bool, PySem.W.mg_none_of X G z_tuple, PySem.W.mg_none_of X G z_list, PySem.W.mg_none_of X G z_str, PySem.W.mg_none_of X G z_zip, PySem.W.mg_none_of X G z_set, PySem.W.mg_none_of X G z_all, PySem.W.mg_none_of X G z_any, PySem.W.mg_none_of X G z_min, PySem.W.mg_none_of X G z_max, PySem.W.mg_none_of X G z_sum, PySem.W.mg_none_of X G z_sorted, PySem.W.mg_none_of X G z_enumerate, PySem.W.mg_none_of X G z_reversed, PySem.W.mg_none_of X G z_dict, PySem.W.mg_none_of X G z_ord, PySem.W.mg_none_of X G z_divmod⟩
  have F0 : FunAt K mg "whole" (top 9) ["value"] := funAt_mk X G a0 l0 c0 k0 (bd1 rfl fun _ _ _ _ _ _ _ => rfl)
  have F1 : FunAt K mg "greatest_divisor" (top 10) ["one", "two"] := funAt_mk X G a1 l1 c1 k1 (bd2 rfl fun _ _ _ _ _ _ _ _ => rfl)
  have F2 : FunAt K mg "fraction" (top 11) ["top", "bottom"] := funAt_mk X G a2 l2 c2 k2 (bd2 rfl fun _ _ _ _ _ _ _ _ => rfl)
  have F3 : FunAt K mg "before" (top 12) ["one", "two"] := funAt_mk X G a3 l3 c3 k3 (bd2 rfl fun _ _ _ _ _ _ _ _ => rfl)
  have F4 : FunAt K mg "is_word" (top 20) ["word"] := funAt_mk X G a4 l4 c4 k4 (bd1 rfl fun _ _ _ _ _ _ _ => rfl)
  have F5 : FunAt K mg "stuffs_of" (top 21) ["words"] := funAt_mk X G a5 l5 c5 k5 (bd1 rfl fun _ _ _ _ _ _ _ => rfl)
  have F6 : FunAt K mg "is_heap" (top 22) ["pieces", "size"] := funAt_mk X G a6 l6 c6 k6 (bd2 rfl fun _ _ _ _ _ _ _ _ => rfl)
  have F7 : FunAt K mg "turnings_of" (top 23) ["rows", "size"] := funAt_mk X G a7 l7 c7 k7 (bd2 rfl fun _ _ _ _ _ _ _ _ => rfl)
  have F8 : FunAt K mg "check_turnings" (top 24) ["turnings"] := funAt_mk X G a8 l8 c8 k8 (bd1 rfl fun _ _ _ _ _ _ _ => rfl)
  have F9 : FunAt K mg "heaps_of" (top 25) ["turnings"] := funAt_mk X G a9 l9 c9 k9 (bd1 rfl fun _ _ _ _ _ _ _ => rfl)
  have F10 : FunAt K mg "made" (top 26) ["words", "rows"] := funAt_mk X G a10 l10 c10 k10 (bd2 rfl fun _ _ _ _ _ _ _ _ => rfl)
  have F11 : FunAt K mg "stuff_text" (top 29) ["word", "pieces"] := funAt_mk X G a11 l11 c11 k11 (bd2 rfl fun _ _ _ _ _ _ _ _ => rfl)
  have F12 : FunAt K mg "heap_text" (top 30) ["stuffs", "heap"] := funAt_mk X G a12 l12 c12 k12 (bd2 rfl fun _ _ _ _ _ _ _ _ => rfl)
  have F13 : FunAt K mg "pace_text" (top 31) ["pace"] := funAt_mk X G a13 l13 c13 k13 (bd1 rfl fun _ _ _ _ _ _ _ => rfl)
  have F14 : FunAt K mg "turning_text" (top 32) ["stuffs", "turning"] := funAt_mk X G a14 l14 c14 k14 (bd2 rfl fun _ _ _ _ _ _ _ _ => rfl)
  have F15 : FunAt K mg "heap_guessed" (top 33) ["stuffs", "text"] := funAt_mk X G a15 l15 c15 k15 (bd2 rfl fun _ _ _ _ _ _ _ _ => rfl)
  have F16 : FunAt K mg "number_guessed" (top 34) ["text"] := funAt_mk X G a16 l16 c16 k16 (bd1 rfl fun _ _ _ _ _ _ _ => rfl)
  have F17 : FunAt K mg "pace_guessed" (top 35) ["text"] := funAt_mk X G a17 l17 c17 k17 (bd1 rfl fun _ _ _ _ _ _ _ => rfl)
  have F18 : FunAt K mg "turning_read" (top 36) ["stuffs", "text"] := funAt_mk X G a18 l18 c18 k18 (bd2 rfl fun _ _ _ _ _ _ _ _ => rfl)
  have F19 : FunAt K mg "read" (top 37) ["words", "texts"] := funAt_mk X G a19 l19 c19 k19 (bd2 rfl fun _ _ _ _ _ _ _ _ => rfl)
  have F20 : FunAt K mg "_law_cell_at" (top 39) ["_law_script", "_law_k"] := funAt_mk X G a20 l20 c20 k20 (bd2 rfl fun _ _ _ _ _ _ _ _ => rfl)
  have F21 : FunAt K mg "_law_mixed" (top 40) ["_law_cell", "_law_many"] := funAt_mk X G a21 l21 c21 k21 (bd2 rfl fun _ _ _ _ _ _ _ _ => rfl)
  have F22 : FunAt K mg "_law_divisor" (top 41) ["_law_one", "_law_other"] := funAt_mk X G a22 l22 c22 k22 (bd2 rfl fun _ _ _ _ _ _ _ _ => rfl)
  have F23 : FunAt K mg "_law_lowest" (top 42) ["_law_top", "_law_bottom"] := funAt_mk X G a23 l23 c23 k23 (bd2 rfl fun _ _ _ _ _ _ _ _ => rfl)
  have F24 : FunAt K mg "_law_base" (top 43) ["_law_cell", "_law_size"] := funAt_mk X G a24 l24 c24 k24 (bd2 rfl fun _ _ _ _ _ _ _ _ => rfl)
  have F25 : FunAt K mg "_law_word" (top 44) ["_law_base_here", "_law_place", "_law_size", "_law_k"] := funAt_mk X G a25 l25 c25 k25 (bd4 rfl fun _ _ _ _ _ _ _ _ _ _ => rfl)
  have F26 : FunAt K mg "_law_words" (top 45) ["_law_script", "_law_at", "_law_many"] := funAt_mk X G a26 l26 c26 k26 (bd3 rfl fun _ _ _ _ _ _ _ _ _ => rfl)
  have F27 : FunAt K mg "_law_heap" (top 46) ["_law_number", "_law_many", "_law_most"] := funAt_mk X G a27 l27 c27 k27 (bd3 rfl fun _ _ _ _ _ _ _ _ _ => rfl)
  have F28 : FunAt K mg "_law_pool" (top 47) ["_law_script", "_law_at", "_law_many"] := funAt_mk X G a28 l28 c28 k28 (bd3 rfl fun _ _ _ _ _ _ _ _ _ => rfl)
  have F29 : FunAt K mg "_law_pace" (top 48) ["_law_number", "_law_other", "_law_great"] := funAt_mk X G a29 l29 c29 k29 (bd3 rfl fun _ _ _ _ _ _ _ _ _ => rfl)
  have F30 : FunAt K mg "_law_turnings" (top 49) ["_law_script", "_law_at", "_law_pool_here"] := funAt_mk X G a30 l30 c30 k30 (bd3 rfl fun _ _ _ _ _ _ _ _ _ => rfl)
  have F31 : FunAt K mg "_law_vessel" (top 50) ["_law_script"] := funAt_mk X G a31 l31 c31 k31 (bd1 rfl fun _ _ _ _ _ _ _ => rfl)
  have F32 : FunAt K mg "_law_same" (top 51) ["_law_found", "_law_due"] := funAt_mk X G a32 l32 c32 k32 (bd2 rfl fun _ _ _ _ _ _ _ _ => rfl)
  have F33 : FunAt K mg "_law_heap_text" (top 52) ["_law_words_here", "_law_heap_here"] := funAt_mk X G a33 l33 c33 k33 (bd2 rfl fun _ _ _ _ _ _ _ _ => rfl)
  have F34 : FunAt K mg "_law_turning_text" (top 53) ["_law_words_here", "_law_turning"] := funAt_mk X G a34 l34 c34 k34 (bd2 rfl fun _ _ _ _ _ _ _ _ => rfl)
  refine ⟨PySem.W.fnOf "law" "law" (defArgs (top 54)) (defBody (top 54)) (defScope (top 54)) .none kV35 dc35 pm35 an35 cd35 ct35, fun s v => .of_eq rfl, fun base _ _ => ?_⟩
  have Tpw := kd_pw (P := l.prog) (PySem.W.mg_of X G hpwN) hpwL hpw0 hpw1 hpw2 hpwS
  have G : Cn K mg nq := ⟨⟨_, PySem.W.mg_of X G hcn0⟩, ⟨_, PySem.W.mg_of X G hcn1⟩, ⟨_, PySem.W.mg_of X G hcn2⟩, ⟨_, PySem.W.mg_of X G hcn3⟩, ⟨_, PySem.W.mg_of X G hcn4⟩, PySem.W.mg_of X G hcnN, fun H => .inr ⟨_, _, _, hcnL, rfl, rfl, by show 2 ≤ sizeLine; decide, .cons ⟨_, rfl⟩ (.cons ⟨_, rfl⟩ .nil)⟩⟩
  exact ok_all G Tpw (fun_mk (st := top 54) l35 c35 k35) B F0 F1 F2 F3 F4 F5 F6 F7 F8 F9 F10 F11 F12 F13 F14 F15 F16 F17 F18 F19 F20 F21 F22 F23 F24 F25 F26 F27 F28 F29 F30 F31 F32 F33 F34
end K22
theorem PySem.Challenge.cw_vesselhall_k22_texts_read_holds : PySem.Challenge.rw_vesselhall_k22_texts_read.Holds := by
  exact K22H.headed K22.all_mk
#print axioms PySem.Challenge.cw_vesselhall_k22_texts_read_holds

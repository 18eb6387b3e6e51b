import PyProof.Rows.All
import Wide.All
import OpenK.AllK
import Wide.FinOn
import PyProof.EqAt
import PyProof.EqKinds
import PyProof.TupleCall
import PySem.SetTable
import Wide.Seal
import Lean
import PySem.Challenge.RW_vesselhall_k85_tree_weights
local macro_rules | `(tactic| walk_at "om") => `(tactic| first | lia | omega)
theorem lenE2 {α : Type} {us : List α} (h : us.length = 2) : ∃ u v, us = [u, v] := by
  obtain ⟨u, us, rfl⟩ := List.exists_cons_of_length_eq_add_one h; have e : us.length = 1 := Nat.succ.inj h; obtain ⟨v, us, rfl⟩ := List.exists_cons_of_length_eq_add_one e; cases List.eq_nil_of_length_eq_zero (Nat.succ.inj e); exact ⟨u, v, rfl⟩
theorem lenE3 {α : Type} {us : List α} (h : us.length = 3) : ∃ u v w, us = [u, v, w] := by
  obtain ⟨u, us, rfl⟩ := List.exists_cons_of_length_eq_add_one h; have e : us.length = 2 := Nat.succ.inj h; obtain ⟨v, w, rfl⟩ := lenE2 e; exact ⟨u, v, w, rfl⟩
set_option Elab.async false
set_option linter.all false
set_option maxRecDepth 100000
set_option maxHeartbeats 4000000
-- CHANGE: your row's module here, as the last of these rows
set_option Elab.async false
set_option linter.all false
set_option maxRecDepth 100000
namespace L2
open PySem PySem.Spec PyProof.Rows

/-- a key: an int or a str -/
abbrev Key := Sum Int Str
def keyIs : Key → Value → Bool
  | .inl k, v => Value.isInt k v
  | .inr x, v => Value.isStrOf x v
def keyH (w : World) : Key → Int
  | .inl k => hashInt k
  | .inr x => hashStr w x
theorem keyIs_shape : ∀ {k : Key} {v : Value}, keyIs k v = true → (∃ i t, k = Sum.inl i ∧ v = Value.int i t) ∨ (∃ x t, k = Sum.inr x ∧ v = Value.str x t)
  | .inl i, v, h => by
    obtain ⟨t, e⟩ := Value.isInt_shape (k := i) (v := v) h
    exact .inl ⟨i, t, rfl, e⟩
  | .inr x, v, h => by
    obtain ⟨t, e⟩ := Value.isStrOf_shape (x := x) (v := v) h
    exact .inr ⟨x, t, rfl, e⟩
theorem keyIs_int (i : Int) (t : Tok) : keyIs (.inl i) (.int i t) = true := by simp [keyIs, Value.isInt]
theorem keyIs_str (x : Str) (t : Tok) : keyIs (.inr x) (.str x t) = true := by simp [keyIs, Value.isStrOf]
theorem key_ll (a b : Int) : decide ((Sum.inl a : Key) = Sum.inl b) = (a == b) := by
  by_cases e : a = b
  · subst e; simp
  · have h : ¬ (Sum.inl a : Key) = Sum.inl b := fun q => e (Sum.inl.inj q)
    rw [decide_eq_false h]
    exact (beq_eq_false_iff_ne.mpr e).symm
theorem key_rr (a b : Str) : decide ((Sum.inr a : Key) = Sum.inr b) = decide (a = b) := by
  by_cases e : a = b
  · subst e; simp
  · have h : ¬ (Sum.inr a : Key) = Sum.inr b := fun q => e (Sum.inr.inj q)
    rw [decide_eq_false h, decide_eq_false e]
theorem key_lr (a : Int) (b : Str) : decide ((Sum.inl a : Key) = Sum.inr b) = false := decide_eq_false (fun q => nomatch q)
theorem key_rl (a : Str) (b : Int) : decide ((Sum.inr a : Key) = Sum.inl b) = false := decide_eq_false (fun q => nomatch q)

def mixKind (prog : Program) (w : World) : PySem.KeyKind prog w Key where
  is := keyIs
  hash := keyH w
  inj := fun v a b ha hb => by
    rcases keyIs_shape ha with ⟨i, t, rfl, rfl⟩ | ⟨x, t, rfl, rfl⟩
    · rcases keyIs_shape hb with ⟨j, u, rfl, e⟩ | ⟨y, u, rfl, e⟩
      · injection e with e1 _; rw [e1]
      · exact nomatch e
    · rcases keyIs_shape hb with ⟨j, u, rfl, e⟩ | ⟨y, u, rfl, e⟩
      · exact nomatch e
      · injection e with e1 _; rw [e1]
  byValue := fun k v h => by
    rcases keyIs_shape h with ⟨i, t, rfl, rfl⟩ | ⟨x, t, rfl, rfl⟩ <;> rfl
  pyHash := fun hv h => by
    rcases keyIs_shape hv with ⟨i, t, rfl, rfl⟩ | ⟨x, t, rfl, rfl⟩
    · exact wpAny_pyHash_int h
    · exact wpAny_pyHash_str h
  eqBool := fun hu hv h => by
    rcases keyIs_shape hu with ⟨i, t, rfl, rfl⟩ | ⟨x, t, rfl, rfl⟩
    · rcases keyIs_shape hv with ⟨j, u, rfl, rfl⟩ | ⟨y, u, rfl, rfl⟩
      · rw [key_ll] at h; exact wpAny_eqBool_int h
      · rw [key_lr] at h; exact SeqAt.EqAt.int_str i t y u _ _ _ _ h
    · rcases keyIs_shape hv with ⟨j, u, rfl, rfl⟩ | ⟨y, u, rfl, rfl⟩
      · rw [key_rl] at h; exact SeqAt.EqAt.str_int x t j u _ _ _ _ h
      · rw [key_rr] at h; exact wpAny_eqBool_str h
  «strs» := fun k x t v h => by
    rcases keyIs_shape h with ⟨i, u, rfl, e⟩ | ⟨y, u, rfl, e⟩
    · exact nomatch e
    · injection e with e1 _
      subst e1
      cases v <;> rfl

theorem mixKind_int (prog : Program) (w : World) (i : Int) (t : Tok) : (mixKind prog w).is (.inl i) (.int i t) = true := keyIs_int i t
theorem mixKind_str (prog : Program) (w : World) (x : Str) (t : Tok) : (mixKind prog w).is (.inr x) (.str x t) = true := keyIs_str x t
end L2

namespace L2
open PySem PySem.Spec PyProof.Rows

/-- a value, without the heap -/
inductive V where
  | non | bl (b : Bool) | int (i : Int) | str (x : Str) | byt (b : Array UInt8) | flt (b : UInt64) | ref (a : Addr) | ty (n : String)
  deriving DecidableEq

def RelV : V → Value → Prop
  | .non, u => u = Value.none
  | .bl b, u => u = Value.bool b
  | .int i, u => ∃ t, u = Value.int i t
  | .str x, u => ∃ t, u = Value.str x t
  | .byt b, u => ∃ t, u = Value.bytes b t
  | .flt b, u => ∃ t, u = Value.float b t
  | .ref a, u => u = Value.ref a
  | .ty n, u => u = Value.type n

abbrev Vals : List V → List Value → Prop := Paired RelV
theorem Vals.length {xs : List V} {us : List Value} (r : Vals xs us) : xs.length = us.length := Paired.length r
theorem Vals.get : ∀ {xs : List V} {us : List Value} {i : Nat} {x : V}, Vals xs us → xs[i]? = some x → ∃ u, us[i]? = some u ∧ RelV x u
  | _, _, _, _, .nil, e => by simp at e
  | _, _, 0, _, .cons r _, e => by simp at e; subst e; exact ⟨_, rfl, r⟩
  | _, _, i + 1, x, .cons _ t, e => by
    obtain ⟨u, h1, h2⟩ := Vals.get (i := i) (x := x) t (by simpa using e)
    exact ⟨u, by simpa using h1, h2⟩
theorem Vals.append : ∀ {xs ys : List V} {us ws : List Value}, Vals xs us → Vals ys ws → Vals (xs ++ ys) (us ++ ws)
  | _, _, _, _, .nil, s => s
  | _, _, _, _, .cons r t, s => .cons r (Vals.append t s)
def RelO : Option V → Option Value → Prop
  | some v, some u => RelV v u
  | none, none => True
  | _, _ => False
def KV {κ : Type} : List (κ × V) → List (κ × Value) → Prop := Paired fun (p : κ × V) (q : κ × Value) => p.1 = q.1 ∧ RelV p.2 q.2

/-- a key of a dict (00_mix): an int or a text -/
def kV : Key → V
  | .inl i => .int i
  | .inr x => .str x

/-- what stands at a tracked address -/
inductive HO where
  /-- a list -/
  | lst (xs : List V)
  /-- a tuple (never changes) -/
  | tup (xs : List V)
  /-- a dict whose keys are ints and texts; one whose keys are tuples of ints and texts (the empty one is both) -/
  | dK (kvs : List (Key × V)) | dT (kvs : List (List Key × V))
  /-- a set of ints: its members, its size -/
  | set (S : Int → Bool) (n : Nat)
  /-- an instance of the class at C, its dict at dx, its attributes -/
  | ins (C dx : Addr) (fs : List (Str × V))
  /-- the dict of the instance at x -/
  | own (x : Addr)
  /-- the dict of an exception -/
  | xd (fs : List (Str × V))
  /-- a bound method, f of x -/
  | met (f x : Addr)
  /-- a range object lo, lo + 1, .. below hi -/
  | rng (lo hi : Int)
  /-- a thing that is known to the object (the script; a dict while a loop walks it): read, never written while it is so -/
  | frz (o : Obj) (u : HO)
  /-- a code object's table -/
  | tbl (ps : Array Value)
  /-- any other thing, by what is true of its one object (a def of one's own: SetO a S n := HO.ext fun h => ..) -/
  | ext (φ : Heap → Prop)

abbrev Hp := Addr → Option HO
def upd (H : Hp) (a : Addr) (o : HO) : Hp := fun b => if b = a then some o else H b
theorem upd_same {H : Hp} {a : Addr} {o : HO} : upd H a o a = some o := by unfold upd; rw [if_pos rfl]
theorem upd_ne {H : Hp} {a b : Addr} {o : HO} (h : b ≠ a) : upd H a o b = H b := by unfold upd; rw [if_neg h]
theorem upd_upd {H : Hp} {a : Addr} {o u : HO} : upd (upd H a o) a u = upd H a u := by
  funext b; unfold upd; split <;> rfl
/-- two objects of different content stand apart -/
theorem ne_of {H : Hp} {a b : Addr} {o u : HO} (h : H a = some o) (h' : H b = some u) (d : o ≠ u) : a ≠ b := by
  intro e; subst e; rw [h] at h'; exact d (Option.some.inj h')
theorem ne_of_none {H : Hp} {a b : Addr} {o : HO} (h : H a = some o) (h' : H b = none) : a ≠ b := by
  intro e; subst e; rw [h] at h'; cases h'

section
variable (P : Program) (w : World)
def ObjOk (H : Hp) (h : Heap) (a : Addr) : HO → Prop
  | .lst xs => xs.length ≤ sizeLine ∧ ∃ (its : List Value) (n : Nat), Vals xs its ∧ h.get? a = some { cls := .type "list", data := .seq its.toArray n }
  | .tup xs => xs.length ≤ sizeLine ∧ ∃ its : List Value, Vals xs its ∧ IsTup h a its.toArray
  | .dK kvs => kvs.length ≤ sizeLine ∧ (a == sysModules) = false ∧ ∃ vs, KV kvs vs ∧ h.DictOf (mixKind P w) a vs
  | .dT kvs => kvs.length ≤ sizeLine ∧ (a == sysModules) = false ∧ ∃ xs : List (List Key × Addr × Value),
      Paired (fun (p : List Key × V) (q : List Key × Addr × Value) => p.1 = q.1 ∧ H q.2.1 = some (.tup (p.1.map kV)) ∧ RelV p.2 q.2.2) kvs xs ∧
      ∃ o es ep, h.get? a = some o ∧ o.ExactDict ∧ o.data = .dict es ep ∧ es.toList = xs.map (entryOfKey (tupleKind (mixKind P w))) ∧ (xs.map (·.1)).Nodup
  | .set S n => h.SetOf (intKind P w) a S n
  | .ins C dx fs => H dx = some (.own a) ∧ fs.length ≤ 1000 ∧ dx ≠ a ∧ h.get? a = some (PySem.W.instObj C dx) ∧
      ∃ mA, h.Ns1 dx mA ∧ (∀ f, RelO (fs.lookup f) (mA f)) ∧ PySem.Within mA (fs.map (·.1))
  | .own _ => ∃ o, h.get? a = some o
  | .xd fs => ∃ mA, h.Ns1 a mA ∧ ∀ f, RelO (fs.lookup f) (mA f)
  | .rng lo hi => ∃ t u v, h.get? a = some { cls := .type "range", data := .fields #[.int lo t, .int hi u, .int 1 v] }
  | .frz o u => h.get? a = some o ∧ ObjOk H h a u
  | .tbl ps => h.get? a = some { cls := .none, data := .fields ps }
  | .met f x => h.get? a = some (PySem.W.methodObj (.ref f) (.ref x))
  | .ext φ => φ h ∧ (∃ o, h.get? a = some o) ∧ ∀ h1 h2 : Heap, φ h1 → (∀ o, h1.get? a = some o → h2.get? a = some o) → φ h2
/-- the abstract heap is held -/
def HOk (H : Hp) (h : Heap) : Prop := ∀ a o, H a = some o → ObjOk P w H h a o
end

section
variable {P : Program} {w : World} {H H' : Hp} {h h' : Heap} {a : Addr} {o : HO}
theorem ObjOk.lt (x : ObjOk P w H h a o) : a < h.objs.size := by
  cases o with
  | lst xs => obtain ⟨_, _, _, _, e⟩ := x; exact Heap.lt_size e
  | tup xs => obtain ⟨_, _, _, p⟩ := x; exact p.lt
  | dK kvs => obtain ⟨_, _, _, _, o, _, _, e, _⟩ := x; exact Heap.lt_size e
  | dT kvs => obtain ⟨_, _, _, _, o, _, _, e, _⟩ := x; exact Heap.lt_size e
  | set S n => obtain ⟨o, _, _, _, e, _⟩ := x; exact Heap.lt_size e
  | ins C dx fs => obtain ⟨_, _, _, e, _⟩ := x; exact Heap.lt_size e
  | own y => obtain ⟨_, e⟩ := x; exact Heap.lt_size e
  | xd fs => obtain ⟨_, ⟨_, _, _, e, _⟩, _⟩ := x; exact Heap.lt_size e
  | rng lo hi => obtain ⟨_, _, _, e⟩ := x; exact Heap.lt_size e
  | frz ob u => obtain ⟨e, _⟩ := x; exact Heap.lt_size e
  | tbl ps => exact Heap.lt_size (show h.get? a = some _ from x)
  | met f y => exact Heap.lt_size (show h.get? a = some _ from x)
  | ext φ => obtain ⟨_, ⟨_, e⟩, _⟩ := x; exact Heap.lt_size e
theorem Paired.mapP {α β : Type} {F G : α → β → Prop} : ∀ {l₁ : List α} {l₂ : List β}, Paired F l₁ l₂ → (∀ a b, F a b → G a b) → Paired G l₁ l₂
  | _, _, .nil, _ => .nil
  | _, _, .cons r t, f => .cons (f _ _ r) (Paired.mapP t f)
/-- what an object's description leans on: its own object, its own dict, the tuples -/
theorem ObjOk.stay (x : ObjOk P w H h a o) (k : ∀ b u, (b = a ∨ H b = some (.own a)) → h.get? b = some u → h'.get? b = some u)
    (ho : ∀ b, H b = some (.own a) → H' b = some (.own a)) (ht : ∀ b xs, H b = some (.tup xs) → H' b = some (.tup xs)) : ObjOk P w H' h' a o := by
  induction o with
  | lst xs => obtain ⟨z, its, n, r, e⟩ := x; exact ⟨z, its, n, r, k _ _ (.inl rfl) e⟩
  | tup xs => obtain ⟨z, its, r, ob, e, c⟩ := x; exact ⟨z, its, r, ob, k _ _ (.inl rfl) e, c⟩
  | dK kvs => obtain ⟨z, y, vs, r, ob, es, ep, e, c⟩ := x; exact ⟨z, y, vs, r, ob, es, ep, k _ _ (.inl rfl) e, c⟩
  | dT kvs =>
    obtain ⟨z, y, xs, r, ob, es, ep, e, c⟩ := x
    exact ⟨z, y, xs, Paired.mapP r fun p q z => ⟨z.1, ht _ _ z.2.1, z.2.2⟩, ob, es, ep, k _ _ (.inl rfl) e, c⟩
  | set S n => obtain ⟨ob, es, ep, t, e, c⟩ := x; exact ⟨ob, es, ep, t, k _ _ (.inl rfl) e, c⟩
  | ins C dx fs =>
    obtain ⟨d, z, ne, e, mA, ⟨od, es, ep, e2, c⟩, r⟩ := x
    exact ⟨ho _ d, z, ne, k _ _ (.inl rfl) e, mA, ⟨od, es, ep, k _ _ (.inr d) e2, c⟩, r⟩
  | own y => obtain ⟨ob, e⟩ := x; exact ⟨ob, k _ _ (.inl rfl) e⟩
  | xd fs => obtain ⟨mA, ⟨od, es, ep, e, c⟩, r⟩ := x; exact ⟨mA, ⟨od, es, ep, k _ _ (.inl rfl) e, c⟩, r⟩
  | rng lo hi => obtain ⟨t, u, v, e⟩ := x; exact ⟨t, u, v, k _ _ (.inl rfl) e⟩
  | frz ob u ih => obtain ⟨e, q⟩ := x; exact ⟨k _ _ (.inl rfl) e, ih q⟩
  | tbl ps =>
    have e : h.get? a = some { cls := .none, data := .fields ps } := x
    show h'.get? a = some { cls := .none, data := .fields ps }
    exact k a _ (.inl rfl) e
  | met f y =>
    have e : h.get? a = some (PySem.W.methodObj (.ref f) (.ref y)) := x
    show h'.get? a = some (PySem.W.methodObj (.ref f) (.ref y))
    exact k a _ (.inl rfl) e
  | ext φ => obtain ⟨p, ⟨o, e⟩, st⟩ := x; exact ⟨st _ _ p fun o q => k _ _ (.inl rfl) q, ⟨o, k _ _ (.inl rfl) e⟩, st⟩
theorem HOk.lt (x : HOk P w H h) (e : H a = some o) : a < h.objs.size := (x a o e).lt
theorem HOk.fresh (x : HOk P w H h) (e : h.objs.size ≤ a) : H a = none := by
  cases q : H a with
  | none => rfl
  | some u => exact absurd (Nat.lt_of_lt_of_le (x.lt q) e) (Nat.lt_irrefl _)
/-- every object of the heap is kept -/
theorem HOk.kept (x : HOk P w H h) (k : ∀ b u, h.get? b = some u → h'.get? b = some u) : HOk P w H h' := fun a o e =>
  (x a o e).stay (fun b u _ q => k b u q) (fun _ q => q) fun _ _ q => q
/-- a new object is laid and tracked -/
theorem HOk.laid (x : HOk P w H h) (k : ∀ b u, h.get? b = some u → h'.get? b = some u) (hp : h.objs.size ≤ a) (new : ObjOk P w (upd H a o) h' a o) : HOk P w (upd H a o) h' := fun b u e => by
  have hn := x.fresh hp
  by_cases hb : b = a
  · subst hb; rw [upd_same] at e; cases e; exact new
  · rw [upd_ne hb] at e
    exact (x b u e).stay (fun c v _ q => k c v q) (fun c q => by rw [upd_ne (ne_of_none q hn)]; exact q) fun c xs q => by rw [upd_ne (ne_of_none q hn)]; exact q
end

/-- what may be read as u: it is u, or a known u -/
def Rd (H : Hp) (a : Addr) (u : HO) : Prop := H a = some u ∨ ∃ o, H a = some (.frz o u)
theorem Rd.ok {P : Program} {w : World} {H : Hp} {h : Heap} {a : Addr} {u : HO} (r : Rd H a u) (x : HOk P w H h) : ObjOk P w H h a u := by
  rcases r with r | ⟨o, r⟩
  · exact x a u r
  · obtain ⟨_, q⟩ := x a _ r
    exact q
/-- what may be written -/
def Mut : Option HO → Prop
  | some (.lst _) => True
  | some (.dK _) => True
  | some (.dT _) => True
  | some (.set _ _) => True
  | some (.ins _ _ _) => True
  | some (.ext _) => True
  | _ => False
section
variable {P : Program} {w : World} {H : Hp} {h h' : Heap} {x e : Addr} {o' : HO}
/-- the object at e is changed: x itself, or the dict of the instance x -/
theorem HOk.write (ok : HOk P w H h) (mu : Mut (H x)) (he : e = x ∨ H e = some (.own x)) (k : ∀ b u, b ≠ e → h.get? b = some u → h'.get? b = some u) (heo : ∃ u, h'.get? e = some u)
    (new : ObjOk P w (upd H x o') h' x o') : HOk P w (upd H x o') h' := fun b u q => by
  have nown : ∀ c y, H c = some (.own y) → c ≠ x := fun c y r z => by subst z; rw [r] at mu; exact mu
  have ntup : ∀ c xs, H c = some (.tup xs) → c ≠ x := fun c xs r z => by subst z; rw [r] at mu; exact mu
  by_cases hb : b = x
  · subst hb; rw [upd_same] at q; cases q; exact new
  · rw [upd_ne hb] at q
    by_cases hbe : b = e
    · have q' : H b = some (.own x) := by
        rcases he with z | z
        · exact absurd (hbe.trans z) hb
        · rw [hbe]; exact z
      rw [q] at q'; cases q'
      obtain ⟨v, hv⟩ := heo
      exact ⟨v, by rw [hbe]; exact hv⟩
    · refine (ok b u q).stay (fun c v hc r => k c v ?_ r) (fun c r => by rw [upd_ne (nown c b r)]; exact r) fun c xs r => by rw [upd_ne (ntup c xs r)]; exact r
      rcases hc with rfl | hc
      · exact hbe
      · rintro rfl
        rcases he with z | z
        · exact nown c b hc z
        · rw [hc] at z; cases z; exact hb rfl
end

structure Un (fs ex : List Addr) (H H' : Hp) (h h' : Heap) : Prop where
  keep : ∀ b o, h.get? b = some o → H b = none → b ∉ fs → b ∉ ex → h'.get? b = some o
  slot : ∀ b o, h.get? b = some o → H b = none → b ∈ fs → b ∉ ex → ∃ sl, h'.get? b = some { o with slots := sl }
  free : ∀ b o, h.get? b = some o → H b = none → b ∉ ex → H' b = none
  there : ∀ b o, h.get? b = some o → b ∉ ex → ∃ o', h'.get? b = some o'
  tups : ∀ b xs, H b = some (.tup xs) → H' b = some (.tup xs)
  frzs : ∀ b o u, H b = some (.frz o u) → H' b = some (.frz o u)
  tbls : ∀ b ps, H b = some (.tbl ps) → ∃ more, H' b = some (.tbl (ps ++ more))
section
variable {fs fs' ex ex' : List Addr} {H H1 H2 : Hp} {h h1 h2 h' : Heap} {a x e : Addr} {o : HO}
theorem Un.any (u : Un fs ex H H1 h h1) {b : Addr} {ob : Obj} (q : h.get? b = some ob) (n : H b = none) (hx : b ∉ ex) : ∃ sl, h1.get? b = some { ob with slots := sl } := by
  by_cases hb : b ∈ fs
  · exact u.slot b ob q n hb hx
  · exact ⟨ob.slots, u.keep b ob q n hb hx⟩
theorem Un.kept (k : ∀ b u, h.get? b = some u → h'.get? b = some u) : Un fs ex H H h h' :=
  ⟨fun b ob q _ _ _ => k b ob q, fun b ob q _ _ _ => ⟨ob.slots, k b ob q⟩, fun _ _ _ n _ => n, fun b ob q _ => ⟨ob, k b ob q⟩, fun _ _ q => q, fun _ _ _ q => q, fun _ ps q => ⟨#[], by rw [q]; simp⟩⟩
theorem Un.refl : Un fs ex H H h h := Un.kept fun _ _ q => q
theorem Un.laid (k : ∀ b u, h.get? b = some u → h'.get? b = some u) (hp : h.objs.size ≤ a) (hn : H a = none) : Un fs ex H (upd H a o) h h' where
  keep := fun b u q _ _ _ => k b u q
  slot := fun b u q _ _ _ => ⟨u.slots, k b u q⟩
  free := fun b u q n _ => by rw [upd_ne (Nat.ne_of_lt (Nat.lt_of_lt_of_le (Heap.lt_size q) hp))]; exact n
  there := fun b u q _ => ⟨u, k b u q⟩
  tups := fun b xs q => by rw [upd_ne (ne_of_none q hn)]; exact q
  frzs := fun b u xs q => by rw [upd_ne (ne_of_none q hn)]; exact q
  tbls := fun b ps q => ⟨#[], by rw [upd_ne (ne_of_none q hn), q]; simp⟩
theorem Un.write (mu : Mut (H x)) (he : e = x ∨ H e = some (.own x)) (k : ∀ b u, b ≠ e → h.get? b = some u → h'.get? b = some u) (heo : ∃ u, h'.get? e = some u) : Un fs ex H (upd H x o) h h' := by
  have hx : ∀ b, H b = none → b ≠ x := fun b n z => by subst z; rw [n] at mu; exact mu
  have hb : ∀ b, H b = none → b ≠ e := fun b n z => by
    subst z
    rcases he with r | r
    · exact hx b n r
    · rw [n] at r; cases r
  have hm : ∀ b u, H b = some u → ¬ Mut (some u) → b ≠ x := fun b u q nm z => by subst z; rw [q] at mu; exact nm mu
  refine ⟨fun b u q n _ _ => k b u (hb b n) q, fun b u q n _ _ => ⟨u.slots, k b u (hb b n) q⟩, fun b u q n _ => by rw [upd_ne (hx b n)]; exact n, fun b u q _ => ?_,
    fun b xs q => by rw [upd_ne (hm b _ q fun z => z)]; exact q, fun b u xs q => by rw [upd_ne (hm b _ q fun z => z)]; exact q, fun b ps q => ⟨#[], by rw [upd_ne (hm b _ q fun z => z), q]; simp⟩⟩
  by_cases hbe : b = e
  · subst hbe; exact heo
  · exact ⟨u, k b u hbe q⟩
end

def trk (h : Heap) (H : Hp) : List Addr := (List.range h.objs.size).filter fun a => (H a).isSome
def hidT (h : Heap) (H : Hp) : Heap := PySem.W.hideAll h (trk h H)
theorem hidT_size (h : Heap) (H : Hp) : (hidT h H).objs.size = h.objs.size := PySem.W.hideAll_size _ _
theorem hidT_get {h : Heap} {H : Hp} {b : Addr} {o : Obj} (e : h.get? b = some o) (n : H b = none) : (hidT h H).get? b = some o :=
  PySem.W.hideAll_get _ e fun hm => by
    have q : (H b).isSome = true := (List.mem_filter.mp hm).2
    rw [n] at q; simp at q
theorem of_hidT {h : Heap} {H : Hp} {b : Addr} {o : Obj} (e : (hidT h H).get? b = some o) : h.get? b = some o ∧ H b = none := by
  have e' : h.get? b = some o := PySem.W.of_hideAll (trk h H) e
  refine ⟨e', ?_⟩
  cases q : H b with
  | none => rfl
  | some x =>
    have hm : b ∈ trk h H := List.mem_filter.mpr ⟨List.mem_range.mpr (Heap.lt_size e'), by simp [q]⟩
    have z : (hidT h H).get? b = none := PySem.W.hideAll_none (trk h H) hm
    rw [z] at e; cases e

end L2

namespace L2
open PySem PySem.Spec PyProof.Rows

/-- the module's facts, over the base: the heap at the law's entry without what is tracked there -/
structure Mod (K : PySem.W.Frag) (mg : Str → Option Value) (base : Heap) : Prop where
  kin : K.In base
  glob : base.Ns mainGlobals mg
  blt : ∃ mb, base.Ns builtinsNs mb ∧ ∀ x : Str, x ≠ "__name__" → mb x = bootBuiltins x
  nolimit : base.NoLimit

/-- the context: a def's body (or a comprehension's block) running. base: fixed through the whole law; s₀, H₀: the entry; outer: the frames whose slots others may change (a def's callers); stack: all frames that run;
   ex: iterators that were made ahead of the entry and are walked here (a comprehension's); fn: the names whose cells were made at the entry (a def: all; a comprehension's block: its own); calm: not within an except suite; pn: pins that every state bears; xe: what is wanted of an exception that leaves the code -/
structure Cx where
  prog : Program
  w : World
  K : PySem.W.Frag
  mg : Str → Option Value
  base : Heap
  A : Around
  N : List Str
  s₀ : Shared
  H₀ : Hp
  env : Env
  outer : List Env
  stack : List Env
  ex : List Addr
  fn : Str → Bool
  calm : Bool
  pn : List (Addr × Obj)
  xe : Value → Shared → Prop
/-- the callers' frames -/
def frs (l : List Env) : List Addr := l.filterMap (·.frame)
abbrev Cx.fs (X : Cx) : List Addr := frs X.outer

def Vis (sc : Scope) (x : Str) : Prop := sc.names.lookup x = some .local ∨ sc.names.lookup x = some .cell ∨ sc.names.lookup x = some .free
def Loc (sc : Scope) (x : Str) : Prop := sc.names.lookup x = some .local ∨ sc.names.lookup x = some .cell
def Look (env : Env) (h : Heap) (m : Str → Option Value) (x : Str) (u : Value) : Prop :=
  (env.kindOf x = some .local ∧ m x = some u) ∨ ((env.kindOf x = some .cell ∨ env.kindOf x = some .free) ∧ ∃ c, env.cells.lookup x = some c ∧ h.IsCell c (some u))

structure Cx.Ok (X : Cx) : Prop where
  mod : Mod X.K X.mg X.base
  kind : X.env.scope.kind = .function
  glob : X.env.globals = mainGlobals
  blt : X.env.builtins = builtinsNs
  above : X.s₀.heap.objs.size ≤ X.env.locals
  inj : ∀ x y c, X.env.cells.lookup x = some c → X.env.cells.lookup y = some c → x = y
  has : ∀ x, (X.env.kindOf x = some .cell ∨ X.env.kindOf x = some .free) → ∃ c, X.env.cells.lookup x = some c
  cab : ∀ x c, X.fn x = true → X.env.cells.lookup x = some c → X.s₀.heap.objs.size ≤ c
  hd : X.calm = true → X.A.handled = none
  frames : X.A.frames = some X.stack
  stk : X.stack = X.outer ∨ (X.stack = X.env :: X.outer ∧ X.env.frame = some X.env.locals)
  exf : ∀ b ∈ X.ex, b ≠ X.env.locals ∧ ∀ x c, X.env.cells.lookup x = some c → c ≠ b
  bs : ∀ b o, X.base.get? b = some o → X.s₀.heap.get? b = some o ∧ X.H₀ b = none
  bsz : X.base.objs.size ≤ X.s₀.heap.objs.size
  noex : ∀ b o, X.base.get? b = some o → b ∉ X.ex
  exfs : ∀ b ∈ X.ex, b ∉ X.fs
  funs : X.s₀.heap.FunFrames X.base X.outer
  frf : ∀ b ∈ X.fs, X.H₀ b = none

structure Inv (X : Cx) (pins : List (Addr × Obj)) (σ : List (Option V)) (H : Hp) (s : Shared) : Prop where
  ok : X.Ok
  os : s.os = X.s₀.os
  bare : AllBare s.gens
  base : Un X.fs X.ex X.H₀ H X.s₀.heap s.heap
  loc : ∃ m, s.heap.Ns X.env.locals m ∧ ∀ (i : Nat) (x : Str) (v : V), X.N[i]? = some x → σ[i]? = some (some v) → Vis X.env.scope x → ∃ u, RelV v u ∧ Look X.env s.heap m x u
  cell : ∀ x c, X.env.cells.lookup x = some c → ∃ v, s.heap.IsCell c v
  free : H X.env.locals = none
  freeC : ∀ x c, X.env.cells.lookup x = some c → H c = none
  pin : ∀ p ∈ X.pn ++ pins, s.heap.get? p.1 = some p.2 ∧ H p.1 = none ∧ p.1 ≠ X.env.locals ∧ p.1 ∉ X.fs ∧ ∀ v, p.2.data ≠ .cell v
  hok : HOk X.prog X.w H s.heap
  len : σ.length = X.N.length

section
variable {X : Cx} {pins : List (Addr × Obj)} {σ : List (Option V)} {H H' : Hp} {s : Shared} {h' : Heap}

theorem Cx.Ok.nofr (ok : X.Ok) {b : Addr} {o : Obj} (e : X.base.get? b = some o) : b ∉ X.fs := fun hb => by
  have := (ok.funs.mem hb).1
  rw [e] at this; cases this
theorem Inv.bs (I : Inv X pins σ H s) : ∀ b o, X.base.get? b = some o → s.heap.get? b = some o ∧ H b = none := fun b o e =>
  ⟨I.base.keep b o (I.ok.bs b o e).1 (I.ok.bs b o e).2 (I.ok.nofr e) (I.ok.noex b o e), I.base.free b o (I.ok.bs b o e).1 (I.ok.bs b o e).2 (I.ok.noex b o e)⟩
theorem Inv.bk (I : Inv X pins σ H s) : ∀ b o, X.base.get? b = some o → s.heap.get? b = some o := fun b o e => (I.bs b o e).1
theorem Inv.mod (I : Inv X pins σ H s) : Mod X.K X.mg X.base := I.ok.mod
theorem Inv.kIn (I : Inv X pins σ H s) : X.K.In s.heap := I.ok.mod.kin.keeps I.bk
theorem Inv.lt (I : Inv X pins σ H s) : X.env.locals < s.heap.objs.size := let ⟨_, hn, _⟩ := I.loc; hn.lt
theorem Inv.sz (I : Inv X pins σ H s) : X.s₀.heap.objs.size ≤ s.heap.objs.size := Nat.le_trans I.ok.above (Nat.le_of_lt I.lt)
theorem Inv.nofs (I : Inv X pins σ H s) {a : Addr} (h : s.heap.objs.size ≤ a) : a ∉ X.fs := fun hb => by
  obtain ⟨_, o, ho, _⟩ := I.ok.funs.mem hb
  exact absurd (Nat.lt_of_lt_of_le (Heap.lt_size ho) (Nat.le_trans I.sz h)) (Nat.lt_irrefl _)
theorem Inv.cne (I : Inv X pins σ H s) : ∀ x c, X.env.cells.lookup x = some c → c ≠ X.env.locals := fun x c e z => by
  obtain ⟨v, o, ho, hd⟩ := I.cell x c e
  obtain ⟨m, ⟨o', es, ep, ho', hd', _⟩, _⟩ := I.loc
  rw [z, ho'] at ho; cases ho; rw [hd'] at hd; cases hd
theorem Inv.funs (I : Inv X pins σ H s) : s.heap.FunFrames X.base X.outer := by
  have all : ∀ (l : List Env), (∀ b ∈ frs l, b ∈ X.fs) → X.s₀.heap.FunFrames X.base l → s.heap.FunFrames X.base l := by
    intro l
    induction l with
    | nil => intro _ _; trivial
    | cons env r ih =>
      intro hs hl
      obtain ⟨hk, ⟨L, o, hf, hn, ho, hd⟩, hr⟩ := hl
      have hL : L ∈ X.fs := hs L (by unfold frs; rw [List.filterMap_cons, hf]; exact List.mem_cons_self)
      obtain ⟨sl, e⟩ := I.base.slot L o ho (I.ok.frf L hL) hL fun z => I.ok.exfs L z hL
      exact ⟨hk, ⟨L, _, hf, hn, e, hd⟩, ih (fun b hb => hs b (by unfold frs; rw [List.filterMap_cons, hf]; exact List.mem_cons_of_mem _ hb)) hr⟩
  exact all X.outer (fun _ hb => hb) I.ok.funs

/-- the frames that run, for a call -/
theorem Inv.stack (I : Inv X pins σ H s) : s.heap.FunFrames X.base X.stack := by
  rcases I.ok.stk with e | ⟨e, hf⟩
  · rw [e]; exact I.funs
  · rw [e]
    obtain ⟨m, hn, _⟩ := I.loc
    refine .cons (by rw [I.ok.kind]; decide) hf hn ?_ I.funs
    exact Heap.get?_none_of_le (Nat.le_trans I.ok.bsz I.ok.above)
theorem Inv.stkSub (I : Inv X pins σ H s) : ∀ b ∈ frs X.stack, b ∈ X.env.locals :: X.fs := fun b hb => by
  rcases I.ok.stk with e | ⟨e, hf⟩
  · rw [e] at hb; exact List.mem_cons_of_mem _ hb
  · rw [e] at hb
    unfold frs at hb
    rw [List.filterMap_cons, hf] at hb
    exact hb
theorem Inv.stkFree (I : Inv X pins σ H s) : ∀ b ∈ frs X.stack, H b = none := fun b hb => by
  rcases List.mem_cons.mp (I.stkSub b hb) with e | hb
  · rw [e]; exact I.free
  · obtain ⟨_, o, ho, _⟩ := I.ok.funs.mem hb
    exact I.base.free b o ho (I.ok.frf b hb) fun z => I.ok.exfs b z hb

/-- THE STEP: the untracked objects but the frame and the records at ch are kept (the callers' frames up to slots), the frame's map is kept, the new abstract heap is held -/
theorem Inv.step {g' : Array GenState} {t' : Nat} {d' : Drawn} {ch : List Addr} (I : Inv X pins σ H s)
    (hch : ∀ b ∈ ch, (b ∈ X.ex ∨ X.s₀.heap.objs.size ≤ b) ∧ b ≠ X.env.locals ∧ (∀ x c, X.env.cells.lookup x = some c → c ≠ b) ∧ ∀ p ∈ X.pn ++ pins, p.1 ≠ b)
    (keep : ∀ b o, b ≠ X.env.locals → b ∉ X.fs → b ∉ ch → s.heap.get? b = some o → H b = none → h'.get? b = some o)
    (slot : ∀ b o, b ≠ X.env.locals → b ∈ X.fs → b ∉ ch → s.heap.get? b = some o → H b = none → ∃ sl, h'.get? b = some { o with slots := sl }) (free : ∀ b o, b ∉ ch → s.heap.get? b = some o → H b = none → H' b = none)
    (there : ∀ b o, b ∉ ch → s.heap.get? b = some o → ∃ o', h'.get? b = some o')
    (tups : ∀ b xs, H b = some (.tup xs) → H' b = some (.tup xs)) (frzs : ∀ b o u, H b = some (.frz o u) → H' b = some (.frz o u)) (tbls : ∀ b ps, H b = some (.tbl ps) → ∃ more, H' b = some (.tbl (ps ++ more)))
    (ns : ∀ m, s.heap.Ns X.env.locals m → h'.Ns X.env.locals m) (hok : HOk X.prog X.w H' h') (hg : AllBare g') :
    Inv X pins σ H' { s with heap := h', gens := g', drawn := d', toks := t' } := by
  have neL : ∀ b o, X.s₀.heap.get? b = some o → b ≠ X.env.locals := fun b o e => Nat.ne_of_lt (Nat.lt_of_lt_of_le (Heap.lt_size e) I.ok.above)
  have neC : ∀ b o, X.s₀.heap.get? b = some o → b ∉ X.ex → b ∉ ch := fun b o e hx hb => by
    rcases (hch b hb).1 with z | z
    · exact hx z
    · exact absurd (Nat.lt_of_lt_of_le (Heap.lt_size e) z) (Nat.lt_irrefl _)
  have cellK : ∀ x c, X.env.cells.lookup x = some c → ∀ v, s.heap.IsCell c v → h'.IsCell c v := fun x c e v ⟨o, ho, hd⟩ => by
    have nch : c ∉ ch := fun z => (hch c z).2.2.1 x c e rfl
    by_cases hc : c ∈ X.fs
    · obtain ⟨sl, q⟩ := slot c o (I.cne x c e) hc nch ho (I.freeC x c e)
      exact ⟨_, q, hd⟩
    · exact ⟨o, keep c o (I.cne x c e) hc nch ho (I.freeC x c e), hd⟩
  refine ⟨I.ok, I.os, hg, ⟨fun b o e n hb hx => ?_, fun b o e n hb hx => ?_, fun b o e n hx => ?_, fun b o e hx => ?_, fun b xs e => tups b xs (I.base.tups b xs e), fun b o xs e => frzs b o xs (I.base.frzs b o xs e), fun b ps e => ?_⟩, ?_, fun x c e => ?_, ?_, fun x c e => ?_, fun p hp => ?_, hok, I.len⟩
  · exact keep b o (neL b o e) hb (neC b o e hx) (I.base.keep b o e n hb hx) (I.base.free b o e n hx)
  · obtain ⟨sl, e1⟩ := I.base.slot b o e n hb hx
    obtain ⟨sl', e2⟩ := slot b _ (neL b o e) hb (neC b o e hx) e1 (I.base.free b o e n hx)
    exact ⟨sl', e2⟩
  · obtain ⟨o', e1⟩ := I.base.there b o e hx
    exact free b o' (neC b o e hx) e1 (I.base.free b o e n hx)
  · obtain ⟨o', e1⟩ := I.base.there b o e hx
    exact there b o' (neC b o e hx) e1
  · obtain ⟨m1, e1⟩ := I.base.tbls b ps e
    obtain ⟨m2, e2⟩ := tbls b _ e1
    exact ⟨m1 ++ m2, by rw [e2, Array.append_assoc]⟩
  · obtain ⟨m, hn, hl⟩ := I.loc
    refine ⟨m, ns m hn, fun i x v e1 e2 e3 => ?_⟩
    obtain ⟨u, r, l⟩ := hl i x v e1 e2 e3
    refine ⟨u, r, ?_⟩
    rcases l with l | ⟨k, c, e, z⟩
    · exact .inl l
    · exact .inr ⟨k, c, e, cellK x c e _ z⟩
  · obtain ⟨v, z⟩ := I.cell x c e
    exact ⟨v, cellK x c e v z⟩
  · obtain ⟨m, ⟨o, _, _, ho, _⟩, _⟩ := I.loc
    exact free _ o (fun z => (hch _ z).2.1 rfl) ho I.free
  · obtain ⟨v, o, ho, hd⟩ := I.cell x c e
    exact free c o (fun z => (hch c z).2.2.1 x c e rfl) ho (I.freeC x c e)
  · obtain ⟨e, n, ne, nf, d⟩ := I.pin p hp
    have nch : p.1 ∉ ch := fun z => (hch p.1 z).2.2.2 p hp rfl
    exact ⟨keep p.1 p.2 ne nf nch e n, free p.1 p.2 nch e n, ne, nf, d⟩
/-- .. where the frame's own object is kept too -/
theorem Inv.un {t' : Nat} (I : Inv X pins σ H s) (u : Un X.fs [] H H' s.heap h') (hok : HOk X.prog X.w H' h') : Inv X pins σ H' { s with heap := h', toks := t' } := by
  obtain ⟨m, ⟨o, es, ep, ho, r⟩, _⟩ := id I.loc
  obtain ⟨sl, hL⟩ := u.any ho I.free (by simp)
  exact I.step (g' := s.gens) (d' := s.drawn) (ch := []) (fun _ z => nomatch z) (fun b o _ hb _ e n => u.keep b o e n hb (by simp)) (fun b o _ hb _ e n => u.slot b o e n hb (by simp)) (fun b o _ e n => u.free b o e n (by simp)) (fun b o _ e => u.there b o e (by simp)) u.tups u.frzs u.tbls (fun m' hm => by
    obtain ⟨o', es', ep', ho', r'⟩ := hm
    rw [ho] at ho'; cases ho'
    exact ⟨_, es', ep', hL, r'⟩) hok I.bare
/-- behind a call (or a comprehension's block): the slots of this frame may have changed too, the records at ch may have turned -/
theorem Inv.call {g' : Array GenState} {t' : Nat} {d' : Drawn} {ch : List Addr} (I : Inv X pins σ H s) (u : Un (frs X.stack) ch H H' s.heap h') (hok : HOk X.prog X.w H' h') (hg : AllBare g')
    (hch : ∀ b ∈ ch, (b ∈ X.ex ∨ X.s₀.heap.objs.size ≤ b) ∧ b ≠ X.env.locals ∧ (∀ x c, X.env.cells.lookup x = some c → c ≠ b) ∧ ∀ p ∈ X.pn ++ pins, p.1 ≠ b) :
    Inv X pins σ H' { s with heap := h', gens := g', drawn := d', toks := t' } := by
  obtain ⟨m, ⟨o, es, ep, ho, r⟩, _⟩ := id I.loc
  obtain ⟨sl, hL⟩ := u.any ho I.free fun z => (hch _ z).2.1 rfl
  exact I.step (ch := ch) hch (fun b o hL hb hc e n => u.keep b o e n (fun z => (List.mem_cons.mp (I.stkSub b z)).elim hL hb) hc) (fun b o _ _ hc e n => u.any e n hc) (fun b o hc e n => u.free b o e n hc) (fun b o hc e => u.there b o e hc) u.tups u.frzs u.tbls (fun m' hm => by
    obtain ⟨o', es', ep', ho', r'⟩ := hm
    rw [ho] at ho'; cases ho'
    exact ⟨_, es', ep', hL, r'⟩) hok hg
/-- an untracked record of ours (an iterator) has turned -/
theorem Inv.turned {t' : Nat} {it : Addr} (I : Inv X pins σ H s) (k : ∀ b o, b ≠ it → s.heap.get? b = some o → h'.get? b = some o) (hn : H it = none) (hL : it ≠ X.env.locals)
    (h1 : it ∈ X.ex ∨ X.s₀.heap.objs.size ≤ it) (h2 : ∀ x c, X.env.cells.lookup x = some c → c ≠ it) (h3 : ∀ p ∈ X.pn ++ pins, p.1 ≠ it) : Inv X pins σ H { s with heap := h', toks := t' } := by
  have nit : ∀ b u, H b = some u → b ≠ it := fun b u e z => by rw [z, hn] at e; cases e
  refine I.step (g' := s.gens) (d' := s.drawn) (ch := [it]) (fun b hb => ?_) (fun b o _ _ hc e _ => k b o (fun z => hc (by simp [z])) e) (fun b o _ _ hc e _ => ⟨o.slots, k b o (fun z => hc (by simp [z])) e⟩) (fun _ _ _ _ n => n)
    (fun b o hc e => ⟨o, k b o (fun z => hc (by simp [z])) e⟩) (fun _ _ e => e) (fun _ _ _ e => e) (fun b ps e => ⟨#[], by rw [e]; simp⟩) (fun m hm => ?_) (fun b u e => ?_) I.bare
  · have e : b = it := by simpa using hb
    subst e
    exact ⟨h1, hL, h2, h3⟩
  · obtain ⟨o, es, ep, ho, r⟩ := hm
    exact ⟨o, es, ep, k _ o (Ne.symm hL) ho, r⟩
  · refine (I.hok b u e).stay (fun c v hc q => k c v ?_ q) (fun _ q => q) fun _ _ q => q
    rcases hc with z | z
    · rw [z]; exact nit b u e
    · exact nit c _ z
theorem Inv.tok (I : Inv X pins σ H s) (t : Nat) : Inv X pins σ H { s with toks := t } := I.un (h' := s.heap) (t' := t) Un.refl I.hok
/-- all objects kept -/
theorem Inv.kept {t' : Nat} (I : Inv X pins σ H s) (k : ∀ b u, s.heap.get? b = some u → h'.get? b = some u) : Inv X pins σ H { s with heap := h', toks := t' } := I.un (Un.kept k) (I.hok.kept k)
/-- a new object laid and tracked -/
theorem Inv.laid {a : Addr} {o : HO} {t' : Nat} (I : Inv X pins σ H s) (k : ∀ b u, s.heap.get? b = some u → h'.get? b = some u) (hp : s.heap.objs.size ≤ a) (new : ObjOk X.prog X.w (upd H a o) h' a o) :
    Inv X pins σ (upd H a o) { s with heap := h', toks := t' } := I.un (Un.laid k hp (I.hok.fresh hp)) (I.hok.laid k hp new)
/-- an object written -/
theorem Inv.write {x e : Addr} {o : HO} {t' : Nat} (I : Inv X pins σ H s) (mu : Mut (H x)) (he : e = x ∨ H e = some (.own x)) (k : ∀ b u, b ≠ e → s.heap.get? b = some u → h'.get? b = some u) (heo : ∃ u, h'.get? e = some u)
    (new : ObjOk X.prog X.w (upd H x o) h' x o) : Inv X pins σ (upd H x o) { s with heap := h', toks := t' } := I.un (Un.write mu he k heo) (I.hok.write mu he k heo new)
theorem Inv.pins_of {pins' : List (Addr × Obj)} (I : Inv X pins σ H s) (h : ∀ p ∈ pins', s.heap.get? p.1 = some p.2 ∧ H p.1 = none ∧ p.1 ≠ X.env.locals ∧ p.1 ∉ X.fs ∧ ∀ v, p.2.data ≠ .cell v) : Inv X pins' σ H s :=
  ⟨I.ok, I.os, I.bare, I.base, I.loc, I.cell, I.free, I.freeC, fun p hp => (List.mem_append.mp hp).elim (fun z => I.pin p (List.mem_append_left _ z)) (h p), I.hok, I.len⟩

theorem nodup_ix {N : List Str} (hN : N.Nodup) {i j : Nat} {x : Str} (a : N[i]? = some x) (b : N[j]? = some x) : i = j := by
  obtain ⟨h1, e1⟩ := List.getElem?_eq_some_iff.mp a
  obtain ⟨h2, e2⟩ := List.getElem?_eq_some_iff.mp b
  exact (List.getElem_inj hN).mp (e1.trans e2.symm)

/-- a name is stored; what changed -/
theorem store_ok2 {M : Model} {A : Around} {E : Value → Shared → Prop} {i : Nat} {x : Str} {v : V} {u : Value} {Q : Unit → Shared → Prop} (I : Inv X pins σ H s) (hN : X.N.Nodup) (hi : X.N[i]? = some x) (hx : Loc X.env.scope x) (r : RelV v u)
    (h : ∀ s', Inv X pins (σ.set i (some v)) H s' → (∃ a, Heap.SameBut a s.heap s'.heap ∧ (a = X.env.locals ∨ X.env.cells.lookup x = some a)) → Q () s') (hf : X.fn x = true ∨ X.env.scope.names.lookup x = some .local := by first | exact .inl rfl | exact .inr rfl | assumption) : wpAny M A (storeName X.env x u) Q E s := by
  obtain ⟨m, hn, hl⟩ := id I.loc
  have hcls : (X.env.scope.kind == .class || (X.env.scope.kind == .module && X.env.locals != X.env.globals)) = false := by rw [I.ok.kind]; rfl
  have hiσ : i < σ.length := by rw [I.len]; exact (List.getElem?_eq_some_iff.mp hi).1
  have cne := I.cne
  have tracked : ∀ {a : Addr} {h' : Heap}, (∃ o, s.heap.get? a = some o ∧ H a = none) → Heap.SameBut a s.heap h' → HOk X.prog X.w H h' := fun {a h'} ha hs b ob e => by
    obtain ⟨_, _, hfree⟩ := ha
    refine (I.hok b ob e).stay (fun c w' hc q => (hs.2 c ?_).trans q) (fun _ q => q) fun _ _ q => q
    rintro rfl
    rcases hc with rfl | hc
    · rw [hfree] at e; cases e
    · rw [hfree] at hc; cases hc
  rcases hx with hk | hk
  · refine wpAny_storeName_local hk hn (fun h' hn' hs => ?_) hcls
    obtain ⟨oL, _, _, hoL, _⟩ := id hn
    refine h _ ⟨I.ok, I.os, I.bare, ⟨fun b o e n hb hx => ?_, fun b o e n hb hx => ?_, I.base.free, fun b o e hx => ?_, I.base.tups, I.base.frzs, I.base.tbls⟩, ⟨_, hn', fun j y v' e1 e2 e3 => ?_⟩, fun y c e => ?_, I.free, I.freeC, fun p hp => ?_, tracked ⟨oL, hoL, I.free⟩ hs, by simpa using I.len⟩ ⟨_, hs, .inl rfl⟩
    · exact (hs.2 b (Nat.ne_of_lt (Nat.lt_of_lt_of_le (Heap.lt_size e) I.ok.above))).trans (I.base.keep b o e n hb hx)
    · obtain ⟨sl, e1⟩ := I.base.slot b o e n hb hx
      exact ⟨sl, (hs.2 b (Nat.ne_of_lt (Nat.lt_of_lt_of_le (Heap.lt_size e) I.ok.above))).trans e1⟩
    · obtain ⟨o', e1⟩ := I.base.there b o e hx
      exact ⟨o', (hs.2 b (Nat.ne_of_lt (Nat.lt_of_lt_of_le (Heap.lt_size e) I.ok.above))).trans e1⟩
    · by_cases hj : j = i
      · subst hj
        rw [hi] at e1; cases e1
        rw [List.getElem?_set_self hiσ] at e2
        cases e2
        exact ⟨u, r, .inl ⟨hk, by simp⟩⟩
      · rw [List.getElem?_set_ne (Ne.symm hj)] at e2
        obtain ⟨u', r', q⟩ := hl j y v' e1 e2 e3
        refine ⟨u', r', ?_⟩
        rcases q with ⟨k, e⟩ | ⟨k, c, e, z⟩
        · refine .inl ⟨k, ?_⟩
          have : y ≠ x := fun e => hj (nodup_ix hN e1 (e ▸ hi))
          simp [this, e]
        · exact .inr ⟨k, c, e, z.sameBut hs (cne y c e)⟩
    · obtain ⟨w', z⟩ := I.cell y c e
      exact ⟨w', z.sameBut hs (cne y c e)⟩
    · obtain ⟨e, n, ne, nf, d⟩ := I.pin p hp
      exact ⟨(hs.2 p.1 ne).trans e, n, ne, nf, d⟩
  · have hfn : X.fn x = true := by
      rcases hf with z | z
      · exact z
      · rw [z] at hk; cases hk
    obtain ⟨c, hc⟩ := I.ok.has x (.inl hk)
    obtain ⟨w', z⟩ := I.cell x c hc
    refine wpAny_storeName_cell I.ok.kind hk hc z (fun h' hc' hs => ?_)
    obtain ⟨oc, hoc, hocd⟩ := id z
    refine h { s with heap := h' } ⟨I.ok, I.os, I.bare, ⟨fun b o e n hb hx => ?_, fun b o e n hb hx => ?_, I.base.free, fun b o e hx => ?_, I.base.tups, I.base.frzs, I.base.tbls⟩, ⟨m, hn.sameBut hs (Ne.symm (cne x c hc)), fun j y v' e1 e2 e3 => ?_⟩, fun y c' e => ?_, I.free, I.freeC, fun p hp => ?_, tracked ⟨oc, hoc, I.freeC x c hc⟩ hs, by simpa using I.len⟩ ⟨c, hs, .inr hc⟩
    · exact (hs.2 b (Nat.ne_of_lt (Nat.lt_of_lt_of_le (Heap.lt_size e) (I.ok.cab x c hfn hc)))).trans (I.base.keep b o e n hb hx)
    · obtain ⟨sl, e1⟩ := I.base.slot b o e n hb hx
      exact ⟨sl, (hs.2 b (Nat.ne_of_lt (Nat.lt_of_lt_of_le (Heap.lt_size e) (I.ok.cab x c hfn hc)))).trans e1⟩
    · obtain ⟨o', e1⟩ := I.base.there b o e hx
      exact ⟨o', (hs.2 b (Nat.ne_of_lt (Nat.lt_of_lt_of_le (Heap.lt_size e) (I.ok.cab x c hfn hc)))).trans e1⟩
    · by_cases hj : j = i
      · subst hj
        rw [hi] at e1; cases e1
        rw [List.getElem?_set_self hiσ] at e2
        cases e2
        exact ⟨u, r, .inr ⟨.inl hk, c, hc, hc'⟩⟩
      · rw [List.getElem?_set_ne (Ne.symm hj)] at e2
        obtain ⟨u', r', q⟩ := hl j y v' e1 e2 e3
        refine ⟨u', r', ?_⟩
        rcases q with q | ⟨k, c', e, z'⟩
        · exact .inl q
        · refine .inr ⟨k, c', e, z'.sameBut hs ?_⟩
          rintro rfl
          exact hj (nodup_ix hN e1 (I.ok.inj _ _ _ e hc ▸ hi))
    · by_cases hcc : c' = c
      · subst hcc; exact ⟨_, hc'⟩
      · obtain ⟨w2, z2⟩ := I.cell y c' e
        exact ⟨w2, z2.sameBut hs hcc⟩
    · obtain ⟨e, n, ne, nf, d⟩ := I.pin p hp
      refine ⟨(hs.2 p.1 ?_).trans e, n, ne, nf, d⟩
      intro q
      rw [q, hoc] at e
      have q' : oc = p.2 := Option.some.inj e
      exact d w' (by rw [← q']; exact hocd)
theorem store_ok {M : Model} {A : Around} {E : Value → Shared → Prop} {i : Nat} {x : Str} {v : V} {u : Value} {Q : Unit → Shared → Prop} (I : Inv X pins σ H s) (hN : X.N.Nodup) (hi : X.N[i]? = some x) (hx : Loc X.env.scope x) (r : RelV v u)
    (h : ∀ s', Inv X pins (σ.set i (some v)) H s' → Q () s') (hf : X.fn x = true ∨ X.env.scope.names.lookup x = some .local := by first | exact .inl rfl | exact .inr rfl | assumption) : wpAny M A (storeName X.env x u) Q E s :=
  store_ok2 I hN hi hx r (fun s' I' _ => h s' I') hf
/-- behind a call or a block, the state as it is -/
theorem Inv.call' {s' : Shared} {ch : List Addr} (I : Inv X pins σ H s) (ho : s'.os = s.os) (u : Un (frs X.stack) ch H H' s.heap s'.heap) (hok : HOk X.prog X.w H' s'.heap) (hg : AllBare s'.gens)
    (hch : ∀ b ∈ ch, (b ∈ X.ex ∨ X.s₀.heap.objs.size ≤ b) ∧ b ≠ X.env.locals ∧ (∀ x c, X.env.cells.lookup x = some c → c ≠ b) ∧ ∀ p ∈ X.pn ++ pins, p.1 ≠ b) : Inv X pins σ H' s' := by
  obtain ⟨h', g', d', t', o'⟩ := s'
  have e : o' = s.os := ho
  subst e
  exact I.call (g' := g') (t' := t') (d' := d') u hok hg hch
end

/-- an exception: its class, its own dict's address (where it has one), the abstract heap behind it -/
abbrev XK := Value → Option Addr → Hp → Prop
abbrev St := List (Option V)
abbrev VK := V → Hp → Prop
/-- an expression's reading; a test's; an argument list's -/
abbrev TE := St → Hp → VK → Prop
abbrev TT := St → Hp → (Bool → Hp → Prop) → Prop
abbrev TA := St → Hp → (List V → Hp → Prop) → Prop
/-- what is wanted behind a statement -/
structure Ends where
  nx : St → Hp → Prop
  rt : VK
  bk : St → Hp → Prop := fun _ _ => False
  ct : St → Hp → Prop := fun _ _ => False
abbrev TS := Ends → St → Hp → Prop

def EP (X : Cx) (pins : List (Addr × Obj)) (σ : St) (Q : VK) (u : Value) (s' : Shared) : Prop := ∃ v H', Inv X pins σ H' s' ∧ RelV v u ∧ Q v H'
def TP (X : Cx) (pins : List (Addr × Obj)) (σ : St) (Q : Bool → Hp → Prop) (b : Bool) (s' : Shared) : Prop := ∃ H', Inv X pins σ H' s' ∧ Q b H'
def AP (X : Cx) (pins : List (Addr × Obj)) (σ : St) (Q : List V → Hp → Prop) (us : List Value) (s' : Shared) : Prop := ∃ vs H', Inv X pins σ H' s' ∧ Vals vs us ∧ Q vs H'
def SP (X : Cx) (pins : List (Addr × Obj)) (D : Ends) (f : Flow) (s' : Shared) : Prop :=
  match f with
  | .next => ∃ σ' H', Inv X pins σ' H' s' ∧ D.nx σ' H'
  | .brk => ∃ σ' H', Inv X pins σ' H' s' ∧ D.bk σ' H'
  | .cont => ∃ σ' H', Inv X pins σ' H' s' ∧ D.ct σ' H'
  | .ret u => ∃ v σ' H', Inv X pins σ' H' s' ∧ RelV v u ∧ D.rt v H'

def PE (X : Cx) (e : Expr) (t : TE) : Prop :=
  ∀ (pins : List (Addr × Obj)) (s : Shared) (σ : St) (H : Hp) (Q : VK), Inv X pins σ H s → t σ H Q → wpAny (model X.prog X.w) X.A (eval e X.env) (EP X pins σ Q) X.xe s
def PT (X : Cx) (e : Expr) (t : TT) : Prop :=
  ∀ (pins : List (Addr × Obj)) (s : Shared) (σ : St) (H : Hp) (Q : Bool → Hp → Prop), Inv X pins σ H s → t σ H Q → wpAny (model X.prog X.w) X.A (isTrue e X.env (eval e X.env)) (TP X pins σ Q) X.xe s
/-- a test whatever its 'whole' is (and, or) -/
def PW (X : Cx) (e : Expr) (t : TT) : Prop :=
  ∀ (whole : Sem Value) (pins : List (Addr × Obj)) (s : Shared) (σ : St) (H : Hp) (Q : Bool → Hp → Prop), Inv X pins σ H s → t σ H Q → wpAny (model X.prog X.w) X.A (isTrue e X.env whole) (TP X pins σ Q) X.xe s
theorem PW.pt {X : Cx} {e : Expr} {t : TT} (h : PW X e t) : PT X e t := h _
/-- an argument list (no star), from the left -/
def PA (X : Cx) (es : List Expr) (t : TA) : Prop :=
  ∀ (pos : Pos) (pins : List (Addr × Obj)) (s : Shared) (σ : St) (H : Hp) (Q : List V → Hp → Prop), Inv X pins σ H s → t σ H Q → wpAny (model X.prog X.w) X.A (spliced (backTo pos (starEach es X.env))) (AP X pins σ Q) X.xe s
def PS (X : Cx) (st : Stmt) (t : TS) : Prop :=
  ∀ (pins : List (Addr × Obj)) (s : Shared) (σ : St) (H : Hp) (D : Ends), Inv X pins σ H s → t D σ H → wpAny (model X.prog X.w) X.A (exec st X.env) (SP X pins D) X.xe s
def PSs (X : Cx) (st : List Stmt) (t : TS) : Prop :=
  ∀ (pins : List (Addr × Obj)) (s : Shared) (σ : St) (H : Hp) (D : Ends), Inv X pins σ H s → t D σ H → wpAny (model X.prog X.w) X.A (execs st X.env) (SP X pins D) X.xe s
/-- weaken the end -/
theorem thn {α : Type} {t : Sem α} {Q Q' : α → Shared → Prop} {M : Model} {A : Around} {E : Value → Shared → Prop} {s : Shared} (h : wpAny M A t Q E s) (hQ : ∀ a s, Q a s → Q' a s) : wpAny M A t Q' E s := wpAny_mono h hQ fun _ _ x => x
end L2

namespace L2
open PySem PySem.Spec PyProof.Rows
section
variable {X : Cx}

def tVar (i : Nat) : TE := fun σ H Q => ∃ v, σ[i]? = some (some v) ∧ Q v H
def tC (v : V) : TE := fun _ H Q => Q v H
theorem pe_var {i : Nat} {x : Str} {pos : Pos} (hN : X.N[i]? = some x) (hv : Vis X.env.scope x) (hd : (x == ("__debug__" : Str)) = false := by decide) (hcd : (x == ("__classdict__" : Str)) = false := by decide) : PE X (.Name x pos) (tVar i) := by
  intro pins s σ H Q I h
  obtain ⟨v, e, h⟩ := h
  obtain ⟨m, hn, hl⟩ := I.loc
  obtain ⟨u, r, l⟩ := hl i x v hN e hv
  have fin : EP X pins σ Q u s := ⟨v, H, I, r, h⟩
  rcases l with ⟨hk, hm⟩ | ⟨hk, c, hc, hcell⟩
  · exact wpAny_Name (wpAny_loadName_local I.ok.kind hk hn hm fin) hd
  · rcases hk with hk | hk
    · exact wpAny_Name (wpAny_loadName_cell I.ok.kind hk hc hcell fin) hd
    · exact wpAny_Name (wpAny_loadName_free I.ok.kind hk hc hcell fin hcd) hd
theorem pe_int {i j pos} : PE X (.Constant (.int i) j pos) (tC (.int i)) := fun _ _ _ H _ I h => wpAny_Constant_int ⟨.int i, H, I.tok _, ⟨_, rfl⟩, h⟩
theorem pe_bl {b j pos} : PE X (.Constant (.bool b) j pos) (tC (.bl b)) := fun _ _ _ H _ I h => Constant_bool ⟨.bl b, H, I, rfl, h⟩
theorem pe_non {j pos} : PE X (.Constant .none j pos) (tC .non) := fun _ _ _ H _ I h => Constant_none ⟨.non, H, I, rfl, h⟩
theorem pe_str {x j pos} : PE X (.Constant (.str x) j pos) (tC (.str x)) := fun _ _ _ H _ I h => Calls.Constant_str ⟨.str x, H, I.tok _, ⟨_, rfl⟩, h⟩

/-- a global name of the def -/
def Gl (X : Cx) (x : Str) : Prop := X.env.kindOf x = some .globalImplicit
theorem ld_glob {E : Value → Shared → Prop} {pins : List (Addr × Obj)} {s : Shared} {σ : St} {H : Hp} {x : Str} {u : Value} {pos : Pos} {Q : Value → Shared → Prop} (I : Inv X pins σ H s) (hg : Gl X x) (hm : X.mg x = some u) (h : Q u s)
    (hd : (x == ("__debug__" : Str)) = false := by decide) : wpAny (model X.prog X.w) X.A (eval (.Name x pos) X.env) Q E s :=
  Calls.Name_function_global I.ok.kind hg (Calls.loadGlobal_global (by rw [I.ok.glob]; exact I.mod.glob.keeps I.bk) hm h) hd
theorem ld_blt {E : Value → Shared → Prop} {pins : List (Addr × Obj)} {s : Shared} {σ : St} {H : Hp} {x : Str} {u : Value} {pos : Pos} {Q : Value → Shared → Prop} (I : Inv X pins σ H s) (hg : Gl X x) (hm : X.mg x = none) (hv : bootBuiltins x = some u) (h : Q u s)
    (hn : x ≠ "__name__" := by decide) (hd : (x == ("__debug__" : Str)) = false := by decide) : wpAny (model X.prog X.w) X.A (eval (.Name x pos) X.env) Q E s := by
  obtain ⟨mb, h1, h2⟩ := I.mod.blt
  exact Calls.Name_function_global I.ok.kind hg (Calls.loadGlobal_builtin (by rw [I.ok.glob]; exact I.mod.glob.keeps I.bk) hm (by rw [I.ok.blt]; exact h1.keeps I.bk) ((h2 x hn).trans hv) h) hd
/-- a module's constant, a class, a function, as a value -/
theorem pe_glob {x : Str} {v : V} {u : Value} {pos : Pos} (hg : Gl X x) (hm : X.mg x = some u) (r : RelV v u) (hd : (x == ("__debug__" : Str)) = false := by decide) : PE X (.Name x pos) (tC v) :=
  fun _ _ _ H _ I h => ld_glob I hg hm ⟨v, H, I, r, h⟩ hd
theorem pe_bltn {x : Str} {v : V} {u : Value} {pos : Pos} (hg : Gl X x) (hm : X.mg x = none) (hv : bootBuiltins x = some u) (r : RelV v u) (hn : x ≠ "__name__" := by decide) (hd : (x == ("__debug__" : Str)) = false := by decide) : PE X (.Name x pos) (tC v) :=
  fun _ _ _ H _ I h => ld_blt I hg hm hv ⟨v, H, I, r, h⟩ hn hd

variable {a b : Expr} {ta tb : TE} {pos : Pos}
/-- a comparison as a value, as a test -/
def tB (t : TE) : TT := fun σ H Q => t σ H fun x H1 => ∃ c, x = .bl c ∧ Q c H1
/-- an expression whose value is a bool, as a test -/
theorem pt_val {e : Expr} {t : TE} (h : PE X e t) (he : ∀ whole, isTrue e X.env whole = (do let v ← whole; standAt e.pos; holding [v] (truthy v)) := by intro _; rfl) : PT X e (tB t) := by
  intro pins s σ H Q I hw
  refine isTrue_plain (thn (h pins s σ H _ I hw) fun v s1 ⟨x, H1, I1, r1, q1⟩ => ?_) (he _)
  obtain ⟨d, rfl, q⟩ := q1
  cases r1
  exact wpAny_truthy_bool ⟨H1, I1, q⟩

variable {tA tB' : TT} {rest : List Expr}
def tAnd (t u : TT) : TT := fun σ H Q => t σ H fun c H1 => if c = true then u σ H1 Q else Q false H1
def tOr (t u : TT) : TT := fun σ H Q => t σ H fun c H1 => if c = true then Q true H1 else u σ H1 Q
def tNot (t : TT) : TT := fun σ H Q => t σ H fun c H1 => Q (!c) H1
theorem pw_and1 (ha : PT X a tA) : PW X (.BoolOp .And [a] pos) tA := by
  intro wh pins s σ H Q I h
  refine isTrue_and (thn (ha pins s σ H Q I h) fun c s1 e => ?_)
  cases c with
  | true => exact isTrue_and_nil e
  | false => exact e
theorem pw_or1 (ha : PT X a tA) : PW X (.BoolOp .Or [a] pos) tA := by
  intro wh pins s σ H Q I h
  refine isTrue_or (thn (ha pins s σ H Q I h) fun c s1 e => ?_)
  cases c with
  | false => exact isTrue_or_nil e
  | true => exact e
theorem pw_and (ha : PT X a tA) (hb : PW X (.BoolOp .And (b :: rest) pos) tB') : PW X (.BoolOp .And (a :: b :: rest) pos) (tAnd tA tB') := by
  intro wh pins s σ H Q I h
  refine isTrue_and (thn (ha pins s σ H _ I h) fun c s1 ⟨H1, I1, q1⟩ => ?_)
  cases c with
  | true => exact hb wh pins s1 σ H1 Q I1 q1
  | false => exact ⟨H1, I1, q1⟩
theorem pw_or (ha : PT X a tA) (hb : PW X (.BoolOp .Or (b :: rest) pos) tB') : PW X (.BoolOp .Or (a :: b :: rest) pos) (tOr tA tB') := by
  intro wh pins s σ H Q I h
  refine isTrue_or (thn (ha pins s σ H _ I h) fun c s1 ⟨H1, I1, q1⟩ => ?_)
  cases c with
  | true => exact ⟨H1, I1, q1⟩
  | false => exact hb wh pins s1 σ H1 Q I1 q1
theorem pt_not (ha : PT X a tA) : PT X (.UnaryOp .Not a pos) (tNot tA) := by
  intro pins s σ H Q I h
  exact isTrue_not (ha pins s σ H (fun c H1 => Q (!c) H1) I h)
/-- .. as values (bools) -/
def tAndV (ta tb : TE) : TE := fun σ H Q => ta σ H fun x H1 => ∃ c, x = .bl c ∧ if c = true then tb σ H1 Q else Q (.bl false) H1
def tNotV (ta : TE) : TE := fun σ H Q => ta σ H fun x H1 => ∃ c, x = .bl c ∧ Q (.bl (!c)) H1
theorem pe_one {op} {t : TE} (h : PE X a t) : PE X (.BoolOp op [a] pos) t := fun pins s σ H Q I hw => BoolOp_one (h pins s σ H Q I hw)
theorem pe_and (ha : PE X a ta) (hb : PE X (.BoolOp .And (b :: rest) pos) tb) : PE X (.BoolOp .And (a :: b :: rest) pos) (tAndV ta tb) := by
  intro pins s σ H Q I h
  refine BoolOp_and (thn (ha pins s σ H _ I h) fun v s1 ⟨x, H1, I1, r1, q1⟩ => ?_)
  obtain ⟨c, rfl, q1⟩ := q1
  cases r1
  refine wpAny_truthy_bool ?_
  cases c with
  | true => exact hb pins s1 σ H1 Q I1 q1
  | false => exact ⟨.bl false, H1, I1, rfl, q1⟩
theorem pe_not (ha : PE X a ta) : PE X (.UnaryOp .Not a pos) (tNotV ta) := by
  intro pins s σ H Q I h
  refine UnaryOp_ (thn (ha pins s σ H _ I h) fun v s1 ⟨x, H1, I1, r1, q1⟩ => ?_)
  obtain ⟨c, rfl, q1⟩ := q1
  cases r1
  exact not_of (wpAny_truthy_bool ⟨.bl (!c), H1, I1, rfl, q1⟩)
/-- a if t else b -/
def tIf (t : TT) (ta tb : TE) : TE := fun σ H Q => t σ H fun c H1 => if c = true then ta σ H1 Q else tb σ H1 Q
theorem pe_ifExp {c : Expr} (hc : PT X c tA) (ha : PE X a ta) (hb : PE X b tb) : PE X (.IfExp c a b pos) (tIf tA ta tb) := by
  intro pins s σ H Q I h
  refine wpAny_IfExp (thn (hc pins s σ H _ I h) fun d s1 ⟨H1, I1, q1⟩ => ?_)
  cases d with
  | true => exact ha pins s1 σ H1 Q I1 q1
  | false => exact hb pins s1 σ H1 Q I1 q1
end
end L2

namespace L2
open PySem PySem.Spec PyProof.Rows

def SqL (K : PySem.W.Frag) (H : Hp) (a : Addr) (xs : List V) : Prop :=
  Rd H a (.lst xs) ∨
    ∃ (o : Obj) (its : Array Value) (n : Nat), K.lookup a = some o ∧ o.cls = .type "list" ∧ o.dict = none ∧ o.data = .seq its n ∧ its.size ≤ sizeLine ∧ Vals xs its.toList
def SqT (K : PySem.W.Frag) (H : Hp) (a : Addr) (xs : List V) : Prop :=
  Rd H a (.tup xs) ∨
    ∃ (o : Obj) (its : Array Value) (n : Nat), K.lookup a = some o ∧ o.cls = .type "tuple" ∧ o.data = .seq its n ∧ its.size ≤ sizeLine ∧ Vals xs its.toList
def absV : Value → Option V
  | .none => some .non
  | .bool b => some (.bl b)
  | .int i _ => some (.int i)
  | .str x _ => some (.str x)
  | .bytes b _ => some (.byt b)
  | .float b _ => some (.flt b)
  | .ref a => some (.ref a)
  | .type n => some (.ty n)
  | _ => none
theorem RelV.abs {x : V} {u : Value} (r : RelV x u) : absV u = some x := by
  cases x with
  | non => cases r; rfl
  | bl _ => cases r; rfl
  | int _ => obtain ⟨t, rfl⟩ := r; rfl
  | str _ => obtain ⟨t, rfl⟩ := r; rfl
  | byt _ => obtain ⟨t, rfl⟩ := r; rfl
  | flt _ => obtain ⟨t, rfl⟩ := r; rfl
  | ref _ => cases r; rfl
  | ty _ => cases r; rfl
theorem RelV.inj {x y : V} {u : Value} (r : RelV x u) (q : RelV y u) : x = y := Option.some.inj (r.abs.symm.trans q.abs)
theorem Vals.inj : ∀ {xs ys : List V} {us : List Value}, Vals xs us → Vals ys us → xs = ys
  | _, _, _, .nil, .nil => rfl
  | _, _, _, .cons r t, .cons r' t' => by rw [r.inj r', Vals.inj t t']
section
variable {X : Cx} {pins : List (Addr × Obj)} {σ : St} {H : Hp} {s : Shared} {a : Addr} {xs ys : List V}
theorem SqL.of {K : PySem.W.Frag} (h : H a = some (.lst xs)) : SqL K H a xs := .inl (.inl h)
theorem SqT.of {K : PySem.W.Frag} (h : H a = some (.tup xs)) : SqT K H a xs := .inl (.inl h)
theorem Inv.list (I : Inv X pins σ H s) (h : SqL X.K H a xs) : ∃ its : List Value, Vals xs its ∧ PlainL s.heap a its.toArray ∧ xs.length ≤ sizeLine := by
  rcases h with h | ⟨o, its, n, hk, hc, hd, hs, hz, r⟩
  · obtain ⟨z, its, n, r, e⟩ := h.ok I.hok
    exact ⟨its, r, ⟨_, n, e, rfl, rfl, rfl⟩, z⟩
  · refine ⟨its.toList, r, ⟨o, n, I.kIn a o hk, hc, hd, by simpa using hs⟩, ?_⟩
    have e := r.length
    simp only [Array.length_toList] at e
    walk_at "om"
theorem Inv.tuple (I : Inv X pins σ H s) (h : SqT X.K H a xs) : ∃ its : List Value, Vals xs its ∧ IsTup s.heap a its.toArray ∧ xs.length ≤ sizeLine := by
  rcases h with h | ⟨o, its, n, hk, hc, hs, hz, r⟩
  · obtain ⟨z, its, r, p⟩ := h.ok I.hok
    exact ⟨its, r, p, z⟩
  · refine ⟨its.toList, r, ⟨o, I.kIn a o hk, hc, n, by simpa using hs⟩, ?_⟩
    have e := r.length
    simp only [Array.length_toList] at e
    walk_at "om"
theorem Inv.list_inj (I : Inv X pins σ H s) (h : SqL X.K H a xs) (h' : SqL X.K H a ys) : xs = ys := by
  obtain ⟨its, r, ⟨o, n, e, _, _, d⟩, _⟩ := I.list h
  obtain ⟨its', r', ⟨o', n', e', _, _, d'⟩, _⟩ := I.list h'
  rw [e] at e'; cases e'
  rw [d] at d'
  injection d' with d1 _
  have : its = its' := by simpa using congrArg Array.toList d1
  subst this
  exact r.inj r'
theorem Inv.tuple_inj (I : Inv X pins σ H s) (h : SqT X.K H a xs) (h' : SqT X.K H a ys) : xs = ys := by
  obtain ⟨its, r, ⟨o, e, _, n, d⟩, _⟩ := I.tuple h
  obtain ⟨its', r', ⟨o', e', _, n', d'⟩, _⟩ := I.tuple h'
  rw [e] at e'; cases e'
  rw [d] at d'
  injection d' with d1 _
  have : its = its' := by simpa using congrArg Array.toList d1
  subst this
  exact r.inj r'
end

abbrev Cx.wish (X : Cx) (E : Value → Shared → Prop) : Cx := { X with xe := E }
/-- no exception leaves -/
abbrev Cx.nox (X : Cx) : Cx := X.wish fun _ _ => False
theorem Cx.Ok.wish {X : Cx} (ok : X.Ok) (E : Value → Shared → Prop) : (X.wish E).Ok :=
  ⟨ok.mod, ok.kind, ok.glob, ok.blt, ok.above, ok.inj, ok.has, ok.cab, ok.hd, ok.frames, ok.stk, ok.exf, ok.bs, ok.bsz, ok.noex, ok.exfs, ok.funs, ok.frf⟩
theorem Cx.Ok.unwish {X : Cx} {E : Value → Shared → Prop} (ok : (X.wish E).Ok) : X.Ok :=
  ⟨ok.mod, ok.kind, ok.glob, ok.blt, ok.above, ok.inj, ok.has, ok.cab, ok.hd, ok.frames, ok.stk, ok.exf, ok.bs, ok.bsz, ok.noex, ok.exfs, ok.funs, ok.frf⟩
section
variable {X : Cx} {pins : List (Addr × Obj)} {σ : St} {H : Hp} {s : Shared} {E : Value → Shared → Prop}
theorem Inv.wish (I : Inv X pins σ H s) (E : Value → Shared → Prop) : Inv (X.wish E) pins σ H s := ⟨I.ok.wish E, I.os, I.bare, I.base, I.loc, I.cell, I.free, I.freeC, I.pin, I.hok, I.len⟩
theorem Inv.unwish (I : Inv (X.wish E) pins σ H s) : Inv X pins σ H s := ⟨I.ok.unwish, I.os, I.bare, I.base, I.loc, I.cell, I.free, I.freeC, I.pin, I.hok, I.len⟩
theorem SP.unwish {D : Ends} {f : Flow} {s' : Shared} (h : SP (X.wish E) pins D f s') : SP X pins D f s' := by
  cases f with
  | next => obtain ⟨σ', H', I, q⟩ := h; exact ⟨σ', H', I.unwish, q⟩
  | brk => obtain ⟨σ', H', I, q⟩ := h; exact ⟨σ', H', I.unwish, q⟩
  | cont => obtain ⟨σ', H', I, q⟩ := h; exact ⟨σ', H', I.unwish, q⟩
  | ret u => obtain ⟨v, σ', H', I, r, q⟩ := h; exact ⟨v, σ', H', I.unwish, r, q⟩
theorem PSs.nox {st : List Stmt} {t : TS} (h : PSs X.nox st t) : PSs X st t := fun pins s σ H D I hw =>
  wpAny_mono (h pins s σ H D (I.wish _) hw) (fun _ _ q => q.unwish) fun _ _ z => False.elim z
end

section
variable {X : Cx} {st : Stmt} {rest : List Stmt} {t u : TS} {e : Expr} {te : TE} {pos : Pos}
def tNext : TS := fun D σ H => D.nx σ H
def tSeq (t u : TS) : TS := fun D σ H => t { D with nx := u D } σ H
theorem pss_nil : PSs X [] tNext := fun _ _ σ H _ I h => wpAny_execs_nil ⟨σ, H, I, h⟩
theorem pss_cons (h1 : PS X st t) (h2 : PSs X rest u) : PSs X (st :: rest) (tSeq t u) := by
  intro pins s σ H D I h
  refine wpAny_execs_cons (thn (h1 pins s σ H { D with nx := u D } I h) fun f s1 q => ?_)
  cases f with
  | next =>
    obtain ⟨σ', H', I', q⟩ := q
    exact h2 pins s1 σ' H' D I' q
  | ret v => exact q
  | brk => exact q
  | cont => exact q
theorem pss_one (h1 : PS X st t) : PSs X [st] t := by
  intro pins s σ H D I h
  refine wpAny_execs_cons (thn (h1 pins s σ H D I h) fun f s1 q => ?_)
  cases f with
  | next => exact wpAny_execs_nil q
  | ret v => exact q
  | brk => exact q
  | cont => exact q
/-- in a def's body nothing is shown -/
theorem Inv.quiet {pins : List (Addr × Obj)} {σ : St} {H : Hp} {s : Shared} (I : Inv X pins σ H s) : interactive X.env = false := by simp [interactive, I.ok.kind]
/-- an expression whose value is dropped -/
def tDrop (te : TE) : TS := fun D σ H => te σ H fun _ H1 => D.nx σ H1
theorem ps_expr (he : PE X e te) (hs : swapsWith e none pos.line X.env = pure false := by rfl) : PS X (.Expr e pos) (tDrop te) := by
  intro pins s σ H D I h
  exact wpAny_Expr_any (thn (he pins s σ H _ I h) fun v s1 ⟨x, H1, I1, r1, q1⟩ => ⟨σ, H1, I1, q1⟩) I.quiet hs
def tRet (te : TE) : TS := fun D σ H => te σ H D.rt
theorem ps_ret (he : PE X e te) : PS X (.Return (some e) pos) (tRet te) := by
  intro pins s σ H D I h
  exact wpAny_Return_some (thn (he pins s σ H _ I h) fun v s1 ⟨x, H1, I1, r1, q1⟩ => ⟨x, σ, H1, I1, r1, q1⟩)
def tIfS (c : TT) (t u : TS) : TS := fun D σ H => c σ H fun b H1 => if b = true then t D σ H1 else u D σ H1
theorem ps_if {c : Expr} {a b : List Stmt} {tc : TT} (hc : PT X c tc) (ha : PSs X a t) (hb : PSs X b u) : PS X (.If c a b pos) (tIfS tc t u) := by
  intro pins s σ H D I h
  refine wpAny_If (thn (hc pins s σ H _ I h) fun d s1 ⟨H1, I1, q1⟩ => ?_)
  cases d with
  | true => exact ha pins s1 σ H1 D I1 q1
  | false => exact hb pins s1 σ H1 D I1 q1
/-- code that the proof never comes to -/
def tNever : TS := fun _ _ _ => False
theorem pss_never {sts : List Stmt} : PSs X sts tNever := fun _ _ _ _ _ _ h => h.elim
end

abbrev TG := V → St → Hp → (St → Hp → Prop) → Prop
abbrev TGs := List V → St → Hp → (St → Hp → Prop) → Prop
def PG (X : Cx) (target : Expr) (t : TG) : Prop :=
  ∀ (pins : List (Addr × Obj)) (s : Shared) (σ : St) (H : Hp) (v : V) (u : Value) (Q : St → Hp → Prop), Inv X pins σ H s → RelV v u → t v σ H Q →
    wpAny (model X.prog X.w) X.A (assign target X.env u) (fun _ s' => ∃ σ' H', Inv X pins σ' H' s' ∧ Q σ' H') X.xe s
/-- several targets, one after another -/
def PGs (X : Cx) (ts : List Expr) (t : TGs) : Prop :=
  ∀ (pins : List (Addr × Obj)) (s : Shared) (σ : St) (H : Hp) (vs : List V) (us : List Value) (Q : St → Hp → Prop), Inv X pins σ H s → Vals vs us → t vs σ H Q →
    wpAny (model X.prog X.w) X.A (assignInOrder ((assignEach ts X.env).map (·.2)) us) (fun _ s' => ∃ σ' H', Inv X pins σ' H' s' ∧ Q σ' H') X.xe s
section
variable {X : Cx} {pos : Pos}
def gName (i : Nat) : TG := fun v σ H Q => Q (σ.set i (some v)) H
theorem pg_name {i : Nat} {x : Str} (hN : X.N.Nodup) (hi : X.N[i]? = some x) (hx : Loc X.env.scope x) (hf : X.fn x = true ∨ X.env.scope.names.lookup x = some .local := by first | exact .inl rfl | exact .inr rfl | assumption) : PG X (.Name x pos) (gName i) := by
  intro pins s σ H v u Q I r h
  exact wpAny_assign_Name (store_ok I hN hi hx r (fun s' I' => ⟨_, H, I', h⟩) hf)
def gNil : TGs := fun vs σ H Q => vs = [] ∧ Q σ H
def gCons (t : TG) (u : TGs) : TGs := fun vs σ H Q => ∃ v r, vs = v :: r ∧ t v σ H fun σ' H' => u r σ' H' Q
theorem pgs_nil : PGs X [] gNil := by
  intro pins s σ H vs us Q I r h
  obtain ⟨e, h⟩ := h
  subst e
  cases r
  exact assignInOrder_nil ⟨σ, H, I, h⟩
theorem pgs_cons {e : Expr} {es : List Expr} {t : TG} {u : TGs} (h1 : PG X e t) (h2 : PGs X es u)
    (hs : (assignEach (e :: es) X.env).map (·.2) = assign e X.env :: (assignEach es X.env).map (·.2) := by rfl) : PGs X (e :: es) (gCons t u) := by
  intro pins s σ H vs us Q I r h
  obtain ⟨v, vr, e1, h⟩ := h
  subst e1
  cases r with
  | cons r rr =>
    rw [hs]
    refine assignInOrder_cons (thn (h1 pins s σ H _ _ _ I r h) fun _ s1 ⟨σ1, H1, I1, q1⟩ => ?_)
    exact h2 pins s1 σ1 H1 _ _ Q I1 rr q1
/-- (a, b, ..) = a tuple of that length -/
def gTup (K : PySem.W.Frag) (n : Nat) (t : TGs) : TG := fun v σ H Q => ∃ a xs, v = .ref a ∧ SqT K H a xs ∧ xs.length = n ∧ t xs σ H Q
theorem pg_tup {es : List Expr} {k : Nat} {t : TGs} {n : Nat} (hc : X.calm = true) (h : PGs X es t)
    (hn : (assignEach es X.env).length = n := by rfl) (hst : (assignEach es X.env).findIdx? (·.1) = none := by rfl) : PG X (.Tuple es k pos) (gTup X.K n t) := by
  intro pins s σ H v u Q I r hw
  obtain ⟨a, xs, e1, hq, hl, hw⟩ := hw
  subst e1
  cases r
  obtain ⟨its, rv, ht, hz⟩ := I.tuple hq
  refine assign_Tuple_tuple (I.ok.hd hc) ht (by simp [hn, ← hl, rv.length]) hst fun h' hx => ?_
  have I1 : Inv X pins σ H { s with heap := h' } := I.kept (t' := s.toks) fun b o e => hx b o (Nat.ne_of_lt (Heap.lt_size e)) e
  exact h pins _ σ H xs _ Q I1 (by simpa using rv) hw
/-- target = value -/
def tAsg (te : TE) (g : TG) : TS := fun D σ H => te σ H fun x H1 => g x σ H1 D.nx
theorem ps_asg {tg e : Expr} {te : TE} {g : TG} (he : PE X e te) (hg : PG X tg g) (hs : swapsWithSole [tg] e pos.line X.env = pure false := by rfl) (hw : swappedStores [tg] e X.env = pure none := by rfl)
    (h1 : (assignEach [tg] X.env).map (·.2) = [assign tg X.env] := by rfl) : PS X (.Assign [tg] e pos) (tAsg te g) := by
  intro pins s σ H D I h
  refine wpAny_Assign_stores (thn (he pins s σ H _ I h) fun v s1 ⟨x, H1, I1, r1, q1⟩ => ?_) hs hw
  rw [h1]
  exact thn (hg pins s1 σ H1 x v _ I1 r1 q1) fun _ s2 q => q
/-- name = value -/
theorem ps_set {i : Nat} {x : Str} {e : Expr} {te : TE} {pos' : Pos} (hN : X.N.Nodup) (hi : X.N[i]? = some x) (hx : Loc X.env.scope x) (he : PE X e te) (hs : swapsWith e (some (.Name x pos')) pos.line X.env = pure false := by rfl) (hf : X.fn x = true ∨ X.env.scope.names.lookup x = some .local := by first | exact .inl rfl | exact .inr rfl | assumption) :
    PS X (.Assign [.Name x pos'] e pos) (tAsg te (gName i)) := by
  intro pins s σ H D I h
  refine wpAny_Assign_Name (thn (he pins s σ H _ I h) fun v s1 ⟨y, H1, I1, r1, q1⟩ => ?_) hs
  exact store_ok I1 hN hi hx r1 (fun s2 I2 => ⟨_, H1, I2, q1⟩) hf
/-- a, b = x, y with plain local names: stored from the right; the pair itself is not tracked (the opening rows as in PyProof/Rows/TupAssign.lean:23) -/
def tPar (i j : Nat) (ta : TA) : TS := fun D σ H => ta σ H fun vs H1 => ∃ v w, vs = [v, w] ∧ D.nx ((σ.set i (some v)).set j (some w)) H1
theorem ps_par {i j : Nat} {x y : Str} {a b : Expr} {ta : TA} {px py pt : Pos} {kt k2 pt2} (hc : X.calm = true) (hN : X.N.Nodup) (hi : X.N[i]? = some x) (hj : X.N[j]? = some y) (hij : i ≠ j)
    (hx : X.env.scope.names.lookup x = some .local) (hy : X.env.scope.names.lookup y = some .local) (ha : PA X [a, b] ta)
    (hw : swappedStores [.Tuple [.Name x px, .Name y py] kt pt] (.Tuple [a, b] k2 pt2) X.env = pure (some [x, y]))
    (hs : swapsWithSole [.Tuple [.Name x px, .Name y py] kt pt] (.Tuple [a, b] k2 pt2) pos.line X.env = pure false := by rfl) :
    PS X (.Assign [.Tuple [.Name x px, .Name y py] kt pt] (.Tuple [a, b] k2 pt2) pos) (tPar i j ta) := by
  intro pins s σ H D I h
  rw [exec_Assign_arm]
  refine wpAny_bind (wpAny_standAt ?_)
  rw [hs]
  refine wpAny_bind (wpAny_pure ?_)
  rw [if_neg (by decide)]
  refine wpAny_bind (Tuple_ (thn (ha _ pins s σ H _ I h) fun us s1 ⟨vs, H1, I1, r1, q1⟩ => ?_))
  obtain ⟨v, w, e1, q1⟩ := q1
  subst e1
  obtain ⟨u1, u2, rfl, rv, rw'⟩ : ∃ u1 u2, us = [u1, u2] ∧ RelV v u1 ∧ RelV w u2 := by
    cases r1 with
    | cons p q =>
      cases q with
      | cons p' q' =>
        cases q'
        exact ⟨_, _, rfl, p, p'⟩
  refine wpAny_newObj_type ?_ (by show 2 ≤ sizeLine; decide)
  have I2 : Inv X pins σ H1 { s1 with heap := s1.heap.push { cls := .type "tuple", data := .seq [u1, u2].toArray } } := I1.kept (t' := s1.toks) fun b o e => Heap.get?_push_of_some _ e
  rw [hw]
  refine wpAny_bind (wpAny_pure ?_)
  show wpAny (model X.prog X.w) X.A (do rule "assign.swapped-stores"; let items ← unpackItems (.ref s1.heap.objs.size) 2 none; assignInOrder [fun v => bindName X.env y v, fun v => bindName X.env x v] items.reverse; pure Flow.next) _ _ _
  refine wpAny_bind (wpAny_rule (wpAny_bind (unpackItems_tuple (items := #[u1, u2]) (I.ok.hd hc) (IsTup.new s1.heap _) fun h' hx' => ?_)))
  have I3 := I2.kept (h' := h') (t' := s1.toks) fun b o e => hx' b o (Nat.ne_of_lt (Heap.lt_size e)) e
  show wpAny _ _ (assignInOrder [fun v => bindName X.env y v, fun v => bindName X.env x v] [u2, u1] >>= fun _ => pure Flow.next) _ _ _
  refine wpAny_bind (assignInOrder_cons (wpAny_bindName (store_ok I3 hN hj (.inl hy) rw' (fun s2 I4 => ?_) (.inr hy))))
  refine assignInOrder_cons (wpAny_bindName (store_ok I4 hN hi (.inl hx) rv (fun s3 I5 => assignInOrder_nil (wpAny_pure ?_)) (.inr hx)))
  rw [List.set_comm _ _ (Ne.symm hij)] at I5
  exact ⟨_, H1, I5, q1⟩
end

section
variable {X : Cx} {pos : Pos}
/-- the invariant W with its measure -/
def tWhile (c : TT) (tb : TS) : TS := fun D σ H => ∃ W : Nat → St → Hp → Prop, (∃ m, W m σ H) ∧ ∀ m σ H, W m σ H →
  c σ H fun b H1 => if b = true then ∃ N : St → Hp → Prop, (∀ σ' H', N σ' H' → ∃ m', m' < m ∧ W m' σ' H') ∧ tb { D with nx := N, ct := N, bk := D.nx } σ H1 else D.nx σ H1
theorem ps_while {c : Expr} {body : List Stmt} {tc : TT} {tb : TS} (hp : PassesOwn (model X.prog X.w) X.A X.env X.xe) (hc : PT X c tc) (hb : PSs X body tb) : PS X (.While c body [] pos) (tWhile tc tb) := by
  intro pins s σ H D I h
  obtain ⟨W, ⟨m0, w0⟩, turn⟩ := h
  refine wpAny_While (codeAny_whileLoop (fun n s' => ∃ σ' H', Inv X pins σ' H' s' ∧ W n σ' H') ?_ m0 ⟨σ, H, I, w0⟩)
  rintro n s1 ⟨σ1, H1, I1, w1⟩
  refine wpAny_passesOwn hp (thn (hc pins s1 σ1 H1 _ I1 (turn n σ1 H1 w1)) fun b s2 ⟨H2, I2, q2⟩ => ?_)
  cases b with
  | true =>
    obtain ⟨N, hN, q2⟩ := q2
    rw [if_pos rfl]
    refine wpAny_passesOwn hp (thn (hb pins s2 σ1 H2 _ I2 q2) fun f s3 q3 => ?_)
    cases f with
    | next =>
      obtain ⟨σ3, H3, I3, n3⟩ := q3
      obtain ⟨m', hm, w3⟩ := hN σ3 H3 n3
      exact ⟨m', hm, σ3, H3, I3, w3⟩
    | cont =>
      obtain ⟨σ3, H3, I3, n3⟩ := q3
      obtain ⟨m', hm, w3⟩ := hN σ3 H3 n3
      exact ⟨m', hm, σ3, H3, I3, w3⟩
    | brk => exact q3
    | ret v => exact q3
  | false =>
    rw [if_neg Bool.false_ne_true]
    exact wpAny_execs_nil ⟨σ1, H2, I2, q2⟩
end

/-- at turn i: it yields x (the heap may grow), or it stops -/
structure It where
  go : Nat → Hp → Prop
  yld : Nat → Hp → V → Hp → Prop
  stop : Nat → Hp → Prop
/-- the iterator's own objects may turn: they are not the frame's, not pinned, younger than the entry (or a comprehension's own) -/
def FpOk (X : Cx) (pins : List (Addr × Obj)) (H : Hp) (b : Addr) : Prop :=
  H b = none ∧ b ≠ X.env.locals ∧ b ∉ X.fs ∧ (b ∈ X.ex ∨ X.s₀.heap.objs.size ≤ b) ∧ (∀ x c, X.env.cells.lookup x = some c → c ≠ b) ∧ ∀ p ∈ X.pn ++ pins, p.1 ≠ b
theorem Inv.fpOk {X : Cx} {pins : List (Addr × Obj)} {σ : St} {H H' : Hp} {s : Shared} {b : Addr} (I : Inv X pins σ H s) (hb : s.heap.objs.size ≤ b) (hn : H' b = none) : FpOk X pins H' b := by
  refine ⟨hn, Nat.ne_of_gt (Nat.lt_of_lt_of_le I.lt hb), I.nofs hb, .inr (Nat.le_trans I.sz hb), fun x c e z => ?_, fun p hp z => ?_⟩
  · obtain ⟨v, q⟩ := I.cell x c e
    exact absurd (Nat.lt_of_lt_of_le q.lt (by rw [z]; exact hb)) (Nat.lt_irrefl _)
  · exact absurd (Nat.lt_of_lt_of_le (Heap.lt_size (I.pin p hp).1) (by rw [z]; exact hb)) (Nat.lt_irrefl _)
structure Turn (P : Program) (w : World) (K : PySem.W.Frag) (tg : Expr) (J : It) (fp : List Addr) (it : Addr) (tn : Nat → Heap → Prop) : Prop where
  mem : it ∈ fp
  obj : ∀ i h, tn i h → ∀ b ∈ fp, ∃ o, h.get? b = some o ∧ ∀ v, o.data ≠ .cell v
  keep : ∀ i h h', tn i h → (∀ b ∈ fp, ∀ o, h.get? b = some o → h'.get? b = some o) → tn i h'
  item : ∀ (X : Cx), X.prog = P → X.w = w → X.K = K → X.calm = true → ∀ (i : Nat) (pins : List (Addr × Obj)) (s : Shared) (σ : St) (H : Hp) (E : Value → Shared → Prop), Inv X pins σ H s → (∀ b ∈ fp, FpOk X pins H b) → tn i s.heap → J.go i H →
    wpAny (model P w) X.A (pyNext (.ref it)) (fun r s1 => ∃ u, r = some u ∧
      wpAny (model P w) X.A (letOwnedTupleGo tg (.ref it) u) (fun _ s2 => ∃ x H', Inv X pins σ H' s2 ∧ RelV x u ∧ J.yld i H x H' ∧ tn (i + 1) s2.heap ∧ ∀ b ∈ fp, H' b = none) E s1) E s
  done : ∀ (X : Cx), X.prog = P → X.w = w → X.K = K → X.calm = true → ∀ (i : Nat) (pins : List (Addr × Obj)) (s : Shared) (σ : St) (H : Hp) (E : Value → Shared → Prop), Inv X pins σ H s → (∀ b ∈ fp, FpOk X pins H b) → tn i s.heap → J.stop i H →
    wpAny (model P w) X.A (pyNext (.ref it)) (fun r s1 => r = none ∧ Inv X pins σ H s1) E s
  self : ∀ (A : Around) (i : Nat) (s : Shared) (Q : Value → Shared → Prop) (E : Value → Shared → Prop), tn i s.heap → Q (.ref it) s → wpAny (model P w) A (pyIter (.ref it)) Q E s
abbrev TI := St → Hp → (It → Hp → Prop) → Prop
/-- an iterator has come -/
def PIE (X : Cx) (pins : List (Addr × Obj)) (σ : St) (tg : Expr) (R : It → Hp → Prop) (itv : Value) (s2 : Shared) : Prop :=
  ∃ (it : Addr) (fp : List Addr) (tn : Nat → Heap → Prop) (J : It) (H' : Hp), itv = .ref it ∧ Inv X pins σ H' s2 ∧ Turn X.prog X.w X.K tg J fp it tn ∧ tn 0 s2.heap ∧ (∀ b ∈ fp, FpOk X pins H' b) ∧ R J H'
def PI (X : Cx) (tg iter : Expr) (wi : TI) : Prop :=
  ∀ (pins : List (Addr × Obj)) (s : Shared) (σ : St) (H : Hp) (R : It → Hp → Prop), Inv X pins σ H s → wi σ H R →
    wpAny (model X.prog X.w) X.A (eval iter X.env) (fun v s1 => wpAny (model X.prog X.w) X.A (pyIter v) (PIE X pins σ tg R) X.xe s1) X.xe s

/-- the step ahead of the store is nothing for an iterator that keeps no tuple -/
theorem go_of {M : Model} {A : Around} {E : Value → Shared → Prop} {s : Shared} {tg : Expr} {it : Addr} {u : Value} {o : Obj} {n : String} {vs : Array Value} {Q : Unit → Shared → Prop} (ho : s.heap.get? it = some o) (hc : o.cls = .type n) (hd : o.data = .fields vs)
    (hn : ["enumerate", "zip", "dict_itemiterator", "dict_reverseitemiterator", "odict_iterator", "itertools.zip_longest", "itertools.pairwise"].contains n = false) (hQ : Q () s) : wpAny M A (letOwnedTupleGo tg (.ref it) u) Q E s := by
  unfold letOwnedTupleGo
  cases tg <;> first
    | exact wpAny_pure hQ
    | (cases u <;> first
        | exact wpAny_pure hQ
        | (refine wpAny_bind (wpAny_load ho ?_)
           rw [hc, hd]
           show wpAny M A (if (["enumerate", "zip", "dict_itemiterator", "dict_reverseitemiterator", "odict_iterator", "itertools.zip_longest", "itertools.pairwise"].contains n && vs[0]? == some (rawInt _)) = true then _ else _) Q E s
           rw [if_neg (by intro h; rw [hn, Bool.false_and] at h; cases h)]
           exact wpAny_pure hQ))

/-- the list at a, as it stands at each turn (a loop may append to it) -/
def Itl (K : PySem.W.Frag) (a : Addr) : It :=
  ⟨fun i H => ∃ xs x, SqL K H a xs ∧ xs[i]? = some x, fun i H x H' => H' = H ∧ ∀ xs, SqL K H a xs → xs[i]? = some x, fun i H => ∃ xs, SqL K H a xs ∧ xs.length ≤ i⟩
def Itt (K : PySem.W.Frag) (a : Addr) : It :=
  ⟨fun i H => ∃ xs x, SqT K H a xs ∧ xs[i]? = some x, fun i H x H' => H' = H ∧ ∀ xs, SqT K H a xs → xs[i]? = some x, fun i H => ∃ xs, SqT K H a xs ∧ xs.length ≤ i⟩
/-- lo, lo + 1, .. (n of them) -/
def Itr (lo : Int) (n : Nat) : It := ⟨fun i _ => i < n, fun i H x H' => H' = H ∧ x = .int (lo + i), fun i _ => n ≤ i⟩
theorem turn_list {P : Program} {w : World} {K : PySem.W.Frag} {tg : Expr} (a it : Addr) : Turn P w K tg (Itl K a) [it] it (fun i h => h.IsListIter it a i) where
  mem := by simp
  obj := fun i h st b hb => by
    have e : b = it := by simpa using hb
    subst e
    obtain ⟨o, e, c, d⟩ := st
    exact ⟨o, e, fun v z => by rw [d] at z; cases z⟩
  keep := fun i h h' st k => st.at fun o e => k it (by simp) o e
  item := by
    intro X hP hw hK hc i pins s σ H E I hf st hg
    subst hP hw hK
    obtain ⟨xs, x, hq, hx⟩ := hg
    obtain ⟨its, rv, p, hz⟩ := I.list hq
    obtain ⟨u, hu, ru⟩ := rv.get hx
    obtain ⟨f0, f1, f2, f3, f4, f5⟩ := hf it (by simp)
    refine wpAny_pyNext_list_item st p.isList (x := u) (by simpa using hu) fun h' st' sb => ?_
    have I1 : Inv X pins σ H { s with heap := h' } := I.turned (t' := s.toks) (fun b o hb e => (sb.2 b hb).trans e) f0 f1 f3 f4 f5
    obtain ⟨o, e, c, d⟩ := id st'
    exact ⟨u, rfl, go_of (s := { s with heap := h' }) e c d (by decide) ⟨x, H, I1, ru, ⟨rfl, fun ys hy => by rw [I.list_inj hy hq]; exact hx⟩, st', fun b hb => (hf b hb).1⟩⟩
  done := by
    intro X hP hw hK hc i pins s σ H E I hf st hg
    subst hP hw hK
    obtain ⟨xs, hq, hx⟩ := hg
    obtain ⟨its, rv, p, hz⟩ := I.list hq
    obtain ⟨f0, f1, f2, f3, f4, f5⟩ := hf it (by simp)
    have hl := rv.length
    exact wpAny_pyNext_list_end (I.ok.hd hc) st p.isList (by simp; walk_at "om") fun h' eb => ⟨rfl, I.turned (t' := s.toks) (fun b o hb e => eb b o hb e) f0 f1 f3 f4 f5⟩
  self := fun _ _ _ _ _ st h => wpAny_pyIter_listiter st h
theorem turn_tuple {P : Program} {w : World} {K : PySem.W.Frag} {tg : Expr} (a it : Addr) : Turn P w K tg (Itt K a) [it] it (fun i h => h.IsTupleIter it a i) where
  mem := by simp
  obj := fun i h st b hb => by
    have e : b = it := by simpa using hb
    subst e
    obtain ⟨o, e, c, d⟩ := st
    exact ⟨o, e, fun v z => by rw [d] at z; cases z⟩
  keep := fun i h h' st k => st.at fun o e => k it (by simp) o e
  item := by
    intro X hP hw hK hc i pins s σ H E I hf st hg
    subst hP hw hK
    obtain ⟨xs, x, hq, hx⟩ := hg
    obtain ⟨its, rv, p, hz⟩ := I.tuple hq
    obtain ⟨u, hu, ru⟩ := rv.get hx
    obtain ⟨f0, f1, f2, f3, f4, f5⟩ := hf it (by simp)
    refine wpAny_pyNext_tuple_item st (show s.heap.IsTuple a its.toArray from p) (x := u) (by simpa using hu) fun h' st' sb => ?_
    have I1 : Inv X pins σ H { s with heap := h' } := I.turned (t' := s.toks) (fun b o hb e => (sb.2 b hb).trans e) f0 f1 f3 f4 f5
    obtain ⟨o, e, c, d⟩ := id st'
    exact ⟨u, rfl, go_of (s := { s with heap := h' }) e c d (by decide) ⟨x, H, I1, ru, ⟨rfl, fun ys hy => by rw [I.tuple_inj hy hq]; exact hx⟩, st', fun b hb => (hf b hb).1⟩⟩
  done := by
    intro X hP hw hK hc i pins s σ H E I hf st hg
    subst hP hw hK
    obtain ⟨xs, hq, hx⟩ := hg
    obtain ⟨its, rv, p, hz⟩ := I.tuple hq
    obtain ⟨f0, f1, f2, f3, f4, f5⟩ := hf it (by simp)
    have hl := rv.length
    exact wpAny_pyNext_tuple_end (I.ok.hd hc) st (show s.heap.IsTuple a its.toArray from p) (by simp; walk_at "om") fun h' eb => ⟨rfl, I.turned (t' := s.toks) (fun b o hb e => eb b o hb e) f0 f1 f3 f4 f5⟩
  self := fun _ _ _ _ _ st h => wpAny_pyIter_tupleiter st h
theorem turn_range {P : Program} {w : World} {K : PySem.W.Frag} {tg : Expr} (it : Addr) (lo : Int) (n : Nat) : Turn P w K tg (Itr lo n) [it] it (fun i h => IsRangeIter h it (lo + (i : Nat) * 1) ((n : Int) - (i : Nat)) 1) where
  mem := by simp
  obj := fun i h st b hb => by
    have e : b = it := by simpa using hb
    subst e
    exact ⟨_, st, fun v z => by
      have z' : Data.fields _ = Data.cell v := z
      cases z'⟩
  keep := fun i h h' st k => k it (by simp) _ st
  item := by
    intro X hP hw hK hc i pins s σ H E I hf st hg
    subst hP hw hK
    obtain ⟨f0, f1, f2, f3, f4, f5⟩ := hf it (by simp)
    have W := Walks.range (prog := X.prog) (w := X.w) (I.ok.hd hc) it lo 1 n
    refine W.item i s _ _ hg st fun v h' tk hv st' kk => ?_
    obtain ⟨t, rfl⟩ := hv
    have I1 : Inv X pins σ H { s with heap := h', toks := tk } := I.turned (fun b o hb e => kk b o (by simpa using hb) e) f0 f1 f3 f4 f5
    refine ⟨_, rfl, go_of (s := { s with heap := h', toks := tk }) (n := "range_iterator") st' rfl rfl (by decide) ⟨.int (lo + i), H, I1, ⟨t, ?_⟩, ⟨rfl, rfl⟩, st', fun b hb => (hf b hb).1⟩⟩
    rw [Int.mul_one]
  done := by
    intro X hP hw hK hc i pins s σ H E I hf st hg
    subst hP hw hK
    obtain ⟨f0, f1, f2, f3, f4, f5⟩ := hf it (by simp)
    exact wpAny_pyNext_range_end (I.ok.hd hc) st (by have : n ≤ i := hg; walk_at "om") fun h' eb => ⟨rfl, I.turned (t' := s.toks) (fun b o hb e => eb b o hb e) f0 f1 f3 f4 f5⟩
  self := fun _ _ _ _ _ st h => wpAny_pyIter_rangeiter st h
end L2

namespace L2
open PySem PySem.Spec PyProof.Rows
section
variable {X : Cx} {tg : Expr}
def iList (K : PySem.W.Frag) (tl : TE) : TI := fun σ H R => tl σ H fun x H1 => ∃ a, x = .ref a ∧ (∃ xs, SqL K H1 a xs) ∧ R (Itl K a) H1
def iTup (K : PySem.W.Frag) (tl : TE) : TI := fun σ H R => tl σ H fun x H1 => ∃ a, x = .ref a ∧ (∃ xs, SqT K H1 a xs) ∧ R (Itt K a) H1
theorem pi_list {l : Expr} {tl : TE} (hl : PE X l tl) : PI X tg l (iList X.K tl) := by
  intro pins s σ H R I h
  refine thn (hl pins s σ H _ I h) fun v s1 ⟨x, H1, I1, r1, q1⟩ => ?_
  obtain ⟨a, e, ⟨xs, hq⟩, q⟩ := q1
  subst e
  cases r1
  obtain ⟨its, rv, p, hz⟩ := I1.list hq
  refine wpAny_pyIter_list p.isList ?_
  refine ⟨s1.heap.objs.size, [s1.heap.objs.size], _, _, H1, rfl, I1.kept (t' := s1.toks) fun b o e => Heap.get?_push_of_some _ e, turn_list a _, ⟨_, Heap.get?_push_size _ rfl, rfl, rfl⟩, fun b hb => ?_, q⟩
  have e : b = s1.heap.objs.size := by simpa using hb
  subst e
  exact I1.fpOk (Nat.le_refl _) (I1.hok.fresh (Nat.le_refl _))
theorem pi_tup {l : Expr} {tl : TE} (hl : PE X l tl) : PI X tg l (iTup X.K tl) := by
  intro pins s σ H R I h
  refine thn (hl pins s σ H _ I h) fun v s1 ⟨x, H1, I1, r1, q1⟩ => ?_
  obtain ⟨a, e, ⟨xs, hq⟩, q⟩ := q1
  subst e
  cases r1
  obtain ⟨its, rv, p, hz⟩ := I1.tuple hq
  refine wpAny_pyIter_tuple (show s1.heap.IsTuple a its.toArray from p) ?_
  refine ⟨s1.heap.objs.size, [s1.heap.objs.size], _, _, H1, rfl, I1.kept (t' := s1.toks) fun b o e => Heap.get?_push_of_some _ e, turn_tuple a _, ⟨_, Heap.get?_push_size _ rfl, rfl, rfl⟩, fun b hb => ?_, q⟩
  have e : b = s1.heap.objs.size := by simpa using hb
  subst e
  exact I1.fpOk (Nat.le_refl _) (I1.hok.fresh (Nat.le_refl _))
/-- a range object just made, walked -/
theorem range_it {pins : List (Addr × Obj)} {σ : St} {H : Hp} {s : Shared} {R : It → Hp → Prop} {E : Value → Shared → Prop} {lo hi : Int} {t u v : Tok} {tk : Nat} (I : Inv X pins σ H s) (h1 : -(2 ^ 62) ≤ lo) (h2 : lo < 2 ^ 62) (h3 : -(2 ^ 62) ≤ hi) (h4 : hi < 2 ^ 62)
    (q : R (Itr lo (hi - lo).toNat) H) : wpAny (model X.prog X.w) X.A (pyIter (.ref s.heap.objs.size)) (PIE X pins σ tg R) E { s with heap := s.heap.push { cls := .type "range", data := .fields #[.int lo t, .int hi u, .int 1 v] }, toks := tk } := by
  refine wpAny_pyIter_range (IsRange.new ..) (small_one h1 h2 h3 h4) ?_
  have I1 : Inv X pins σ H { s with heap := s.heap.push { cls := .type "range", data := .fields #[.int lo t, .int hi u, .int 1 v] }, toks := tk } := I.kept fun b o e => Heap.get?_push_of_some _ e
  refine ⟨(s.heap.push { cls := .type "range", data := .fields #[.int lo t, .int hi u, .int 1 v] }).objs.size, [(s.heap.push { cls := .type "range", data := .fields #[.int lo t, .int hi u, .int 1 v] }).objs.size], _, _, H, rfl,
    I1.kept (t' := tk) fun b o e => Heap.get?_push_of_some _ e, turn_range _ lo (hi - lo).toNat, ?_, fun b hb => ?_, q⟩
  · have e1 : lo + ((0 : Nat) : Int) * 1 = lo := by simp
    have e2 : (((hi - lo).toNat : Nat) : Int) - ((0 : Nat) : Int) = Builtin.Range.rangeSize lo hi 1 := by rw [rangeSize_one]; split <;> walk_at "om"
    show IsRangeIter _ _ (lo + ((0 : Nat) : Int) * 1) ((((hi - lo).toNat : Nat) : Int) - ((0 : Nat) : Int)) 1
    rw [e1, e2]
    exact Heap.get?_push_size _ rfl
  · have e : b = (s.heap.push { cls := .type "range", data := .fields #[.int lo t, .int hi u, .int 1 v] }).objs.size := by simpa using hb
    subst e
    exact I1.fpOk (Nat.le_refl _) (I1.hok.fresh (Nat.le_refl _))
def iRng1 (ta : TA) : TI := fun σ H R => ta σ H fun vs H1 => ∃ j : Int, vs = [.int j] ∧ -(2 ^ 62) ≤ j ∧ j < 2 ^ 62 ∧ R (Itr 0 j.toNat) H1
theorem pi_range1 {a : Expr} {ta : TA} {p pos : Pos} (hg : Gl X "range") (hm : X.mg "range" = none) (ha : PA X [a] ta) (hs : starEach [a] X.env = [(false, eval a X.env)] := by rfl) : PI X tg (.Call (.Name "range" p) [a] [] pos) (iRng1 ta) := by
  intro pins s σ H R I h
  refine Call_ (ld_blt I hg hm boot_range (PyProof.Rows.callWith_type1 (thn (ha pos pins s σ H _ I h) fun us s1 ⟨vs, H1, I1, r1, q1⟩ => ?_) hs rfl))
  obtain ⟨j, e, q1, q2, q⟩ := q1
  subst e
  cases r1 with
  | cons r rr =>
    cases rr
    obtain ⟨t, rfl⟩ := r
    exact call_range_1 (range_it I1 (by walk_at "om") (by walk_at "om") q1 q2 (by simpa using q))
/-- W: the invariant by the turn and a measure; N: what the body is to reach -/
def tFor (wi : TI) (g : TG) (tb : TS) : TS := fun D σ H => wi σ H fun J H1 => ∃ W : Nat → Nat → St → Hp → Prop, (∃ m, W 0 m σ H1) ∧ ∀ i m σ H, W i m σ H →
  (J.stop i H ∧ D.nx σ H) ∨ (J.go i H ∧ ∃ N : St → Hp → Prop, (∀ σ' H', N σ' H' → ∃ m', m' < m ∧ W (i + 1) m' σ' H') ∧ ∀ x H', J.yld i H x H' → g x σ H' fun σ2 H2 => tb { D with nx := N, ct := N, bk := D.nx } σ2 H2)
/-- the records at fp as they stand -/
def pinsAt (fp : List Addr) (h : Heap) : List (Addr × Obj) := fp.filterMap fun b => (h.get? b).map fun o => (b, o)
theorem mem_pinsAt {fp : List Addr} {h : Heap} {b : Addr} {o : Obj} (hb : b ∈ fp) (e : h.get? b = some o) : (b, o) ∈ pinsAt fp h := List.mem_filterMap.mpr ⟨b, hb, by rw [e]; rfl⟩
theorem of_pinsAt {fp : List Addr} {h : Heap} {p : Addr × Obj} (hp : p ∈ pinsAt fp h) : p.1 ∈ fp ∧ h.get? p.1 = some p.2 := by
  obtain ⟨b, hb, e⟩ := List.mem_filterMap.mp hp
  cases q : h.get? b with
  | none => rw [q] at e; cases e
  | some o =>
    rw [q] at e
    have e' : (b, o) = p := Option.some.inj e
    subst e'
    exact ⟨hb, q⟩
theorem Inv.pinned {pins : List (Addr × Obj)} {σ : St} {H : Hp} {s : Shared} {fp : List Addr} (I : Inv X pins σ H s) (hf : ∀ b ∈ fp, FpOk X pins H b) (ho : ∀ b ∈ fp, ∃ o, s.heap.get? b = some o ∧ ∀ v, o.data ≠ .cell v) : Inv X (pins ++ pinsAt fp s.heap) σ H s :=
  I.pins_of fun p hp => (List.mem_append.mp hp).elim (fun z => I.pin p (List.mem_append_right _ z)) fun z => by
    obtain ⟨hb, e⟩ := of_pinsAt z
    obtain ⟨f0, f1, f2, _⟩ := hf p.1 hb
    obtain ⟨o, e', d⟩ := ho p.1 hb
    rw [e] at e'; cases e'
    exact ⟨e, f0, f1, f2, d⟩
theorem Inv.unpinned {pins pl : List (Addr × Obj)} {σ : St} {H : Hp} {s : Shared} (I : Inv X (pins ++ pl) σ H s) : Inv X pins σ H s := I.pins_of fun p hp => I.pin p (List.mem_append_right _ (List.mem_append_left _ hp))
theorem ps_for {iter : Expr} {body : List Stmt} {wi : TI} {g : TG} {tb : TS} {pos : Pos} (hp : PassesOwn (model X.prog X.w) X.A X.env X.xe) (hc : X.calm = true) (hi : PI X tg iter wi) (hg : PG X tg g) (hb : PSs X body tb)
    (hs : ∀ x, foldedSetIterable iter X.env x = pure x := by intro _; rfl) : PS X (.For tg iter body [] pos) (tFor wi g tb) := by
  intro pins s σ H D I h
  refine wpAny_For (thn (hi pins s σ H _ I h) fun v s1 h1 => thn h1 fun itv s2 h2 => ?_) hs
  obtain ⟨it, fp, tn, J, H2, e, I2, T, st2, f2, W, ⟨m0, w0⟩, turn⟩ := h2
  subst e
  -- what stays true of the iterator's objects through the loop
  have stat : ∀ {H' : Hp}, (∀ b ∈ fp, H' b = none) → ∀ b ∈ fp, FpOk X pins H' b := fun hn b hb => ⟨hn b hb, (f2 b hb).2⟩
  refine codeAny_forLoop_any (fun n s' => ∃ i σ' H', Inv X pins σ' H' s' ∧ tn i s'.heap ∧ (∀ b ∈ fp, H' b = none) ∧ W i n σ' H') ?_ m0 ⟨0, σ, H2, I2, st2, fun b hb => (f2 b hb).1, w0⟩
  rintro n s3 ⟨i, σ3, H3, I3, st3, fr3, w3⟩
  rcases turn i n σ3 H3 w3 with ⟨stop, qn⟩ | ⟨go, N, hN, step⟩
  · refine wpAny_passesOwn hp (thn (T.done X rfl rfl rfl hc i pins s3 σ3 H3 X.xe I3 (stat fr3) st3 stop) fun r s4 ⟨hr, I4⟩ => ?_)
    subst hr
    exact wpAny_execs_nil ⟨σ3, H3, I4, qn⟩
  · refine wpAny_passesOwn hp (thn (T.item X rfl rfl rfl hc i pins s3 σ3 H3 X.xe I3 (stat fr3) st3 go) fun r s4 ⟨u, hr, h4⟩ => ?_)
    subst hr
    refine wpAny_passesOwn hp (thn h4 fun _ s5 ⟨x, H5, I5, r5, y5, st5, fr5⟩ => ?_)
    have I5' := I5.pinned (stat fr5) (T.obj _ _ st5)
    refine wpAny_passesOwn hp (thn (hg _ s5 σ3 H5 x u _ I5' r5 (step x H5 y5)) fun _ s6 ⟨σ6, H6, I6, q6⟩ => ?_)
    refine wpAny_passesOwn hp (thn (hb _ s6 σ6 H6 _ I6 q6) fun f s7 q7 => ?_)
    have again : ∀ {σ7 : St} {H7 : Hp}, Inv X (pins ++ pinsAt fp s5.heap) σ7 H7 s7 → N σ7 H7 → ∃ m, m < n ∧ ∃ i σ' H', Inv X pins σ' H' s7 ∧ tn i s7.heap ∧ (∀ b ∈ fp, H' b = none) ∧ W i m σ' H' := fun {σ7 H7} I7 n7 => by
      obtain ⟨m', hm, w7⟩ := hN σ7 H7 n7
      refine ⟨m', hm, i + 1, σ7, H7, I7.unpinned, T.keep _ _ _ st5 fun b hb o e => (I7.pin (b, o) (List.mem_append_right _ (List.mem_append_right _ (mem_pinsAt hb e)))).1, fun b hb => ?_, w7⟩
      obtain ⟨o, e, d⟩ := T.obj _ _ st5 b hb
      exact (I7.pin (b, o) (List.mem_append_right _ (List.mem_append_right _ (mem_pinsAt hb e)))).2.1
    cases f with
    | next => obtain ⟨σ7, H7, I7, n7⟩ := q7; exact again I7 n7
    | cont => obtain ⟨σ7, H7, I7, n7⟩ := q7; exact again I7 n7
    | brk => obtain ⟨σ7, H7, I7, q7⟩ := q7; exact ⟨σ7, H7, I7.unpinned, q7⟩
    | ret v => obtain ⟨x7, σ7, H7, I7, r7, q7⟩ := q7; exact ⟨x7, σ7, H7, I7.unpinned, r7, q7⟩
end

/-- over a list that the body leaves as it is -/
theorem for_list {K : PySem.W.Frag} {a : Addr} {xs : List V} {g : TG} {tb : TS} {D : Ends} {σ : St} {H : Hp} (Pv : Nat → St → Hp → Prop) (h0 : Pv 0 σ H) (hl : ∀ i σ H, i ≤ xs.length → Pv i σ H → SqL K H a xs)
    (hs : ∀ i x σ H, xs[i]? = some x → Pv i σ H → g x σ H fun σ2 H2 => tb { D with nx := Pv (i + 1), ct := Pv (i + 1), bk := D.nx } σ2 H2) (hd : ∀ σ H, Pv xs.length σ H → D.nx σ H) :
    ∃ W : Nat → Nat → St → Hp → Prop, (∃ m, W 0 m σ H) ∧ ∀ i m σ H, W i m σ H →
      ((Itl K a).stop i H ∧ D.nx σ H) ∨ ((Itl K a).go i H ∧ ∃ N : St → Hp → Prop, (∀ σ' H', N σ' H' → ∃ m', m' < m ∧ W (i + 1) m' σ' H') ∧ ∀ x H', (Itl K a).yld i H x H' → g x σ H' fun σ2 H2 => tb { D with nx := N, ct := N, bk := D.nx } σ2 H2) := by
  refine ⟨fun i m σ H => m = xs.length - i ∧ i ≤ xs.length ∧ Pv i σ H, ⟨xs.length, by simp, Nat.zero_le _, h0⟩, ?_⟩
  rintro i m σ H ⟨rfl, hi, p⟩
  have q := hl i σ H hi p
  by_cases hlt : i < xs.length
  · refine .inr ⟨⟨xs, xs[i], q, by simp [hlt]⟩, Pv (i + 1), fun σ' H' p' => ⟨xs.length - (i + 1), by walk_at "om", rfl, hlt, p'⟩, fun x H' y => ?_⟩
    obtain ⟨e, y⟩ := y
    subst e
    exact hs i x σ _ (y xs q) p
  · have e : i = xs.length := by walk_at "om"
    subst e
    exact .inl ⟨⟨xs, q, Nat.le_refl _⟩, hd σ H p⟩
theorem for_tup {K : PySem.W.Frag} {a : Addr} {xs : List V} {g : TG} {tb : TS} {D : Ends} {σ : St} {H : Hp} (Pv : Nat → St → Hp → Prop) (h0 : Pv 0 σ H) (hl : ∀ i σ H, i ≤ xs.length → Pv i σ H → SqT K H a xs)
    (hs : ∀ i x σ H, xs[i]? = some x → Pv i σ H → g x σ H fun σ2 H2 => tb { D with nx := Pv (i + 1), ct := Pv (i + 1), bk := D.nx } σ2 H2) (hd : ∀ σ H, Pv xs.length σ H → D.nx σ H) :
    ∃ W : Nat → Nat → St → Hp → Prop, (∃ m, W 0 m σ H) ∧ ∀ i m σ H, W i m σ H →
      ((Itt K a).stop i H ∧ D.nx σ H) ∨ ((Itt K a).go i H ∧ ∃ N : St → Hp → Prop, (∀ σ' H', N σ' H' → ∃ m', m' < m ∧ W (i + 1) m' σ' H') ∧ ∀ x H', (Itt K a).yld i H x H' → g x σ H' fun σ2 H2 => tb { D with nx := N, ct := N, bk := D.nx } σ2 H2) := by
  refine ⟨fun i m σ H => m = xs.length - i ∧ i ≤ xs.length ∧ Pv i σ H, ⟨xs.length, by simp, Nat.zero_le _, h0⟩, ?_⟩
  rintro i m σ H ⟨rfl, hi, p⟩
  have q := hl i σ H hi p
  by_cases hlt : i < xs.length
  · refine .inr ⟨⟨xs, xs[i], q, by simp [hlt]⟩, Pv (i + 1), fun σ' H' p' => ⟨xs.length - (i + 1), by walk_at "om", rfl, hlt, p'⟩, fun x H' y => ?_⟩
    obtain ⟨e, y⟩ := y
    subst e
    exact hs i x σ _ (y xs q) p
  · have e : i = xs.length := by walk_at "om"
    subst e
    exact .inl ⟨⟨xs, q, Nat.le_refl _⟩, hd σ H p⟩
theorem for_range {lo : Int} {n : Nat} {g : TG} {tb : TS} {D : Ends} {σ : St} {H : Hp} (Pv : Nat → St → Hp → Prop) (h0 : Pv 0 σ H)
    (hs : ∀ i σ H, i < n → Pv i σ H → g (.int (lo + i)) σ H fun σ2 H2 => tb { D with nx := Pv (i + 1), ct := Pv (i + 1), bk := D.nx } σ2 H2) (hd : ∀ σ H, Pv n σ H → D.nx σ H) :
    ∃ W : Nat → Nat → St → Hp → Prop, (∃ m, W 0 m σ H) ∧ ∀ i m σ H, W i m σ H →
      ((Itr lo n).stop i H ∧ D.nx σ H) ∨ ((Itr lo n).go i H ∧ ∃ N : St → Hp → Prop, (∀ σ' H', N σ' H' → ∃ m', m' < m ∧ W (i + 1) m' σ' H') ∧ ∀ x H', (Itr lo n).yld i H x H' → g x σ H' fun σ2 H2 => tb { D with nx := N, ct := N, bk := D.nx } σ2 H2) := by
  refine ⟨fun i m σ H => m = n - i ∧ i ≤ n ∧ Pv i σ H, ⟨n, by simp, Nat.zero_le _, h0⟩, ?_⟩
  rintro i m σ H ⟨rfl, hi, p⟩
  by_cases hlt : i < n
  · refine .inr ⟨hlt, Pv (i + 1), fun σ' H' p' => ⟨n - (i + 1), by walk_at "om", rfl, hlt, p'⟩, fun x H' y => ?_⟩
    obtain ⟨e, y⟩ := y
    subst e y
    exact hs i σ _ hlt p
  · have e : i = n := by walk_at "om"
    subst e
    exact .inl ⟨Nat.le_refl _, hd σ H p⟩
/-- while, by a word and a measure of the state -/
theorem while_by {c : TT} {tb : TS} {D : Ends} {σ : St} {H : Hp} (Pv : St → Hp → Prop) (μ : St → Hp → Nat) (h0 : Pv σ H)
    (hs : ∀ σ H, Pv σ H → c σ H fun b H1 => if b = true then tb { D with nx := fun σ' H' => Pv σ' H' ∧ μ σ' H' < μ σ H, ct := fun σ' H' => Pv σ' H' ∧ μ σ' H' < μ σ H, bk := D.nx } σ H1 else D.nx σ H1)
    (mono : ∀ σ H Q Q', (∀ b H1, Q b H1 → Q' b H1) → c σ H Q → c σ H Q') : tWhile c tb D σ H := by
  refine ⟨fun m σ H => m = μ σ H ∧ Pv σ H, ⟨_, rfl, h0⟩, ?_⟩
  rintro m σ H ⟨rfl, p⟩
  refine mono σ H _ _ (fun b H1 q => ?_) (hs σ H p)
  cases b with
  | true => exact ⟨_, fun σ' H' ⟨p', l⟩ => ⟨_, l, rfl, p'⟩, q⟩
  | false => exact q
end L2

namespace L2
open PySem PySem.Spec PyProof.Rows

abbrev R2 := V → V → Hp → VK → Prop
/-- a two-place operation on values: f is binaryOp op, inplaceOp op or compareOp op -/
def OpR (X : Cx) (f : Value → Value → Sem Value) (r : R2) : Prop :=
  ∀ (pins : List (Addr × Obj)) (s : Shared) (σ : St) (H : Hp) (x y : V) (v u : Value) (Q : VK), Inv X pins σ H s → RelV x v → RelV y u → r x y H Q →
    wpAny (model X.prog X.w) X.A (f v u) (EP X pins σ Q) X.xe s
/-- a one-place operation -/
def UnR (X : Cx) (f : Value → Sem Value) (r : V → Hp → VK → Prop) : Prop :=
  ∀ (pins : List (Addr × Obj)) (s : Shared) (σ : St) (H : Hp) (x : V) (v : Value) (Q : VK), Inv X pins σ H s → RelV x v → r x H Q →
    wpAny (model X.prog X.w) X.A (f v) (EP X pins σ Q) X.xe s
/-- a call of a value that is known (a builtin, a type) with values -/
def CallR (X : Cx) (f : Value) (r : List V → Hp → VK → Prop) : Prop :=
  ∀ (pins : List (Addr × Obj)) (s : Shared) (σ : St) (H : Hp) (xs : List V) (us : List Value) (Q : VK), Inv X pins σ H s → Vals xs us → r xs H Q →
    wpAny (model X.prog X.w) X.A (call f us) (EP X pins σ Q) X.xe s
def tOp (r : R2) (ta tb : TE) : TE := fun σ H Q => ta σ H fun x H1 => tb σ H1 fun y H2 => r x y H2 Q
def tUn (r : V → Hp → VK → Prop) (ta : TE) : TE := fun σ H Q => ta σ H fun x H1 => r x H1 Q
/-- ints in, under C, and a value out -/
def rI (C : Int → Int → Prop) (g : Int → Int → V) : R2 := fun x y H Q => ∃ i j, x = .int i ∧ y = .int j ∧ C i j ∧ Q (g i j) H
def rI0 (g : Int → Int → V) : R2 := fun x y H Q => ∃ i j, x = .int i ∧ y = .int j ∧ Q (g i j) H
def rU (g : Int → V) : V → Hp → VK → Prop := fun x H Q => ∃ i, x = .int i ∧ Q (g i) H

section
variable {X : Cx} {a b c : Expr} {ta tb tc : TE} {pos : Pos}

theorem binT (ha : PE X a ta) (hb : PE X b tb) {pins : List (Addr × Obj)} {s : Shared} {σ : St} {H : Hp} {R : V → V → Hp → Prop} (I : Inv X pins σ H s)
    (h : ta σ H fun x H1 => tb σ H1 fun y H2 => R x y H2) {Q : Value → Shared → Prop} {f : Value → Value → Sem Value}
    (hf : ∀ v u s2 x y H2, Inv X pins σ H2 s2 → RelV x v → RelV y u → R x y H2 → wpAny (model X.prog X.w) X.A (f v u) Q X.xe s2) :
    wpAny (model X.prog X.w) X.A (eval a X.env) (fun v s₁ => wpAny (model X.prog X.w) X.A (eval b X.env) (fun u s₂ => wpAny (model X.prog X.w) X.A (f v u) Q X.xe s₂) X.xe s₁) X.xe s := by
  refine thn (ha pins s σ H _ I h) fun v s1 ⟨x, H1, I1, r1, q1⟩ => ?_
  refine thn (hb pins s1 σ H1 _ I1 q1) fun u s2 ⟨y, H2, I2, r2, q2⟩ => ?_
  exact hf v u s2 x y H2 I2 r1 r2 q2

theorem pe_op {op : Operator} {r : R2} (ho : OpR X (binaryOp op) r) (ha : PE X a ta) (hb : PE X b tb) : PE X (.BinOp a op b pos) (tOp r ta tb) := by
  intro pins s σ H Q I h
  exact wpAny_BinOp (binT ha hb I h fun v u s2 x y H2 I2 rx ry q => ho pins s2 σ H2 x y v u Q I2 rx ry q)
theorem pe_un {op : UnaryOp} {r : V → Hp → VK → Prop} (ho : UnR X (unaryOp op) r) (ha : PE X a ta) : PE X (.UnaryOp op a pos) (tUn r ta) := by
  intro pins s σ H Q I h
  exact UnaryOp_ (thn (ha pins s σ H _ I h) fun v s1 ⟨x, H1, I1, r1, q1⟩ => ho pins s1 σ H1 x v Q I1 r1 q1)
theorem opI {f : Value → Value → Sem Value} {C : Int → Int → Prop} {g : Int → Int → Int}
    (rule : ∀ (i j : Int) (t u : Tok) (s : Shared) (Q : Value → Shared → Prop) (E : Value → Shared → Prop), C i j → Q (.int (g i j) s.toks) { s with toks := s.toks + 1 } → wpAny (model X.prog X.w) X.A (f (.int i t) (.int j u)) Q E s) :
    OpR X f (rI C fun i j => .int (g i j)) := by
  intro pins s σ H x y v u Q I rx ry h
  obtain ⟨i, j, rfl, rfl, hc, q⟩ := h
  obtain ⟨t, rfl⟩ := rx
  obtain ⟨t', rfl⟩ := ry
  exact rule i j t t' s _ _ hc ⟨.int (g i j), H, I.tok _, ⟨_, rfl⟩, q⟩
theorem opI0 {f : Value → Value → Sem Value} {g : Int → Int → Int}
    (rule : ∀ (i j : Int) (t u : Tok) (s : Shared) (Q : Value → Shared → Prop) (E : Value → Shared → Prop), Q (.int (g i j) s.toks) { s with toks := s.toks + 1 } → wpAny (model X.prog X.w) X.A (f (.int i t) (.int j u)) Q E s) :
    OpR X f (rI0 fun i j => .int (g i j)) := by
  intro pins s σ H x y v u Q I rx ry h
  obtain ⟨i, j, rfl, rfl, q⟩ := h
  obtain ⟨t, rfl⟩ := rx
  obtain ⟨t', rfl⟩ := ry
  exact rule i j t t' s _ _ ⟨.int (g i j), H, I.tok _, ⟨_, rfl⟩, q⟩
theorem opB0 {f : Value → Value → Sem Value} {g : Int → Int → Bool}
    (rule : ∀ (i j : Int) (t u : Tok) (s : Shared) (Q : Value → Shared → Prop) (E : Value → Shared → Prop), Q (.bool (g i j)) s → wpAny (model X.prog X.w) X.A (f (.int i t) (.int j u)) Q E s) :
    OpR X f (rI0 fun i j => .bl (g i j)) := by
  intro pins s σ H x y v u Q I rx ry h
  obtain ⟨i, j, rfl, rfl, q⟩ := h
  obtain ⟨t, rfl⟩ := rx
  obtain ⟨t', rfl⟩ := ry
  exact rule i j t t' s _ _ ⟨.bl (g i j), H, I, rfl, q⟩

def CDiv (i j : Int) : Prop := 0 < j ∧ j < 1073741824
def CPow (i j : Int) : Prop := 0 ≤ j ∧ j ≤ 1000000 ∧ i.natAbs < 2 ^ 64
def CMul (i j : Int) : Prop := (-(2 ^ 64) < i ∧ i < 2 ^ 64) ∨ (-(2 ^ 64) < j ∧ j < 2 ^ 64)
theorem CMul.ok {i j : Int} (h : CMul i j) : IntMulOk i j := by
  rcases h with ⟨h1, h2⟩ | ⟨h1, h2⟩
  · exact .of_left (intBits_le_64 h1 h2)
  · exact .of_right (intBits_le_64 h1 h2)
theorem op_add : OpR X (binaryOp .Add) (rI0 fun i j => .int (i + j)) := opI0 fun _ _ _ _ _ _ _ q => add_int q
theorem op_sub : OpR X (binaryOp .Sub) (rI0 fun i j => .int (i - j)) := opI0 fun _ _ _ _ _ _ _ q => sub_int q
theorem op_mul : OpR X (binaryOp .Mult) (rI CMul fun i j => .int (i * j)) := opI fun _ _ _ _ _ _ _ hc q => mul_int q hc.ok
/-- // by a positive divisor -/
theorem op_fdiv : OpR X (binaryOp .FloorDiv) (rI CDiv fun i j => .int (i / j)) := opI fun i j _ _ _ _ _ hc q => by
  have h1 : (0 : Int) < j := hc.1
  have h2 : j < 1073741824 := hc.2
  exact floordiv_int (by walk_at "om") (by rw [Int.fdiv_eq_ediv_of_nonneg i (by walk_at "om")]; exact q) (.inl (PyProof.noPylong_small (by walk_at "om")))
/-- % by a positive divisor of any size -/
theorem op_mod : OpR X (binaryOp .Mod) (rI (fun _ j => 0 < j) fun i j => .int (i % j)) := opI fun i j _ _ _ _ _ hc q => by
  have h1 : (0 : Int) < j := hc
  exact mod_int' (by walk_at "om") (by rw [Int.fmod_eq_emod_of_nonneg i (by walk_at "om")]; exact q)
theorem op_modN : OpR X (binaryOp .Mod) (rI (fun _ j => j ≠ 0) fun i j => .int (i.fmod j)) := opI fun _ _ _ _ _ _ _ hc q => mod_int' hc q
theorem op_pow : OpR X (binaryOp .Pow) (rI CPow fun i j => .int (i ^ j.toNat)) := opI fun _ _ _ _ _ _ _ hc q => pow_int_small hc.1 hc.2.1 hc.2.2 q
theorem unI {f : Value → Sem Value} {g : Int → Int}
    (rule : ∀ (i : Int) (t : Tok) (s : Shared) (Q : Value → Shared → Prop) (E : Value → Shared → Prop), Q (.int (g i) s.toks) { s with toks := s.toks + 1 } → wpAny (model X.prog X.w) X.A (f (.int i t)) Q E s) :
    UnR X f (rU fun i => .int (g i)) := by
  intro pins s σ H x v Q I rx h
  obtain ⟨i, rfl, q⟩ := h
  obtain ⟨t, rfl⟩ := rx
  exact rule i t s _ _ ⟨.int (g i), H, I.tok _, ⟨_, rfl⟩, q⟩
theorem un_neg : UnR X (unaryOp .USub) (rU fun i => .int (-i)) := unI fun _ _ _ _ _ q => neg_int q
end

/-- the scalars that == tells apart as data does -/
def scal : V → V → Bool
  | .non, .non => true | .non, .int _ => true | .int _, .non => true | .non, .bl _ => true | .bl _, .non => true | .non, .str _ => true | .str _, .non => true
  | .int _, .int _ => true | .bl _, .bl _ => true | .str _, .str _ => true | .byt _, .byt _ => true
  | .int _, .str _ => true | .str _, .int _ => true | .bl _, .str _ => true | .str _, .bl _ => true
  | _, _ => false
def rEq : R2 := fun x y H Q => scal x y = true ∧ Q (.bl (decide (x = y))) H
def rNe : R2 := fun x y H Q => scal x y = true ∧ Q (.bl (!decide (x = y))) H

theorem dec_int {i j : Int} : decide (V.int i = V.int j) = (i == j) := by
  rw [Bool.eq_iff_iff]
  simp
theorem dec_bl {i j : Bool} : decide (V.bl i = V.bl j) = (i == j) := by
  rw [Bool.eq_iff_iff]
  simp
theorem dec_str {i j : Str} : decide (V.str i = V.str j) = (i == j) := by
  rw [Bool.eq_iff_iff]
  simp
theorem dec_byt {i j : Array UInt8} : decide (V.byt i = V.byt j) = (i.toList == j.toList) := by
  rw [Bool.eq_iff_iff]
  cases i
  cases j
  simp

section
variable {X : Cx} {a b c : Expr} {ta tb tc : TE} {pos : Pos}
theorem fin_bl {pins : List (Addr × Obj)} {σ : St} {H : Hp} {s : Shared} {Q : VK} {k k' : Bool} (I : Inv X pins σ H s) (q : Q (.bl k) H) (e : k = k') : EP X pins σ Q (.bool k') s := by
  subst e
  exact ⟨.bl k, H, I, rfl, q⟩
theorem op_eq : OpR X (compareOp .Eq) rEq := by
  intro pins s σ H x y v u Q I rx ry h
  obtain ⟨hs, q⟩ := h
  cases x with
  | non =>
    cases rx
    cases y with
    | non => cases ry; exact PySem.EqNone.eq_none_none (fin_bl I q (by simp))
    | bl j => cases ry; exact PySem.EqNone.eq_none_bool (fin_bl I q (by simp))
    | int j => obtain ⟨t', rfl⟩ := ry; exact PySem.EqNone.eq_none_int (fin_bl I q (by simp))
    | str j => obtain ⟨t', rfl⟩ := ry; exact PySem.EqNone.eq_none_str (fin_bl I q (by simp))
    | _ => exact absurd (show false = true from hs) Bool.false_ne_true
  | bl i =>
    cases rx
    cases y with
    | non => cases ry; exact PySem.EqNone.eq_bool_none (fin_bl I q (by simp))
    | bl j => cases ry; exact eq_bool (fin_bl I q dec_bl)
    | str j => obtain ⟨t', rfl⟩ := ry; exact PySem.EqMixed.eq_bool_str (fin_bl I q (by simp))
    | _ => exact absurd (show false = true from hs) Bool.false_ne_true
  | int i =>
    obtain ⟨t, rfl⟩ := rx
    cases y with
    | non => cases ry; exact PySem.EqNone.eq_int_none (fin_bl I q (by simp))
    | int j => obtain ⟨t', rfl⟩ := ry; exact eq_int (fin_bl I q dec_int)
    | str j => obtain ⟨t', rfl⟩ := ry; exact PySem.EqMixed.eq_int_str (fin_bl I q (by simp))
    | _ => exact absurd (show false = true from hs) Bool.false_ne_true
  | str i =>
    obtain ⟨t, rfl⟩ := rx
    cases y with
    | non => cases ry; exact PySem.EqNone.eq_str_none (fin_bl I q (by simp))
    | bl j => cases ry; exact PySem.EqMixed.eq_str_bool (fin_bl I q (by simp))
    | int j => obtain ⟨t', rfl⟩ := ry; exact PySem.EqMixed.eq_str_int (fin_bl I q (by simp))
    | str j => obtain ⟨t', rfl⟩ := ry; exact eq_str (fin_bl I q dec_str)
    | _ => exact absurd (show false = true from hs) Bool.false_ne_true
  | byt i =>
    obtain ⟨t, rfl⟩ := rx
    cases y with
    | byt j => obtain ⟨t', rfl⟩ := ry; exact PySem.W.eq_bytes (fin_bl I q dec_byt)
    | _ => exact absurd (show false = true from hs) Bool.false_ne_true
  | _ => cases y <;> exact absurd (show false = true from hs) Bool.false_ne_true
theorem op_ne : OpR X (compareOp .NotEq) rNe := by
  intro pins s σ H x y v u Q I rx ry h
  obtain ⟨hs, q⟩ := h
  cases x with
  | non =>
    cases rx
    cases y with
    | non => cases ry; exact PySem.EqNone.ne_none_none (fin_bl I q (by simp))
    | bl j => cases ry; exact PySem.EqNone.ne_none_bool (fin_bl I q (by simp))
    | int j => obtain ⟨t', rfl⟩ := ry; exact PySem.EqNone.ne_none_int (fin_bl I q (by simp))
    | str j => obtain ⟨t', rfl⟩ := ry; exact PySem.EqNone.ne_none_str (fin_bl I q (by simp))
    | _ => exact absurd (show false = true from hs) Bool.false_ne_true
  | bl i =>
    cases rx
    cases y with
    | non => cases ry; exact PySem.EqNone.ne_bool_none (fin_bl I q (by simp))
    | bl j => cases ry; exact ne_bool (fin_bl I q (congrArg not dec_bl))
    | str j => obtain ⟨t', rfl⟩ := ry; exact PySem.EqMixed.ne_bool_str (fin_bl I q (by simp))
    | _ => exact absurd (show false = true from hs) Bool.false_ne_true
  | int i =>
    obtain ⟨t, rfl⟩ := rx
    cases y with
    | non => cases ry; exact PySem.EqNone.ne_int_none (fin_bl I q (by simp))
    | int j => obtain ⟨t', rfl⟩ := ry; exact ne_int (fin_bl I q (congrArg not dec_int))
    | str j => obtain ⟨t', rfl⟩ := ry; exact PySem.EqMixed.ne_int_str (fin_bl I q (by simp))
    | _ => exact absurd (show false = true from hs) Bool.false_ne_true
  | str i =>
    obtain ⟨t, rfl⟩ := rx
    cases y with
    | non => cases ry; exact PySem.EqNone.ne_str_none (fin_bl I q (by simp))
    | bl j => cases ry; exact PySem.EqMixed.ne_str_bool (fin_bl I q (by simp))
    | int j => obtain ⟨t', rfl⟩ := ry; exact PySem.EqMixed.ne_str_int (fin_bl I q (by simp))
    | str j => obtain ⟨t', rfl⟩ := ry; exact ne_str (fin_bl I q (congrArg not dec_str))
    | _ => exact absurd (show false = true from hs) Bool.false_ne_true
  | byt i =>
    obtain ⟨t, rfl⟩ := rx
    cases y with
    | byt j => obtain ⟨t', rfl⟩ := ry; exact PySem.W.ne_bytes (fin_bl I q (congrArg not dec_byt))
    | _ => exact absurd (show false = true from hs) Bool.false_ne_true
  | _ => cases y <;> exact absurd (show false = true from hs) Bool.false_ne_true

theorem op_lt : OpR X (compareOp .Lt) (rI0 fun i j => .bl (decide (i < j))) := opB0 fun _ _ _ _ _ _ _ q => lt_int q
theorem op_gt : OpR X (compareOp .Gt) (rI0 fun i j => .bl (decide (j < i))) := opB0 fun _ _ _ _ _ _ _ q => gt_int q
/-- is None, is not None: the right side a value none -/
theorem op_isN : OpR X (compareOp .Is) (fun x y H Q => y = .non ∧ Q (.bl (decide (x = .non))) H) := by
  intro pins s σ H x y v u Q I rx ry h
  obtain ⟨rfl, q⟩ := h
  cases ry
  refine is_none_gen (fin_bl I q ?_)
  cases x <;> first
    | (cases rx; rfl)
    | (obtain ⟨t, rfl⟩ := rx; rfl)
theorem nomark (b : Expr) {op : CmpOp} (h : op ≠ .In := by decide) (h2 : op ≠ .NotIn := by decide) : behindInMarks op b = false := by
  have e1 : (op == CmpOp.In) = false := by cases op <;> first | rfl | exact absurd rfl h
  have e2 : (op == CmpOp.NotIn) = false := by cases op <;> first | rfl | exact absurd rfl h2
  cases b <;> simp [behindInMarks, e1, e2]
/-- a comparison as a value; hm: nomark b, or (for in, not in) by with_unfolding_all rfl -/
theorem pe_cmpR {op : CmpOp} {r : R2} (ho : OpR X (compareOp op) r) (ha : PE X a ta) (hb : PE X b tb) (hm : behindInMarks op b = false) : PE X (.Compare a [op] [b] pos) (tOp r ta tb) := by
  intro pins s σ H Q I h
  exact wpAny_Compare1 (binT ha hb I h fun v u s2 x y H2 I2 rx ry q => ho pins s2 σ H2 x y v u Q I2 rx ry q) hm
/-- a reading of a value as a test -/
def tTest (t : TE) : TT := fun σ H Q => t σ H fun x H' => ∃ k, x = .bl k ∧ Q k H'
theorem pt_cmpR {op : CmpOp} {r : R2} (ho : OpR X (compareOp op) r) (ha : PE X a ta) (hb : PE X b tb) (hm : behindInMarks op b = false) : PT X (.Compare a [op] [b] pos) (tTest (tOp r ta tb)) := by
  intro pins s σ H Q I h
  refine wpAny_isTrue_Compare1 (thn (ha pins s σ H _ I h) fun v s1 ⟨x, H1, I1, r1, q1⟩ => thn (hb pins s1 σ H1 _ I1 q1) fun u s2 ⟨y, H2, I2, r2, q2⟩ =>
    thn (ho pins s2 σ H2 x y v u _ I2 r1 r2 q2) fun c s3 ⟨z, H3, I3, r3, k, e, q3⟩ => ?_) hm
  subst e
  cases r3
  exact wpAny_truthy_bool ⟨H3, I3, q3⟩
theorem line63 : (sizeLine : Nat) < 2 ^ 63 := by rw [sizeLine_eq]; decide
theorem op_add_str : OpR X (binaryOp .Add) (fun x y H Q => ∃ i j, x = .str i ∧ y = .str j ∧ i.length + j.length ≤ sizeLine ∧ Q (.str (i ++ j)) H) := by
  intro pins s σ H x y v u Q I rx ry h
  obtain ⟨i, j, rfl, rfl, hz, q⟩ := h
  obtain ⟨t, rfl⟩ := rx
  obtain ⟨t', rfl⟩ := ry
  exact add_str (fun t' tk => ⟨.str (i ++ j), H, I.tok _, ⟨_, rfl⟩, q⟩) hz
theorem vals1 {x : V} {us : List Value} (r : Vals [x] us) : ∃ u, us = [u] ∧ RelV x u := by
  cases r with
  | cons r1 r2 => cases r2; exact ⟨_, rfl, r1⟩
theorem vals2 {x y : V} {us : List Value} (r : Vals [x, y] us) : ∃ u w', us = [u, w'] ∧ RelV x u ∧ RelV y w' := by
  cases r with
  | cons r1 r2 =>
    cases r2 with
    | cons r3 r4 => cases r4; exact ⟨_, _, rfl, r1, r3⟩
theorem call_abs : CallR X (.builtin "abs") (fun xs H Q => ∃ i, xs = [.int i] ∧ Q (.int (if i < 0 then -i else i)) H) := by
  intro pins s σ H xs us Q I r h
  obtain ⟨i, rfl, q⟩ := h
  obtain ⟨u, rfl, t, rfl⟩ := vals1 r
  exact call_abs_int fun u tk => ⟨.int (if i < 0 then -i else i), H, I.tok _, ⟨_, rfl⟩, q⟩
theorem call_max2 (hc : X.calm = true) : CallR X (.builtin "max") (fun xs H Q => ∃ i j, xs = [.int i, .int j] ∧ Q (.int (if j > i then j else i)) H) := by
  intro pins s σ H xs us Q I r h
  obtain ⟨i, j, rfl, q⟩ := h
  obtain ⟨u, w', rfl, ⟨t, rfl⟩, ⟨t', rfl⟩⟩ := vals2 r
  refine max_two_ints (I.ok.hd hc) fun h' tk k => ⟨_, H, I.kept k, ?_, q⟩
  by_cases hj : j > i
  · rw [if_pos hj, if_pos hj]; exact ⟨_, rfl⟩
  · rw [if_neg hj, if_neg hj]; exact ⟨_, rfl⟩
theorem call_min2 (hc : X.calm = true) : CallR X (.builtin "min") (fun xs H Q => ∃ i j, xs = [.int i, .int j] ∧ Q (.int (if j < i then j else i)) H) := by
  intro pins s σ H xs us Q I r h
  obtain ⟨i, j, rfl, q⟩ := h
  obtain ⟨u, w', rfl, ⟨t, rfl⟩, ⟨t', rfl⟩⟩ := vals2 r
  refine min_two_ints (I.ok.hd hc) fun h' tk k => ⟨_, H, I.kept k, ?_, q⟩
  by_cases hj : j < i
  · rw [if_pos hj, if_pos hj]; exact ⟨_, rfl⟩
  · rw [if_neg hj, if_neg hj]; exact ⟨_, rfl⟩
theorem call_int1 : CallR X (.type "int") (fun xs H Q => (∃ i, xs = [.int i] ∧ Q (.int i) H) ∨ ∃ k, xs = [.bl k] ∧ Q (.int (if k then 1 else 0)) H) := by
  intro pins s σ H xs us Q I r h
  rcases h with ⟨i, rfl, q⟩ | ⟨k, rfl, q⟩
  · obtain ⟨u, rfl, t, rfl⟩ := vals1 r
    exact call_int_int ⟨.int i, H, I, ⟨_, rfl⟩, q⟩
  · obtain ⟨u, rfl, r1⟩ := vals1 r
    cases r1
    exact call_int_bool ⟨.int (if k then 1 else 0), H, I.tok _, ⟨_, rfl⟩, q⟩
end
end L2

namespace L2
open PySem PySem.Spec PyProof.Rows

structure ObjM (h : Heap) (x dx C : Addr) (mA : Str → Option Value) : Prop where
  obj : h.get? x = some (PySem.W.instObj C dx)
  ns : h.Ns1 dx mA
  ne : dx ≠ x

theorem lookIn_ns {h : Heap} {dx : Addr} {mA : Str → Option Value} (n : h.Ns1 dx mA) : ∃ od, h.get? dx = some od ∧ ∀ name, PySem.W.lookIn name od = some (mA name) := by
  obtain ⟨o, es, ep, ho, hd, hk, _, hm⟩ := n
  refine ⟨o, ho, fun name => ?_⟩
  have e := hm name
  unfold nsFind findBy at e
  rw [← Array.find?_toList] at e
  unfold PySem.W.lookIn
  rw [hd]
  dsimp only
  split
  · rename_i y q
    rw [q] at e
    exact congrArg some e
  · rename_i q
    rw [q] at e
    have a : es.toList.any (·.refKey) = false := by
      rw [List.any_eq_false]
      intro y hy
      obtain ⟨z, t, hkey⟩ := hk y (Array.mem_toList_iff.mp hy)
      simp [DictEntry.refKey, hkey]
    have a' : ¬ es.toList.any (·.refKey) = true := by rw [a]; exact Bool.false_ne_true
    rw [if_neg a']
    exact congrArg some e

theorem ObjM.look {h : Heap} {x dx C : Addr} {mA : Str → Option Value} (I : ObjM h x dx C mA) : ∃ od, PySem.W.InstAt h x (PySem.W.instObj C dx) C (some od) ∧ ∀ name, PySem.W.lookIn name od = some (mA name) :=
  let ⟨od, ho, hl⟩ := lookIn_ns I.ns
  ⟨od, ⟨I.obj, rfl, rfl, ho⟩, hl⟩

section
variable {prog : Program} {w : World} {A : Around} {E : Value → Shared → Prop} {s : Shared} {K : PySem.W.Frag} {x dx C f : Addr} {mA : Str → Option Value} {name : Str} {v : Value}

end

theorem RelO.some_of {v : V} {o : Option Value} (r : RelO (some v) o) : ∃ u, o = some u ∧ RelV v u := by
  cases o with
  | none => exact (show False from r).elim
  | some u => exact ⟨u, rfl, r⟩
section
variable {P : Program} {w : World} {H H' : Hp} {h h' : Heap} {a C dx : Addr} {fs fs' : List (Str × V)}
theorem ins_get (hok : HOk P w H h) (e : H a = some (.ins C dx fs)) : ∃ mA, ObjM h a dx C mA ∧ (∀ f, RelO (fs.lookup f) (mA f)) ∧ PySem.Within mA (fs.map (·.1)) ∧ fs.length ≤ 1000 ∧ H dx = some (.own a) := by
  obtain ⟨d, z, ne, ob, mA, n, r, q⟩ := (show ObjOk P w H h a (.ins C dx fs) from hok a _ e)
  exact ⟨mA, ⟨ob, n, ne⟩, r, q, z, d⟩
end

structure Cls (K : PySem.W.Frag) (C : Addr) : Prop where
  pg : PySem.W.plainGet K C Str.empty = true
  hd : PySem.W.hasDictIn K C = true
  po : PySem.W.plainOver K C = true
  sa : PySem.W.findIn K (.ref C) "__setattr__" = some (some (.builtin "object.__setattr__"))
theorem Cls.get {K : PySem.W.Frag} {C : Addr} (c : Cls K C) (f : Str) : PySem.W.plainGet K C f = true := c.pg
section
variable {X : Cx} {pins : List (Addr × Obj)} {σ : St} {H : Hp} {s : Shared} {a C dx : Addr} {fs : List (Str × V)} {f : Str} {v : V} {A : Around} {E : Value → Shared → Prop}

end

section
variable {X : Cx} {o e value : Expr} {f : Str} {pos pos' tpos : Pos} {ta tv : TE}
end

section
variable {X : Cx} {pins : List (Addr × Obj)} {σ : St} {H : Hp} {s : Shared} {A : Around} {E : Value → Shared → Prop} {Q : Value → Shared → Prop} {c : Value} {b : Bool}
/-- the type of a value, as the fragment's deciders take it; for an instance its class -/
inductive TyOf (K : PySem.W.Frag) (H : Hp) : V → Value → Prop where
  | non : TyOf K H .non (.type "NoneType")
  | bl (x : Bool) : TyOf K H (.bl x) (.type "bool")
  | int (i : Int) : TyOf K H (.int i) (.type "int")
  | str (x : Str) : TyOf K H (.str x) (.type "str")
  | flt (x : UInt64) : TyOf K H (.flt x) (.type "float")
  | lst {a : Addr} {xs : List V} (e : H a = some (.lst xs)) : TyOf K H (.ref a) (.type "list")
  | frz {a : Addr} {o : Obj} {xs : List V} (e : H a = some (.frz o (.lst xs))) : TyOf K H (.ref a) (.type "list")
  | tup {a : Addr} {xs : List V} (e : H a = some (.tup xs)) : TyOf K H (.ref a) (.type "tuple")
  | dK {a : Addr} {kvs : List (Key × V)} (e : H a = some (.dK kvs)) : TyOf K H (.ref a) (.type "dict")
  | dT {a : Addr} {kvs : List (List Key × V)} (e : H a = some (.dT kvs)) : TyOf K H (.ref a) (.type "dict")
  | ins {a C dx : Addr} {fs : List (Str × V)} (e : H a = some (.ins C dx fs)) (cl : Cls K C) (ha : PySem.W.findIn K (.ref C) "__class__" = some (some (.builtin "object.__class__")))
      (hn : PySem.W.specialIn K (.builtin "object.__class__") "__get__" = some (some (.builtin "getset_descriptor.__get__"))) (htk : PySem.W.takesIn K (.builtin "object.__class__") = some true)
      (hm : PySem.W.mroIn K C (.type "object") = some true) : TyOf K H (.ref a) (.ref C)
/-- isinstance(x, c) for one class c, a built-in or an own one: kitOne's answer -/
theorem isinst_ok {x : V} {u t : Value} (I : Inv X pins σ H s) (rx : RelV x u) (ty : TyOf X.K H x t) (e : PySem.W.kitOne X.K t c = some b) (h : ∀ tk, Q (.bool b) { s with toks := tk }) :
    wpAny (model X.prog X.w) A (call (.builtin "isinstance") [u, c]) Q E s := by
  cases ty with
  | non => cases (show u = Value.none from rx); exact PySem.W.kia_one PySem.W.kitx_none I.kIn True.intro e (fun z => nomatch z) h
  | bl y => cases (show u = Value.bool y from rx); exact PySem.W.kia_one PySem.W.kitx_bool I.kIn True.intro e (fun z => nomatch z) h
  | int i => obtain ⟨t, q⟩ := (show ∃ t, u = Value.int i t from rx); cases q; exact PySem.W.kia_one PySem.W.kitx_int I.kIn True.intro e (fun z => nomatch z) h
  | str y => obtain ⟨t, q⟩ := (show ∃ t, u = Value.str y t from rx); cases q; exact PySem.W.kia_one PySem.W.kitx_str I.kIn True.intro e (fun z => nomatch z) h
  | flt y => obtain ⟨t, q⟩ := (show ∃ t, u = Value.float y t from rx); cases q; exact PySem.W.kia_one PySem.W.kitx_float I.kIn True.intro e (fun z => nomatch z) h
  | @lst a xs ea =>
    cases (show u = Value.ref a from rx)
    obtain ⟨_, _, n, _, h1⟩ := (show ObjOk X.prog X.w H s.heap a (.lst xs) from I.hok a _ ea)
    exact PySem.W.kia_one PySem.W.kitx_list I.kIn ⟨_, h1, rfl⟩ e (fun z => nomatch z) h
  | @frz a ob xs ea =>
    cases (show u = Value.ref a from rx)
    obtain ⟨_, _, _, n, _, h1⟩ := (show ObjOk X.prog X.w H s.heap a (.frz ob (.lst xs)) from I.hok a _ ea)
    exact PySem.W.kia_one PySem.W.kitx_list I.kIn ⟨_, h1, rfl⟩ e (fun z => nomatch z) h
  | @tup a xs ea =>
    cases (show u = Value.ref a from rx)
    obtain ⟨_, _, _, p⟩ := (show ObjOk X.prog X.w H s.heap a (.tup xs) from I.hok a _ ea)
    obtain ⟨o, h1, h2, _⟩ := p
    exact PySem.W.kia_one PySem.W.kitx_tuple I.kIn ⟨o, h1, h2⟩ e (fun z => nomatch z) h
  | @dK a kvs ea =>
    cases (show u = Value.ref a from rx)
    obtain ⟨_, _, vs, _, p⟩ := (show ObjOk X.prog X.w H s.heap a (.dK kvs) from I.hok a _ ea)
    obtain ⟨o, es, ep, h1, h2, _⟩ := p
    exact PySem.W.kia_one PySem.W.kitx_dict I.kIn ⟨o, h1, h2.1⟩ e (fun z => nomatch z) h
  | @dT a kvs ea =>
    cases (show u = Value.ref a from rx)
    obtain ⟨_, _, xs, _, o, es, ep, h1, h2, _⟩ := (show ObjOk X.prog X.w H s.heap a (.dT kvs) from I.hok a _ ea)
    exact PySem.W.kia_one PySem.W.kitx_dict I.kIn ⟨o, h1, h2.1⟩ e (fun z => nomatch z) h
  | @ins a C dx fs ea cl ha hn htk hm =>
    cases (show u = Value.ref a from rx)
    obtain ⟨mA, O, _⟩ := ins_get I.hok ea
    obtain ⟨od, J, _⟩ := O.look
    exact PySem.W.kia_one (PySem.W.kitx_own (cl.get _) cl.hd ha hn htk hm) I.kIn J e (fun z => nomatch z) h
end
end L2

namespace L2
open PySem PySem.Spec PyProof.Rows

structure Room (k : Nat) (A : Around) : Prop where
  hd : A.handled = none
  dp : A.depth + 3 * k + 5 < recursionLimit
  un : A.units + 16 * k + 200 < cLine
theorem Room.mono {j k : Nat} {A : Around} (r : Room k A) (h : j ≤ k) : Room j A := ⟨r.hd, by have := r.dp; walk_at "om", by have := r.un; walk_at "om"⟩
theorem Room.deeper {k : Nat} {A : Around} (r : Room (k + 1) A) (env : Env) : Room k (A.deeper env) :=
  ⟨r.hd, by have := r.dp; show A.depth + 1 + 3 * k + 5 < _; walk_at "om", by have := r.un; show A.units + 3 + 16 * k + 200 < _; walk_at "om"⟩
theorem Room.depth {k : Nat} {A : Around} (r : Room k A) : A.depth < recursionLimit := by have := r.dp; walk_at "om"
theorem Room.units {k : Nat} {A : Around} (r : Room k A) : A.units + 64 < cLine := by have := r.un; walk_at "om"
def tNil : TA := fun _ H Q => Q [] H
def tCons (ta : TE) (tr : TA) : TA := fun σ H Q => ta σ H fun x H1 => tr σ H1 fun xs H2 => Q (x :: xs) H2
section
variable {X : Cx} {e : Expr} {es : List Expr} {te : TE} {t : TA} {pos : Pos}
theorem pa_nil : PA X [] tNil := fun _ _ _ _ H Q I h => Calls.spliced_nil ⟨[], H, I, .nil, h⟩
theorem pa_cons (ha : PE X e te) (hr : PA X es t) (hs : starEach (e :: es) X.env = (false, eval e X.env) :: starEach es X.env := by rfl) : PA X (e :: es) (tCons te t) := by
  intro pos pins s σ H Q I h
  rw [hs]
  show wpAny _ _ (spliced ((false, eval e X.env) :: backTo pos (starEach es X.env))) _ _ s
  refine Calls.spliced_cons (thn (ha pins s σ H _ I h) fun u s1 ⟨x, H1, I1, r1, q1⟩ => ?_)
  exact thn (hr pos pins s1 σ H1 _ I1 q1) fun us s2 ⟨xs, H2, I2, r2, q2⟩ => ⟨x :: xs, H2, I2, .cons r1 r2, q2⟩

/-- a tuple, a list of written items -/
def tTup (t : TA) : TE := fun σ H Q => t σ H fun xs H1 => xs.length ≤ sizeLine ∧ ∀ p, H1 p = none → Q (.ref p) (upd H1 p (.tup xs))
def tLst (t : TA) : TE := fun σ H Q => t σ H fun xs H1 => xs.length ≤ sizeLine ∧ ∀ p, H1 p = none → Q (.ref p) (upd H1 p (.lst xs))
theorem pe_tup {x1} (h : PA X es t) : PE X (.Tuple es x1 pos) (tTup t) := by
  intro pins s σ H Q I hq
  refine wpAny_Tuple_spliced (thn (h pos pins s σ H _ I hq) fun us s1 ⟨xs, H1, I1, r, z, q⟩ => ⟨by rw [← r.length]; exact z, ?_⟩)
  have hf : H1 s1.heap.objs.size = none := I1.hok.fresh (Nat.le_refl _)
  refine ⟨.ref s1.heap.objs.size, upd H1 s1.heap.objs.size (.tup xs), I1.laid (t' := s1.toks) (fun b u e => Heap.get?_push_of_some _ e) (Nat.le_refl _) ?_, rfl, q _ hf⟩
  exact ⟨z, us, r, ⟨_, Heap.get?_push_size _ rfl, rfl, _, rfl⟩⟩
theorem pe_lst (h : PA X es t) : PE X (.List es pos) (tLst t) := by
  intro pins s σ H Q I hq
  refine wpAny_List_spliced (thn (h pos pins s σ H _ I hq) fun us s1 ⟨xs, H1, I1, r, z, q⟩ => ⟨by rw [← r.length]; exact z, ?_⟩)
  have hf : H1 s1.heap.objs.size = none := I1.hok.fresh (Nat.le_refl _)
  refine ⟨.ref s1.heap.objs.size, upd H1 s1.heap.objs.size (.lst xs), I1.laid (t' := s1.toks) (fun b u e => Heap.get?_push_of_some _ e) (Nat.le_refl _) ?_, rfl, q _ hf⟩
  exact ⟨z, us, 0, r, Heap.get?_push_size _ rfl⟩
end

/-- a def's promise: the bound arguments in the parameters' order, the heap, the wanted end, the wanted exception -/
abbrev Sp := List V → Hp → VK → XK → Prop
/-- how an exception lies behind a call (file 08 gives it): the callers' frames, abstract heap and state ahead of the call, the wish, the exception, the state -/
abbrev CXT := List Env → Hp → Shared → XK → Value → Shared → Prop

/-- the state at a call -/
structure Env0 (P : Program) (w : World) (K : PySem.W.Frag) (mg : Str → Option Value) (base : Heap) (A : Around) (outer : List Env) (s : Shared) (H : Hp) : Prop where
  frames : A.frames = some outer
  mod : Mod K mg base
  bs : ∀ b o, base.get? b = some o → s.heap.get? b = some o ∧ H b = none
  bsz : base.objs.size ≤ s.heap.objs.size
  funs : s.heap.FunFrames base outer
  frf : ∀ b ∈ frs outer, H b = none
  hok : HOk P w H s.heap
  bare : AllBare s.gens
/-- a call's end -/
def CE (outer : List Env) (P : Program) (w : World) (H : Hp) (s : Shared) (Q : VK) (u : Value) (s' : Shared) : Prop :=
  ∃ v H', s'.os = s.os ∧ AllBare s'.gens ∧ Un (frs outer) [] H H' s.heap s'.heap ∧ HOk P w H' s'.heap ∧ RelV v u ∧ Q v H'
def CR (CX : CXT) (outer : List Env) (P : Program) (w : World) (H : Hp) (s : Shared) (Q : VK) (E : XK) (r : Result) (s' : Shared) : Prop :=
  match r with
  | .ok (.ret u) => CE outer P w H s Q u s'
  | .ok _ => False
  | .error e => CX outer H s E e s'
structure FnOk (P : Program) (w : World) (K : PySem.W.Frag) (mg : Str → Option Value) (base : Heap) (CX : CXT) (k : Nat) (f : Addr) (fd : FuncData) (ps : List Str) (sp : Sp) : Prop where
  len : ∀ vs H Q E, sp vs H Q E → vs.length = ps.length
  run : ∀ (A : Around) (outer : List Env) (s : Shared) (H : Hp) (args : Args) (us : List Value) (vs : List V) (Q : VK) (E : XK), Room k A → Env0 P w K mg base A outer s H → BindsTo s fd args (ps.zip us) → Vals vs us → sp vs H Q E →
    codeAny (model P w) A (.call (.ref f) args) (CR CX outer P w H s Q E) s
theorem FnOk.mono {P : Program} {w : World} {K : PySem.W.Frag} {mg : Str → Option Value} {base : Heap} {CX : CXT} {j k : Nat} {f : Addr} {fd : FuncData} {ps : List Str} {sp : Sp} (F : FnOk P w K mg base CX j f fd ps sp) (h : j ≤ k) :
    FnOk P w K mg base CX k f fd ps sp := ⟨F.len, fun A outer s H args us vs Q E hr => F.run A outer s H args us vs Q E (hr.mono h)⟩
section
variable {X : Cx} {pins : List (Addr × Obj)} {σ : St} {H : Hp} {s s' : Shared}
/-- from a body: what a callee wants -/
theorem Inv.env0 (I : Inv X pins σ H s) : Env0 X.prog X.w X.K X.mg X.base X.A X.stack s H :=
  ⟨I.ok.frames, I.ok.mod, I.bs, Nat.le_trans I.ok.bsz I.sz, I.stack, I.stkFree, I.hok, I.bare⟩
/-- behind a call -/
theorem Inv.after {Q : VK} {u : Value} (I : Inv X pins σ H s) (h : CE X.stack X.prog X.w H s Q u s') : EP X pins σ Q u s' := by
  obtain ⟨v, H', os, bare, un, hok, r, q⟩ := h
  obtain ⟨hh, g, d, t, os'⟩ := s'
  obtain rfl : os' = s.os := os
  exact ⟨v, H', I.call (h' := hh) (g' := g) (d' := d) (t' := t) (ch := []) un hok bare (fun b z => absurd z (by simp)), r, q⟩
end

/-- f(..): the written arguments, then the defaults dvs; E: what is wanted of an exception -/
def tCall (sp : Sp) (dvs : List V) (E : XK) (t : TA) : TE := fun σ H Q => t σ H fun vs H1 => sp (vs ++ dvs) H1 Q E
/-- how the parameters are bound: us the positional arguments, kw the keywords' values by name, ds the defaults that fill up -/
def Binds (K : PySem.W.Frag) (fd : FuncData) (ps : List Str) (ds : List Value) : Prop :=
  ∀ (s : Shared) (us : List Value), K.In s.heap → (us ++ ds).length = ps.length → BindsTo s fd ⟨us, []⟩ (ps.zip (us ++ ds))
/-- every parameter is given -/
theorem Binds.all {K : PySem.W.Frag} {fd : FuncData} {ps : List Str} (h : ∀ us : List Value, us.length = ps.length → bindArgs fd ⟨us, []⟩ = pure (ps.zip us)) : Binds K fd ps [] := fun s us _ hl => by
  rw [List.append_nil] at hl ⊢
  exact .of_eq (h us hl)

/-- an exception of a callee reaches what this body wants of exceptions -/
def Passes (CX : CXT) (X : Cx) (E : XK) : Prop := ∀ (pins : List (Addr × Obj)) (σ : St) (H : Hp) (s : Shared) (e : Value) (s' : Shared), Inv X pins σ H s → CX X.stack H s E e s' → X.xe e s'

section
variable {X : Cx} {CX : CXT} {k : Nat} {f C : Addr} {fd : FuncData} {ps : List Str} {sp : Sp} {dvs : List V} {ds : List Value} {E : XK} {x m : Str} {p pos apos : Pos} {e o : Expr} {es : List Expr} {ta : TE} {t : TA}

/-- the callee runs -/
theorem run_fn {pins : List (Addr × Obj)} {σ : St} {H : Hp} {s : Shared} {Q : VK} {us : List Value} {vs : List V} (F : FnOk X.prog X.w X.K X.mg X.base CX k f fd ps sp) (hr : Room k X.A) (hb : Binds X.K fd ps ds) (hd : Vals dvs ds) (hx : Passes CX X E)
    (I : Inv X pins σ H s) (r : Vals vs us) (h : sp (vs ++ dvs) H Q E) : wpAny (model X.prog X.w) X.A (call (.ref f) us) (EP X pins σ Q) X.xe s := by
  have r2 : Vals (vs ++ dvs) (us ++ ds) := r.append hd
  have hl : (us ++ ds).length = ps.length := by rw [← r2.length]; exact F.len _ _ _ _ h
  refine wpAny_call (codeAny_mono (F.run X.A X.stack s H ⟨us, []⟩ (us ++ ds) (vs ++ dvs) Q E hr I.env0 (hb s us I.kIn hl) r2 h) fun r s' hq => ?_)
  cases r with
  | error e => exact hx pins σ H s e s' I hq
  | ok fl =>
    cases fl with
    | ret u => exact I.after hq
    | next => exact False.elim hq
    | brk => exact False.elim hq
    | cont => exact False.elim hq

theorem pe_call (F : FnOk X.prog X.w X.K X.mg X.base CX k f fd ps sp) (hr : Room k X.A) (hg : Gl X x) (hm : X.mg x = some (.ref f)) (hk : PySem.W.keepIn X.K (.ref f) = true) (hb : Binds X.K fd ps ds) (hd : Vals dvs ds) (hx : Passes CX X E)
    (ha : PA X (e :: es) t) (hdb : (x == ("__debug__" : Str)) = false := by decide) (he : starEach (e :: es) X.env = (false, eval e X.env) :: starEach es X.env := by rfl) (hpl : (backTo pos (starEach es X.env)).any (·.1) = false := by rfl) :
    PE X (.Call (.Name x p) (e :: es) [] pos) (tCall sp dvs E t) := by
  intro pins s σ H Q I h
  refine wpAny_Call_Name_kw (ld_glob I hg hm ?_ hdb)
  refine PySem.W.callWith_K (h₀ := X.base) I.ok.mod.kin hk (thn (ha pos pins s σ H _ I h) fun us s1 ⟨vs, H1, I1, r, q⟩ => ⟨I1.kIn, ?_⟩) he hpl
  exact run_fn F hr hb hd hx I1 r q
end

section
variable {X : Cx} {CX : CXT} {k : Nat} {f C : Addr} {fd : FuncData} {ps ks : List Str} {sp : Sp} {E : XK} {x m : Str} {p pos apos kpos : Pos} {e o : Expr} {es : List Expr} {kws : List Keyword} {te ta : TE} {t tk : TA} {nm : Option Str}
variable {g : List Value → List Value → List Value} {gV : List V → List V → List V}
end

/-- names: the parameters first -/
structure FnScope (N P : List Str) (sc : Scope) : Prop where
  kind : sc.kind = .function
  co : sc.isCoroutine = false
  gen : sc.isGenerator = false
  nd : N.Nodup
  pre : N.take P.length = P
  par : ∀ x ∈ P, sc.names.lookup x = some .local ∨ sc.names.lookup x = some .cell
  nofree : ∀ y ∈ sc.names, y.2 ≠ .free

theorem bindL_out {kindOf : Str → Option NameKind} {x : Str} : ∀ {binds : List (Str × Value)} {m : Str → Option Value}, (∀ v, (x, v) ∉ binds) → bindL kindOf binds m x = m x
  | [], _, _ => rfl
  | (n, v) :: r, m, h => by
    unfold bindL
    rw [bindL_out fun w hw => h w (List.mem_cons_of_mem _ hw)]
    split
    · have : x ≠ n := by rintro rfl; exact h v List.mem_cons_self
      simp [this]
    · rfl
theorem bindC_out {kindOf : Str → Option NameKind} {x : Str} : ∀ {binds : List (Str × Value)} {m : Str → Option Value}, (∀ v, (x, v) ∉ binds) → bindC kindOf binds m x = m x
  | [], _, _ => rfl
  | (n, v) :: r, m, h => by
    unfold bindC
    rw [bindC_out fun w hw => h w (List.mem_cons_of_mem _ hw)]
    split
    · rfl
    · have : x ≠ n := by rintro rfl; exact h v List.mem_cons_self
      simp [this]
theorem bindL_get {kindOf : Str → Option NameKind} {x : Str} {v : Value} : ∀ {P : List Str} {vs : List Value} {i : Nat} {m : Str → Option Value}, P.Nodup → P[i]? = some x → vs[i]? = some v → kindOf x = some .local →
    bindL kindOf (P.zip vs) m x = some v
  | [], _, _, _, _, h, _, _ => by simp at h
  | _ :: _, [], _, _, _, _, h, _ => by simp at h
  | p :: P, w :: vs, 0, m, nd, h1, h2, hk => by
    simp at h1 h2; subst h1; subst h2
    show bindL kindOf ((p, w) :: P.zip vs) m p = _
    unfold bindL
    rw [bindL_out fun v hv => (List.nodup_cons.mp nd).1 (List.of_mem_zip hv).1, if_pos hk]
    simp
  | p :: P, w :: vs, i + 1, m, nd, h1, h2, hk => by
    show bindL kindOf ((p, w) :: P.zip vs) m x = _
    unfold bindL
    exact bindL_get (i := i) (List.nodup_cons.mp nd).2 (by simpa using h1) (by simpa using h2) hk
theorem bindC_get {kindOf : Str → Option NameKind} {x : Str} {v : Value} : ∀ {P : List Str} {vs : List Value} {i : Nat} {m : Str → Option Value}, P.Nodup → P[i]? = some x → vs[i]? = some v → kindOf x ≠ some .local →
    bindC kindOf (P.zip vs) m x = some v
  | [], _, _, _, _, h, _, _ => by simp at h
  | _ :: _, [], _, _, _, _, h, _ => by simp at h
  | p :: P, w :: vs, 0, m, nd, h1, h2, hk => by
    simp at h1 h2; subst h1; subst h2
    show bindC kindOf ((p, w) :: P.zip vs) m p = _
    unfold bindC
    rw [bindC_out fun v hv => (List.nodup_cons.mp nd).1 (List.of_mem_zip hv).1, if_neg hk]
    simp
  | p :: P, w :: vs, i + 1, m, nd, h1, h2, hk => by
    show bindC kindOf ((p, w) :: P.zip vs) m x = _
    unfold bindC
    exact bindC_get (i := i) (List.nodup_cons.mp nd).2 (by simpa using h1) (by simpa using h2) hk

/-- the names' values at the entry -/
def start (N : List Str) (vs : List V) : St := vs.map some ++ List.replicate (N.length - vs.length) none

/-- the context of a def's body, at its entry; an exception leaves the frame, then lies as CX says -/
def cxOf (CX : CXT) (P : Program) (w : World) (K : PySem.W.Frag) (mg : Str → Option Value) (base : Heap) (N : List Str) (qual : Str) (scope : Scope) (f : Addr) (cd : Value) (A : Around) (outer : List Env) (s : Shared) (H : Hp) (E : XK) : Cx where
  prog := P
  w := w
  K := K
  mg := mg
  base := base
  A := A.deeper (envOfC qual scope s.heap.objs.size f cd)
  N := N
  s₀ := s
  H₀ := H
  env := envOfC qual scope s.heap.objs.size f cd
  outer := outer
  stack := envOfC qual scope s.heap.objs.size f cd :: outer
  ex := []
  calm := true
  fn := fun _ => true
  pn := []
  xe := fun e s' => wpAny (model P w) (A.deeper (envOfC qual scope s.heap.objs.size f cd)) (leaving (envOfC qual scope s.heap.objs.size f cd) e) (fun _ s'' => CX outer H s E e s'') (fun e' s'' => CX outer H s E e' s'') s'

theorem cell_has {sc : Scope} {n : Nat} {x : Str} (h : sc.names.lookup x = some .cell) : ∃ c, (cellsFrom n sc.names []).lookup x = some c := by
  have q := PySem.W.cellsFrom_some sc.names n [] (.inl h)
  exact Option.isSome_iff_exists.mp q

theorem inv_start {CX : CXT} {P : Program} {w : World} {K : PySem.W.Frag} {mg : Str → Option Value} {base : Heap} {N ps : List Str} {qual : Str} {scope : Scope} {f : Addr} {cd : Value} {A : Around} {outer : List Env} {s s1 : Shared} {H : Hp} {E : XK} {us : List Value} {vs : List V}
    (S : FnScope N ps scope) (hd : A.handled = none) (e0 : Env0 P w K mg base A outer s H) (hl : vs.length = ps.length) (r : Vals vs us)
    (x : InCallC s s.heap.objs.size (bindL (envOfC qual scope s.heap.objs.size f cd).kindOf (ps.zip us) fun _ => none) (cellsFrom (s.heap.objs.size + 1) scope.names []) (bindC (envOfC qual scope s.heap.objs.size f cd).kindOf (ps.zip us) fun _ => none) s1) :
    Inv (cxOf CX P w K mg base N qual scope f cd A outer s H E) [] (start N vs) H s1 := by
  have hpl : ps.length ≤ N.length := by have := congrArg List.length S.pre; rw [List.length_take] at this; walk_at "om"
  obtain ⟨h1, tk, rfl, hk⟩ := x.done
  have noA : ∀ b : Addr, b ∉ (cxOf CX P w K mg base N qual scope f cd A outer s H E).ex := fun b z => absurd (show b ∈ ([] : List Addr) from z) (by simp)
  refine ⟨⟨e0.mod, S.kind, rfl, rfl, Nat.le_refl _, fun y z c h1 h2 => ?_, fun y hy => ?_, fun y c _ h => ?_, fun _ => hd, Around.frames_deeper e0.frames, .inr ⟨rfl, rfl⟩, fun b z => absurd z (noA b), e0.bs, e0.bsz, fun b _ _ => noA b, fun b z => absurd z (noA b), e0.funs, e0.frf⟩,
    rfl, e0.bare, Un.kept hk, ⟨_, x.toInCall.ns, fun i y v h1 h2 h3 => ?_⟩, fun y c h => ⟨_, x.cell y c h⟩, e0.hok.fresh (Nat.le_refl _), fun y c h => ?_, fun p hp => absurd (show p ∈ ([] : List (Addr × Obj)) from hp) (by simp), e0.hok.kept hk, ?_⟩
  · exact name_of_addr x.apart (PySem.mem_of_lookup h1) (PySem.mem_of_lookup h2)
  · have hy : scope.names.lookup y = some .cell ∨ scope.names.lookup y = some .free := hy
    rcases hy with hy | hy
    · exact cell_has hy
    · exact absurd rfl (S.nofree _ (PySem.mem_of_lookup hy))
  · exact Nat.le_of_lt (x.above y c (PySem.mem_of_lookup h))
  · have hi : i < vs.length := by
      unfold start at h2
      by_cases hi : i < vs.length
      · exact hi
      · rw [List.getElem?_append_right (by simpa using hi)] at h2
        rw [List.getElem?_replicate] at h2
        split at h2 <;> cases h2
    have ha : vs[i]? = some v := by
      unfold start at h2
      rw [List.getElem?_append_left (by simpa using hi), List.getElem?_map] at h2
      cases e : vs[i]? with
      | none => rw [e] at h2; cases h2
      | some a => rw [e] at h2; cases h2; rfl
    obtain ⟨u, hu, rv⟩ := r.get ha
    have hp : ps[i]? = some y := by
      rw [← S.pre, List.getElem?_take_of_lt (by walk_at "om")]; exact h1
    have ndP : ps.Nodup := by rw [← S.pre]; exact S.nd.sublist (List.take_sublist _ _)
    refine ⟨u, rv, ?_⟩
    rcases S.par y (List.mem_of_getElem? hp) with k | k
    · exact .inl ⟨k, bindL_get ndP hp hu k⟩
    · obtain ⟨c, e⟩ := cell_has (n := s.heap.objs.size + 1) k
      refine .inr ⟨.inl k, c, e, ?_⟩
      have q := x.cell y c e
      rw [bindC_get ndP hp hu (by show scope.names.lookup y ≠ _; rw [k]; decide)] at q
      exact q
  · exact e0.hok.fresh (Nat.le_of_lt (x.above y c (PySem.mem_of_lookup h)))
  · unfold start
    show _ = N.length
    rw [List.length_append, List.length_map, List.length_replicate]
    walk_at "om"

/-- THE RULE: a def (or a method) of the text, by its body. The body's reading t is chosen for each entry; it is run at the parameters' values -/
theorem fn_of {CX : CXT} {P : Program} {w : World} {K : PySem.W.Frag} {mg : Str → Option Value} {base : Heap} {k : Nat} {f : Addr} {name qual : Str} {params : Arguments} {body : List Stmt} {scope : Scope} {dV kV doc pm cdv ct oc : Value} {an od : Option Addr}
    {osl : Array (Option Value)} {N ps : List Str} {sp : Sp} (lk : K.lookup f = some ⟨oc, od, .func (PySem.W.fnOf name qual params body scope dV kV doc pm an cdv ct), osl⟩) (hcd : PySem.W.codeIn K cdv qual = true) (S : FnScope N ps scope)
    (len : ∀ vs H Q E, sp vs H Q E → vs.length = ps.length)
    (hbody : ∀ (A : Around) (outer : List Env) (s : Shared) (H : Hp) (vs : List V) (Q : VK) (E : XK), Room k (A.deeper (envOfC qual scope s.heap.objs.size f cdv)) → sp vs H Q E →
      ∃ t, PSs (cxOf CX P w K mg base N qual scope f cdv A outer s H E) body t ∧ t { nx := fun _ H' => Q .non H', rt := Q } (start N vs) H) :
    FnOk P w K mg base CX (k + 1) f (PySem.W.fnOf name qual params body scope dV kV doc pm an cdv ct) ps sp := by
  refine ⟨len, fun A outer s H args us vs Q E hr e0 hb r hsp => ?_⟩
  have hl := len _ _ _ _ hsp
  have KX : K.In s.heap := e0.mod.kin.keeps fun b o e => (e0.bs b o e).1
  have lim : s.heap.NoLimit := e0.mod.nolimit.keeps fun b o e => (e0.bs b o e).1
  have hkind : ∀ y ∈ ps.zip us, scope.names.lookup y.1 = some .local ∨ (scope.names.lookup y.1 = some .cell ∧ ((cellsFrom (s.heap.objs.size + 1) scope.names []).lookup y.1).isSome = true) := fun ⟨n, v⟩ hy => by
    rcases S.par n (List.of_mem_zip hy).1 with q | q
    · exact .inl q
    · exact .inr ⟨q, PySem.W.cellsFrom_some _ _ _ (.inl q)⟩
  refine codeAny_call_function hr.depth (KX _ _ lk) rfl S.co S.gen rfl (PySem.W.codeRec_of KX hcd) (hb _ _ _ _ ?_)
  refine wpAny_newFunctionEnv_cells S.kind hkind fun env he s1 x => ?_
  subst he
  refine ⟨lim.keeps x.toInCall.keep, codeAny_func ?_⟩
  obtain ⟨t, ht, hq⟩ := hbody A outer s H vs Q E (hr.deeper _) hsp
  have I : Inv (cxOf CX P w K mg base N qual scope f cdv A outer s H E) [] (start N vs) H s1 := inv_start S hr.hd e0 hl r x
  refine wpAny_mono (ht [] s1 (start N vs) H _ I hq) (fun fl s' hs => ?_) fun e s' hs => hs
  have fin : ∀ {σ' : St} {H' : Hp} {v : V} {u : Value}, Inv (cxOf CX P w K mg base N qual scope f cdv A outer s H E) [] σ' H' s' → RelV v u → Q v H' → CE outer P w H s Q u s' :=
    fun {σ' H' v u} J rv q => ⟨v, H', J.os, J.bare, J.base, J.hok, rv, q⟩
  cases fl with
  | ret u =>
    obtain ⟨v, σ', H', J, rv, q⟩ := hs
    exact fin J rv q
  | next =>
    obtain ⟨σ', H', J, q⟩ := hs
    exact fin (v := V.non) (u := Value.none) J rfl q
  | brk =>
    obtain ⟨_, _, _, q⟩ := hs
    exact False.elim q
  | cont =>
    obtain ⟨_, _, _, q⟩ := hs
    exact False.elim q
end L2

namespace L2
open PySem PySem.Spec PyProof.Rows
section
variable {X : Cx} {x : Str} {p pos : Pos} {e : Expr} {es : List Expr} {t : TA} {id T : String} {r : List V → Hp → VK → Prop}

def tCB (r : List V → Hp → VK → Prop) (t : TA) : TE := fun σ H Q => t σ H fun vs H1 => r vs H1 Q
/-- f(e, ..), f a built-in function -/
theorem pe_callB (hc : CallR X (.builtin id) r) (hg : Gl X x) (hm : X.mg x = none) (hv : bootBuiltins x = some (.builtin id)) (ha : PA X (e :: es) t) (hn : x ≠ "__name__" := by decide) (hdb : (x == ("__debug__" : Str)) = false := by decide)
    (he : starEach (e :: es) X.env = (false, eval e X.env) :: starEach es X.env := by rfl) (hpl : (backTo pos (starEach es X.env)).any (·.1) = false := by rfl) : PE X (.Call (.Name x p) (e :: es) [] pos) (tCB r t) := by
  intro pins s σ H Q I h
  refine wpAny_Call_Name_kw (ld_blt I hg hm hv ?_ hn hdb)
  exact PyProof.Rows.callWith_builtin1 (thn (ha pos pins s σ H _ I h) fun us s1 ⟨vs, H1, I1, r1, q1⟩ => hc pins s1 σ H1 vs us Q I1 r1 q1) he hpl
/-- T(e, ..), T a built-in type -/
theorem pe_callTy (hc : CallR X (.type T) r) (hg : Gl X x) (hm : X.mg x = none) (hv : bootBuiltins x = some (.type T)) (ha : PA X (e :: es) t) (hn : x ≠ "__name__" := by decide) (hdb : (x == ("__debug__" : Str)) = false := by decide)
    (he : starEach (e :: es) X.env = (false, eval e X.env) :: starEach es X.env := by rfl) (hpl : (backTo pos (starEach es X.env)).any (·.1) = false := by rfl) : PE X (.Call (.Name x p) (e :: es) [] pos) (tCB r t) := by
  intro pins s σ H Q I h
  refine wpAny_Call_Name_kw (ld_blt I hg hm hv ?_ hn hdb)
  exact PyProof.Rows.callWith_type1 (thn (ha pos pins s σ H _ I h) fun us s1 ⟨vs, H1, I1, r1, q1⟩ => hc pins s1 σ H1 vs us Q I1 r1 q1) he hpl
end
end L2

namespace HT
open PySem PyProof.Rows

section
open PySem.SeqAt
open PySem.AutoSeq1 (wpAny_loadPart')
open PySem.MeetsSeq PySem.MeetsSeq2 PySem.MeetsSeq3

end

section
variable {prog : Program} {w : World} {A : Around} {E : Value → Shared → Prop} {s : Shared}

end
end HT

namespace L2
open PySem PySem.Spec PyProof.Rows

abbrev TO := St → Hp → (Option Int → Hp → Prop) → Prop
/-- a slice's part (left out, or an int) -/
def PO (X : Cx) (e : Option Expr) (t : TO) : Prop :=
  ∀ (pins : List (Addr × Obj)) (s : Shared) (σ : St) (H : Hp) (Q : Option Int → Hp → Prop), Inv X pins σ H s → t σ H Q →
    wpAny (model X.prog X.w) X.A (evalPart e X.env) (fun u s' => ∃ o H', Inv X pins σ H' s' ∧ IsPart u o ∧ Q o H') X.xe s
def tNoPart : TO := fun _ H Q => Q none H
def tPart (t : TE) : TO := fun σ H Q => t σ H fun x H1 => ∃ i, x = .int i ∧ Q (some i) H1

theorem intsAre_of {ns : List Int} : ∀ {us : List Value}, Vals (ns.map V.int) us → IntsAre us ns := by
  induction ns with
  | nil => intro us r; rw [List.map_nil] at r; cases r; exact .nil
  | cons n ns ih =>
    intro us r
    rw [List.map_cons] at r
    cases r with
    | cons r1 r2 =>
      obtain ⟨t, e⟩ := r1
      subst e
      exact .cons n t (ih r2)

section
variable {X : Cx} {e : Expr} {te : TE} {lo hi : Option Expr} {tl th : TO} {pos p2 : Pos}

theorem po_none : PO X none tNoPart := by
  intro pins s σ H Q I h
  rw [evalPart_none]
  exact wpAny_pure ⟨none, H, I, .none, h⟩
theorem po_some (h : PE X e te) : PO X (some e) (tPart te) := by
  intro pins s σ H Q I hw
  rw [evalPart_some]
  refine thn (h pins s σ H _ I hw) fun u s1 ⟨x, H1, I1, r1, q1⟩ => ?_
  obtain ⟨i, rfl, q⟩ := q1
  obtain ⟨t, rfl⟩ := r1
  exact ⟨some i, H1, I1, .int i t, q⟩

/-- what a slice of a value is, by values: the slice object stands at sl -/
def SlR (X : Cx) (r : V → Option Int → Option Int → Hp → VK → Prop) : Prop :=
  ∀ (pins : List (Addr × Obj)) (s : Shared) (σ : St) (H : Hp) (x : V) (v vl vu : Value) (lo hi : Option Int) (sl : Addr) (Q : VK), Inv X pins σ H s → RelV x v → s.heap.IsSliceOf sl vl vu .none → IsPart vl lo → IsPart vu hi → r x lo hi H Q →
    ∃ T id, typeLookup (.type T) "__getitem__" = pure (some (.builtin id)) ∧ s.TypeIs v T ∧ wpAny (model X.prog X.w) X.A (getItem v (.ref sl)) (EP X pins σ Q) X.xe s
def tSl (r : V → Option Int → Option Int → Hp → VK → Prop) (te : TE) (tl th : TO) : TE := fun σ H Q => te σ H fun x H1 => tl σ H1 fun l H2 => th σ H2 fun u H3 => r x l u H3 Q
/-- a[lo:hi], any a -/
theorem pe_slice {r : V → Option Int → Option Int → Hp → VK → Prop} (hr : SlR X r) (he : PE X e te) (hl : PO X lo tl) (hu : PO X hi th) : PE X (.Subscript e (.Slice lo hi none p2) pos) (tSl r te tl th) := by
  intro pins s σ H Q I h
  refine Subscript_ (thn (he pins s σ H _ I h) fun v s1 ⟨x, H1, I1, r1, q1⟩ => ?_)
  refine wpAny_Slice (thn (hl pins s1 σ H1 _ I1 q1) fun vl s2 ⟨l, H2, I2, pl, q2⟩ => thn (hu pins s2 σ H2 _ I2 q2) fun vu s3 ⟨u, H3, I3, pu, q3⟩ => ?_)
  rw [evalPart_none]
  refine wpAny_pure ?_
  have I4 : Inv X pins σ H3 { s3 with heap := s3.heap.push { cls := .type "slice", data := .fields #[vl, vu, .none] } } := I3.kept (t' := s3.toks) fun b ob q => Heap.get?_push_of_some _ q
  obtain ⟨T, id, hT, ht, hg⟩ := hr pins { s3 with heap := s3.heap.push { cls := .type "slice", data := .fields #[vl, vu, .none] } } σ H3 x v vl vu l u s3.heap.objs.size Q I4 r1 (Heap.IsSliceOf.new ..) pl pu q3
  show wpAny (model X.prog X.w) X.A (subscriptTail e (.Slice lo hi none p2) v (.ref s3.heap.objs.size)) (EP X pins σ Q) X.xe { s3 with heap := s3.heap.push { cls := .type "slice", data := .fields #[vl, vu, .none] } }
  exact tail_any (ops := [.ref s3.heap.objs.size, v]) ht hT hg (by with_unfolding_all rfl)

end
end L2

namespace L2
open PySem PySem.Spec PyProof.Rows

/-- the place that an index of any sign means -/
def ixN (n : Nat) (i : Int) : Option Nat := if 0 ≤ i then (if i < n then some i.toNat else none) else if -(n : Int) ≤ i then some (i + n).toNat else none
def atI {α : Type} (xs : List α) (i : Int) : Option α := (ixN xs.length i).bind fun j => xs[j]?
theorem ixN_seq {n : Nat} {i : Int} {j : Nat} (h : ixN n i = some j) : seqIndex? i n = some j ∧ j < n ∧ -(n : Int) ≤ i ∧ i < n := by
  unfold ixN at h
  by_cases h0 : 0 ≤ i
  · rw [if_pos h0] at h
    by_cases h1 : i < n
    · rw [if_pos h1] at h
      have e : i.toNat = j := Option.some.inj h
      exact ⟨by rw [seqIndex_of h0 h1, e], by walk_at "om", by walk_at "om", h1⟩
    · rw [if_neg h1] at h; cases h
  · rw [if_neg h0] at h
    by_cases h1 : -(n : Int) ≤ i
    · rw [if_pos h1] at h
      have e : (i + n).toNat = j := Option.some.inj h
      exact ⟨by rw [seqIndex_neg (by walk_at "om") h1, e], by walk_at "om", h1, by walk_at "om"⟩
    · rw [if_neg h1] at h; cases h
theorem atI_get {α : Type} {xs : List α} {i : Int} {v : α} (h : atI xs i = some v) : ∃ j, seqIndex? i xs.length = some j ∧ xs[j]? = some v ∧ j < xs.length ∧ -(xs.length : Int) ≤ i ∧ i < xs.length := by
  unfold atI at h
  cases e : ixN xs.length i with
  | none => rw [e] at h; cases h
  | some j =>
    rw [e] at h
    obtain ⟨h1, h2, h3, h4⟩ := ixN_seq e
    exact ⟨j, h1, h, h2, h3, h4⟩
theorem atI_nat {α : Type} {xs : List α} {j : Nat} {v : α} (h : xs[j]? = some v) : atI xs (j : Int) = some v := by
  have hj : j < xs.length := (List.getElem?_eq_some_iff.mp h).1
  have e : ixN xs.length (j : Int) = some j := by
    unfold ixN
    rw [if_pos (by walk_at "om"), if_pos (by walk_at "om")]; simp
  unfold atI; rw [e]; exact h
/-- what stands as an index of a plain subscript -/
def PlainIx (b : Expr) : Prop := ∀ o i, subscripted b false o i = operate [o, i] (getItem o i)
/-- a subscript by values -/
def IxR (X : Cx) (r : R2) : Prop :=
  ∀ (value slice : Expr) (pins : List (Addr × Obj)) (s : Shared) (σ : St) (H : Hp) (x y : V) (v u : Value) (Q : VK), Inv X pins σ H s → RelV x v → RelV y u → r x y H Q →
    subscripted slice false v u = operate [v, u] (getItem v u) → wpAny (model X.prog X.w) X.A (subscriptTail value slice v u) (EP X pins σ Q) X.xe s
/-- a call of a builtin's method by values: the receiver, the arguments -/
def MtR (X : Cx) (id : String) (r : V → List V → Hp → VK → Prop) : Prop :=
  ∀ (pins : List (Addr × Obj)) (s : Shared) (σ : St) (H : Hp) (x : V) (xs : List V) (v : Value) (us : List Value) (Q : VK), Inv X pins σ H s → RelV x v → Vals xs us → r x xs H Q →
    wpAny (model X.prog X.w) X.A (call (.builtin id) (v :: us)) (EP X pins σ Q) X.xe s
section
variable {X : Cx} {a b : Expr} {ta tb : TE} {pos : Pos}
theorem IxR.or {r r' : R2} (h : IxR X r) (h' : IxR X r') : IxR X (fun x y H Q => r x y H Q ∨ r' x y H Q) := by
  intro value slice pins s σ H x y v u Q I rx ry q hs
  rcases q with q | q
  · exact h value slice pins s σ H x y v u Q I rx ry q hs
  · exact h' value slice pins s σ H x y v u Q I rx ry q hs
/-- a[b] -/
theorem pe_ix {r : R2} (hr : IxR X r) (ha : PE X a ta) (hb : PE X b tb) (hs : PlainIx b) : PE X (.Subscript a b pos) (tOp r ta tb) := by
  intro pins s σ H Q I h
  exact Subscript_ (binT ha hb I h fun v u s2 x y H2 I2 rx ry q => hr a b pins s2 σ H2 x y v u Q I2 rx ry q (hs _ _))

def rIxL (K : PySem.W.Frag) : R2 := fun x y H Q => ∃ p xs i v, x = .ref p ∧ y = .int i ∧ SqL K H p xs ∧ atI xs i = some v ∧ Q v H
def rIxT (K : PySem.W.Frag) : R2 := fun x y H Q => ∃ p xs i v, x = .ref p ∧ y = .int i ∧ SqT K H p xs ∧ atI xs i = some v ∧ Q v H
def rIxS : R2 := fun x y H Q => ∃ z i c, x = .str z ∧ y = .int i ∧ z.length ≤ sizeLine ∧ atI z.cps.toList i = some c ∧ Q (.str ⟨#[c]⟩) H
theorem ix_list : IxR X (rIxL X.K) := by
  intro value slice pins s σ H x y v u Q I rx ry h hs
  obtain ⟨p, xs, i, z, rfl, rfl, hq, he, q⟩ := h
  cases rx
  obtain ⟨t, rfl⟩ := ry
  obtain ⟨its, r, pl, hz⟩ := I.list hq
  obtain ⟨j, h1, h2, h3, h4, h5⟩ := atI_get he
  obtain ⟨w, ew, rw'⟩ := r.get h2
  have hl := r.length
  have hn := line63
  have fin : EP X pins σ Q w s := ⟨z, H, I, rw', q⟩
  by_cases h0 : 0 ≤ i
  · have hj : i.toNat = j := by
      rw [seqIndex_of h0 h5] at h1
      exact Option.some.inj h1
    exact item_listR pl.isList h0 (by walk_at "om") (by rw [hj]; simpa using ew) fin hs
  · have hj : (i + (its.toArray.size : Int)).toNat = j := by
      rw [seqIndex_neg (by walk_at "om") h4] at h1
      rw [List.size_toArray, ← hl]
      exact Option.some.inj h1
    exact subscriptTail_builtinR (x := w) pl.isList.typeIs slot_list_getitem.lookup
      (wpAny_getItem_list_neg (Q := fun r s' => r = w ∧ EP X pins σ Q r s') pl.isList (by walk_at "om") (by rw [List.size_toArray] <;> walk_at "om") (by walk_at "om") (by rw [hj]; simpa using ew) ⟨rfl, fin⟩) hs
theorem ix_tup : IxR X (rIxT X.K) := by
  intro value slice pins s σ H x y v u Q I rx ry h hs
  obtain ⟨p, xs, i, z, rfl, rfl, hq, he, q⟩ := h
  cases rx
  obtain ⟨t, rfl⟩ := ry
  obtain ⟨its, r, pl, hz⟩ := I.tuple hq
  obtain ⟨j, h1, h2, h3, h4, h5⟩ := atI_get he
  obtain ⟨w, ew, rw'⟩ := r.get h2
  have hl := r.length
  have hn := line63
  have fin : EP X pins σ Q w s := ⟨z, H, I, rw', q⟩
  exact subscriptTail_builtinR (x := w) pl.typeIs slot_tuple_getitem.lookup
    (getItem_tuple (j := j) (Q := fun r s' => r = w ∧ EP X pins σ Q r s') pl (by walk_at "om") (by walk_at "om") (by rw [List.size_toArray, ← hl]; exact h1) (by simpa using ew) ⟨rfl, fin⟩) hs
theorem ix_str : IxR X rIxS := by
  intro value slice pins s σ H x y v u Q I rx ry h hs
  obtain ⟨z, i, c, rfl, rfl, hz, he, q⟩ := h
  obtain ⟨t, rfl⟩ := rx
  obtain ⟨t', rfl⟩ := ry
  obtain ⟨j, h1, h2, h3, h4, h5⟩ := atI_get he
  have hl : z.cps.toList.length = z.length := by simp [Str.length]
  rw [hl] at h1 h4 h5
  have hn := line63
  exact tail_any (typeIs_str s z t) slot_str_getitem.lookup (getItem_str (c := c) (by
    have e1 : decide (i < -(2 ^ 63 : Int)) = false := decide_eq_false (by walk_at "om")
    have e2 : decide (i ≥ 2 ^ 63) = false := decide_eq_false (by walk_at "om")
    rw [e1, e2, Bool.or_false]) (by rw [h1]; simpa using h2) ⟨.str ⟨#[c]⟩, H, I.tok _, ⟨_, rfl⟩, q⟩) hs
/-- list, tuple or str -/
def rIx (K : PySem.W.Frag) : R2 := fun x y H Q => rIxL K x y H Q ∨ rIxT K x y H Q ∨ rIxS x y H Q
theorem ix_seq : IxR X (rIx X.K) := ix_list.or (ix_tup.or ix_str)

theorem call_len_seq : CallR X (.builtin "len") (fun xs H Q => ∃ p ys, xs = [.ref p] ∧ (SqL X.K H p ys ∨ SqT X.K H p ys) ∧ Q (.int ys.length) H) := by
  intro pins s σ H xs us Q I r h
  obtain ⟨p, ys, rfl, hq, q⟩ := h
  obtain ⟨u, rfl, rx⟩ := vals1 r
  cases rx
  have hn := line63
  rcases hq with hq | hq
  · obtain ⟨its, r', pl, hz⟩ := I.list hq
    have hlen := r'.length
    exact Calls.call_len_list pl.isList (by simp only [List.size_toArray] <;> walk_at "om") ⟨.int ys.length, H, I.tok _, ⟨s.toks + 1, by rw [List.size_toArray, hlen]⟩, q⟩
  · obtain ⟨its, r', pl, hz⟩ := I.tuple hq
    have hlen := r'.length
    exact len_tuple pl (by simp only [List.size_toArray] <;> walk_at "om") ⟨.int ys.length, H, I.tok _, ⟨s.toks + 1, by rw [List.size_toArray, hlen]⟩, q⟩
theorem call_tuple_of : CallR X (.type "tuple") (fun xs H Q => ∃ p ys, xs = [.ref p] ∧ ((SqL X.K H p ys ∧ ∀ l, H l = none → Q (.ref l) (upd H l (.tup ys))) ∨ (SqT X.K H p ys ∧ Q (.ref p) H))) := by
  intro pins s σ H xs us Q I r h
  obtain ⟨p, ys, rfl, h⟩ := h
  obtain ⟨u, rfl, rx⟩ := vals1 r
  cases rx
  rcases h with ⟨hq, q⟩ | ⟨hq, q⟩
  · obtain ⟨its, r', pl, hz⟩ := I.list hq
    have hlen := r'.length
    refine call_tuple_list pl.isList (fun h' kp => ?_) (by simp only [List.size_toArray] <;> walk_at "om")
    have I1 : Inv X pins σ H { s with heap := h' } := I.kept (t' := s.toks) kp
    have I2 : Inv X pins σ (upd H h'.objs.size (.tup ys)) { s with heap := h'.push { cls := .type "tuple", data := .seq its.toArray } } :=
      I1.laid (t' := s.toks) (fun b o e => Heap.get?_push_of_some _ e) (Nat.le_refl _) (show ObjOk X.prog X.w _ _ _ (.tup ys) from ⟨hz, its, r', IsTup.new _ _⟩)
    exact ⟨.ref h'.objs.size, _, I2, rfl, q _ (I1.hok.fresh (Nat.le_refl _))⟩
  · obtain ⟨its, r', pl, hz⟩ := I.tuple hq
    exact call_tuple_same pl ⟨.ref p, H, I, rfl, q⟩

/-- the value is of that builtin type -/
def tyV (K : PySem.W.Frag) (T : String) (x : V) (H : Hp) : Prop := match x with
  | .str _ => T = "str"
  | .int _ => T = "int"
  | .ref p => (T = "list" ∧ ∃ xs, SqL K H p xs) ∨ (T = "tuple" ∧ ∃ o, K.lookup p = some o ∧ o.cls = .type "tuple" ∧ o.dict = none) ∨
      (T = "dict" ∧ ((∃ kvs, H p = some (.dK kvs)) ∨ ∃ kvs, H p = some (.dT kvs))) ∨ (T = "set" ∧ ∃ S n, H p = some (.set S n))
  | _ => False
theorem tyV_is {pins : List (Addr × Obj)} {σ : St} {H : Hp} {s : Shared} {T : String} {x : V} {v : Value} (I : Inv X pins σ H s) (r : RelV x v) (ty : tyV X.K T x H) :
    s.TypeIs v T ∧ ∀ a, v = .ref a → ∃ ob, s.heap.get? a = some ob ∧ ob.dict = none := by
  cases x with
  | str z =>
    obtain ⟨t, rfl⟩ := r
    cases (show T = "str" from ty)
    exact ⟨typeIs_str s z t, fun _ e => nomatch e⟩
  | int i =>
    obtain ⟨t, rfl⟩ := r
    cases (show T = "int" from ty)
    exact ⟨typeIs_int s i t, fun _ e => nomatch e⟩
  | ref p =>
    cases r
    rcases ty with ⟨rfl, xs, hq⟩ | ⟨rfl, o, hk, hc, hd⟩ | ⟨rfl, hk⟩ | ⟨rfl, S, n, hk⟩
    · obtain ⟨its, _, pl, _⟩ := I.list hq
      refine ⟨pl.isList.typeIs, fun a e => ?_⟩
      cases e
      obtain ⟨o, n, e, c, hd, _⟩ := pl
      exact ⟨o, e, hd⟩
    · refine ⟨⟨o, I.kIn p o hk, hc⟩, fun a e => ?_⟩
      cases e
      exact ⟨o, I.kIn _ o hk, hd⟩
    · have z : ∃ o, s.heap.get? p = some o ∧ o.ExactDict := by
        rcases hk with ⟨kvs, hk⟩ | ⟨kvs, hk⟩
        · obtain ⟨_, _, _, _, o, _, _, e, ex, _⟩ := I.hok p _ hk
          exact ⟨o, e, ex⟩
        · obtain ⟨_, _, _, _, o, _, _, e, ex, _⟩ := I.hok p _ hk
          exact ⟨o, e, ex⟩
      obtain ⟨o, e, ex⟩ := z
      refine ⟨⟨o, e, ex.1⟩, fun a e2 => ?_⟩
      cases e2
      exact ⟨o, e, ex.2.1⟩
    · obtain ⟨o, _, _, _, e, ex, _⟩ := I.hok p _ hk
      refine ⟨⟨o, e, ex.1⟩, fun a e2 => ?_⟩
      cases e2
      exact ⟨o, e, ex.2.1⟩
  | _ => exact False.elim ty
def tBM0 (K : PySem.W.Frag) (T : String) (r : V → List V → Hp → VK → Prop) (to : TE) : TE := fun σ H Q => to σ H fun x H1 => tyV K T x H1 ∧ r x [] H1 Q
def tBM (K : PySem.W.Frag) (T : String) (r : V → List V → Hp → VK → Prop) (to : TE) (t : TA) : TE := fun σ H Q => to σ H fun x H1 => tyV K T x H1 ∧ t σ H1 fun xs H2 => r x xs H2 Q
variable {o e : Expr} {es : List Expr} {to : TE} {t : TA} {name : Str} {apos cpos : Pos} {T id : String} {r : V → List V → Hp → VK → Prop}
theorem pe_bm0 (pa : PlainAttrs T) (slot : Slot T name id) (hty : typeOf (.builtin id) = pure (.type "method_descriptor")) (hm : MtR X id r) (ho : PE X o to)
    (hbase : attributeBase o name X.env (eval o X.env) = eval o X.env := by rfl) (hline : (apos.endLine == cpos.line) = true := by rfl) : PE X (.Call (.Attribute o name apos) [] [] cpos) (tBM0 X.K T r to) := by
  intro pins s σ H Q I h
  refine wpAny_Call_method0_late hbase hline (thn (ho pins s σ H _ I h) fun v s1 ⟨x, H1, I1, r1, ty, q1⟩ => ?_)
  obtain ⟨h1, h2⟩ := tyV_is I1 r1 ty
  exact ⟨T, id, pa, slot, hty, h1, h2, Calls.callWith_builtin rfl (PySem.evalArgs_none (hm pins s1 σ H1 x [] v [] Q I1 r1 .nil q1))⟩
theorem pe_bm (pa : PlainAttrs T) (slot : Slot T name id) (hty : typeOf (.builtin id) = pure (.type "method_descriptor")) (hm : MtR X id r) (ho : PE X o to) (ha : PA X (e :: es) t)
    (hbase : attributeBase o name X.env (eval o X.env) = eval o X.env := by rfl)
    (hfew : ((backTo cpos (starEach (e :: es) X.env)).all (fun x => !x.1) && (backToKw cpos (keywordEach [] X.env)).all (fun x => x.1.isSome)
      && decide ((e :: es).length + ([] : List Keyword).length + (if ([] : List Keyword).isEmpty then 0 else 1) < 30)) = true := by rfl)
    (hline : (apos.endLine == cpos.line) = true := by rfl) (hs : starEach (e :: es) X.env = (false, eval e X.env) :: starEach es X.env := by rfl) (hplain : (backTo cpos (starEach es X.env)).any (·.1) = false := by rfl) :
    PE X (.Call (.Attribute o name apos) (e :: es) [] cpos) (tBM X.K T r to t) := by
  intro pins s σ H Q I h
  refine wpAny_Call_method_late hbase hfew hline rfl (thn (ho pins s σ H _ I h) fun v s1 ⟨x, H1, I1, r1, ty, q1⟩ => ?_)
  obtain ⟨h1, h2⟩ := tyV_is I1 r1 ty
  refine ⟨T, id, pa, slot, hty, h1, h2, ?_⟩
  have hA := ha cpos pins s1 σ H1 _ I1 q1
  rw [hs] at hA ⊢
  refine Calls.callWith_builtin (by show (false || (backTo cpos (starEach es X.env)).any (·.1)) = false; rw [hplain] <;> rfl) (Calls.evalArgs_plain ?_)
  exact thn hA fun us s2 ⟨vs, H2, I2, r2, q2⟩ => hm pins s2 σ H2 x vs v us Q I2 r1 r2 q2
/- xs.append(e), list.index on a module's tuple .. are MtR facts of 06m -/
end
end L2

namespace L2
open PySem PySem.Spec PyProof.Rows

def MtM (X : Cx) (id : String) (r : V → List V → Hp → VK → Prop) : Prop :=
  ∀ (pins : List (Addr × Obj)) (s : Shared) (σ : St) (H : Hp) (x : V) (xs : List V) (v : Value) (us : List Value) (Q : VK), Inv X pins σ H s → RelV x v → Vals xs us → r x xs H Q →
    wpAny (model X.prog X.w) X.A (call (.builtin id) (v :: us)) (EP X pins σ Q) X.xe s

theorem Vals.one : ∀ {x : V} {us : List Value}, Vals [x] us → ∃ u, us = [u] ∧ RelV x u
  | _, _, .cons r .nil => ⟨_, rfl, r⟩
theorem Vals.zero : ∀ {us : List Value}, Vals [] us → us = []
  | _, .nil => rfl
section
variable {X : Cx} {pins : List (Addr × Obj)} {σ : St} {H : Hp} {s : Shared} {l b : Addr} {xs ys zs : List V}

theorem Inv.lset {its its' : List Value} {n : Nat} {f : Array Value → Array Value} {t' : Nat} (I : Inv X pins σ H s) (hH : H l = some (.lst xs))
    (e : s.heap.get? l = some { cls := .type "list", data := .seq its.toArray n }) (hf : f its.toArray = its'.toArray) (hv : Vals ys its') (hz : ys.length ≤ sizeLine) :
    Inv X pins σ (upd H l (.lst ys)) { s with heap := s.heap.update l (Obj.mapSeq f), toks := t' } := by
  have q := PySem.IsL.update e f
  rw [hf] at q
  refine I.write (x := l) (e := l) (by rw [hH]; exact trivial) (.inl rfl) (fun b' u hb hu => (Heap.get?_update_other s.heap (Obj.mapSeq f) (Ne.symm hb)).trans hu) ⟨_, q⟩ ?_
  exact ⟨hz, its', _, hv, q⟩
theorem Inv.lnew {its : List Value} {t' : Nat} (I : Inv X pins σ H s) (hv : Vals ys its) (hz : ys.length ≤ sizeLine) :
    Inv X pins σ (upd H s.heap.objs.size (.lst ys)) { s with heap := s.heap.push { cls := .type "list", data := .seq its.toArray }, toks := t' } :=
  I.laid (fun _ _ q => Heap.get?_push_of_some _ q) (Nat.le_refl _) ⟨hz, its, 0, hv, Heap.get?_push_size _ rfl⟩
theorem Inv.fresh (I : Inv X pins σ H s) : H s.heap.objs.size = none := I.hok.fresh (Nat.le_refl _)
theorem Inv.lstM (I : Inv X pins σ H s) (hH : H l = some (.lst xs)) : xs.length ≤ sizeLine ∧ ∃ (its : List Value) (n : Nat), Vals xs its ∧ xs.length = its.length ∧ s.heap.get? l = some { cls := .type "list", data := .seq its.toArray n } := by
  obtain ⟨z, its, n, r, e⟩ := I.hok l _ hH
  exact ⟨z, its, n, r, r.length, e⟩

theorem notLongL {n : Nat} (h : n ≤ sizeLine) : Builtin.List.listTooLong n = false := by
  unfold Builtin.List.listTooLong
  exact decide_eq_false (by walk_at "om")
end

section
variable {X : Cx}

def rAppend : V → List V → Hp → VK → Prop := fun x vs H Q => ∃ l xs y, x = .ref l ∧ vs = [y] ∧ H l = some (.lst xs) ∧ xs.length < sizeLine ∧ Q .non (upd H l (.lst (xs ++ [y])))
theorem mt_append : MtM X "list.append" rAppend := by
  intro pins s σ H x vs v us Q I rx rv h
  obtain ⟨l, xs, y, rfl, rfl, hH, hz, q⟩ := h
  cases rx
  obtain ⟨u, rfl, ru⟩ := rv.one
  obtain ⟨z, its, n, r, hl, e⟩ := I.lstM hH
  refine call_meets F.slot_list_append ⟨_, e, rfl⟩ F.entry_list_append (F.args_list_append_2 _ _) (PySem.list_append l its.toArray n u (by rw [List.size_toArray]; walk_at "om")) ⟨e, ?_⟩
  refine ⟨.non, _, I.lset (its' := its ++ [u]) hH e (by simp) (r.append (.cons ru .nil)) ?_, rfl, q⟩
  rw [List.length_append, List.length_singleton]
  walk_at "om"

def rExtend : V → List V → Hp → VK → Prop := fun x vs H Q => ∃ l b xs zs, x = .ref l ∧ vs = [.ref b] ∧ H l = some (.lst xs) ∧ H b = some (.lst zs) ∧ xs.length + zs.length ≤ sizeLine ∧ Q .non (upd H l (.lst (xs ++ zs)))
theorem mt_extend : MtM X "list.extend" rExtend := by
  intro pins s σ H x vs v us Q I rx rv h
  obtain ⟨l, b, xs, zs, rfl, rfl, hH, hB, hz, q⟩ := h
  cases rx
  obtain ⟨u, rfl, ru⟩ := rv.one
  cases ru
  obtain ⟨z, its, n, r, hl, e⟩ := I.lstM hH
  obtain ⟨z2, its2, n2, r2, hl2, e2⟩ := I.lstM hB
  have hsz : its.toArray.size + its2.toArray.size ≤ sizeLine := by rw [List.size_toArray, List.size_toArray]; walk_at "om"
  have hlong : ¬ (!its.toArray.isEmpty && Builtin.List.listTooLong (its.toArray.size + its2.toArray.size)) = true := by
    rw [notLongL hsz, Bool.and_false]
    exact Bool.false_ne_true
  refine call_meets F.slot_list_extend ⟨_, e, rfl⟩ F.entry_list_extend (F.args_list_extend_2 _ _)
    (AutoSeq1.list_extend_list_list_0 l its.toArray n b its2.toArray n2 hlong (by rw [List.size_toArray]; walk_at "om") (by walk_at "om")) ⟨e, e2, ?_⟩
  refine ⟨.non, _, I.lset (its' := its ++ its2) hH e (by simp) (r.append r2) ?_, rfl, q⟩
  rw [List.length_append]
  walk_at "om"

def rClear : V → List V → Hp → VK → Prop := fun x vs H Q => ∃ l xs, x = .ref l ∧ vs = [] ∧ H l = some (.lst xs) ∧ Q .non (upd H l (.lst []))
theorem mt_clear : MtM X "list.clear" rClear := by
  intro pins s σ H x vs v us Q I rx rv h
  obtain ⟨l, xs, rfl, rfl, hH, q⟩ := h
  cases rx
  have hus := rv.zero
  subst hus
  obtain ⟨z, its, n, r, hl, e⟩ := I.lstM hH
  refine call_meets F.slot_list_clear ⟨_, e, rfl⟩ F.entry_list_clear (F.args_list_clear_1 _) (AutoSeq1.list_clear_list_0 l its.toArray n (by rw [List.size_toArray]; walk_at "om")) ⟨e, ?_⟩
  exact ⟨.non, _, I.lset (its' := []) (ys := []) hH e rfl .nil (Nat.zero_le _), rfl, q⟩

def rCat : R2 := fun x y H Q => ∃ l b xs zs, x = .ref l ∧ y = .ref b ∧ H l = some (.lst xs) ∧ H b = some (.lst zs) ∧ xs.length + zs.length ≤ sizeLine ∧ ∀ p, H p = none → Q (.ref p) (upd H p (.lst (xs ++ zs)))
theorem op_cat : OpR X (binaryOp .Add) rCat := by
  intro pins s σ H x y v u Q I rx ry h
  obtain ⟨l, b, xs, zs, rfl, rfl, hH, hB, hz, q⟩ := h
  cases rx
  cases ry
  obtain ⟨z, its, n, r, hl, e⟩ := I.lstM hH
  obtain ⟨z2, its2, n2, r2, hl2, e2⟩ := I.lstM hB
  refine PySem.P.add_list e e2 ?_ (by rw [List.size_toArray, List.size_toArray]; walk_at "om")
  have ea : its.toArray ++ its2.toArray = (its ++ its2).toArray := by simp
  rw [ea]
  exact ⟨.ref _, _, I.lnew (t' := s.toks) (r.append r2) (by rw [List.length_append]; walk_at "om"), rfl, q _ I.fresh⟩
end

section
variable {prog : Program} {w : World} {A : Around} {E : Value → Shared → Prop} {s : Shared}
end

section
variable {X : Cx}
end
end L2

namespace Att
open PySem PySem.W PySem.Calls PyProof.Rows

theorem ints_of_wellAll {P : Params} {h : Heap} : ∀ (ns : List Int) (vs : List Value), WellAll P h vs (ns.map WData.int) → IntsAre vs ns := by
  intro ns
  induction ns with
  | nil =>
    intro vs w
    rw [List.map_nil] at w
    cases w
    exact .nil
  | cons n ns ih =>
    intro vs w
    rw [List.map_cons] at w
    cases w with
    | cons a b =>
      cases a
      exact .cons _ _ (ih _ b)

theorem script_of {l : OpenLaw} {n : Nat} (hn : l.most = some n) {P : Params} {h : Heap} {args : List WData} {vals : List Value}
    (hpre : l.row.toRowW.claim.pre args = true) (hwl : WellAll P h vals args) :
    ∃ a vs ns, vals = [Value.ref a] ∧ args = [WData.list (ns.map WData.int)] ∧ h.get? a = some { cls := .type "list", data := .seq vs.toArray } ∧ IntsAre vs ns ∧ ns.length ≤ n := by
  have hsh : WShape.hasAll [] args [.list .int] = true := (pre_splitW hpre).1
  have hc : l.pre.holds [] { args := args } = true := (pre_splitW hpre).2
  obtain ⟨d, r, rfl, h1, h2⟩ := hasAllW_cons hsh
  obtain rfl := hasAllW_nil h2
  obtain ⟨xs, rfl, h3⟩ := hasW_list h1
  obtain ⟨ns, rfl⟩ := items_int h3
  have hlen : ns.length ≤ n := by
    unfold OpenLaw.pre at hc
    have h4 : (WTm.not (.lt (.lit (.int (n : Int))) (.len (.arg 0)))).holds [] { args := [.list (ns.map .int)] } = true := by
      have h4 := (holds_andW hc).1
      rw [hn] at h4
      exact h4
    have h5 := condW_of h4 (w_not (w_lt w_lit (w_len_list (w_arg rfl))))
    rw [List.length_map] at h5
    refine Nat.le_of_not_lt fun q => ?_
    have q' : (n : Int) < ((ns.length : Nat) : Int) := by walk_at "om"
    first
      | (rw [decide_eq_true q'] at h5; exact absurd h5 (by decide))
      | (simp at h5; walk_at "om")
  cases hwl with
  | cons w1 w2 =>
    cases w2
    cases w1 with
    | list ho hall => exact ⟨_, _, ns, rfl, rfl, ho, ints_of_wellAll ns _ hall, hlen⟩

theorem post_true (l : OpenLaw) (args : List WData) : l.row.toRowW.claim.post args (.bool true) args = true :=
  postW_of (r := l.row.toRowW) (X := (true == true))
    (show WShape.has [] (.bool true) .bool = true by first | rfl | decide | simp [WShape.has, WShape.arms, WShape.armsAll])
    (show (WTm.eq .res (.lit (.bool true))).value [] { args := args, res := some (.bool true), after := args } = some (.bool (true == true)) from w_eq_bool (w_res rfl) w_lit) rfl

/-- the same from a codeAny of the CALL (for a layer whose function contracts speak of calls) -/
theorem attach_call {l : OpenLaw} {n : Nat} {q : Program} {loose : List Str} {XP : (Str → Option Value) → Heap → Prop} {YP : World → Heap → Prop} {d : DefRec}
    (hn : l.most = some n) (hdf : d.params.defaults = [])
    (call : ∀ (w : World) (s₀ s₁ : Shared) (mg mb : Str → Option Value) (fa : Addr) (o : Obj) (pm cd doc : Value) (a : Addr) (vs : List Value) (ns : List Int),
      Ground q loose [] XP w s₀ mg mb s₁.heap → YP w s₁.heap →
      s₁.heap.get? fa = some o → o.data = .func (docDef d.name d.params d.body d.scope pm cd doc) → s₁.heap.CodeRec cd d.name → mg d.name = some (.ref fa) →
      s₁.heap.get? a = some { cls := .type "list", data := .seq vs.toArray } → IntsAre vs ns → ns.length ≤ n → s₁.gens = #[] →
      codeAny (model l.prog w) callerA (.call (.ref fa) ⟨[.ref a], []⟩) (fun r s' => r = .ok (.ret (.bool true)) ∧ OldK s₁.heap s'.heap ∧ s'.os = s₁.os ∧ AllBare s'.gens) s₁) :
    WalkO q loose XP YP l.row.toRowW d [] (fun f vs => PySem.call f vs) := by
  intro w s₀ s₁ mg mb G Y fa o pm cd doc dV kV ho hd hcd hD hmg hg args vals as hpre hlay hrd hwl hlo
  obtain rfl : dV = .none := Dflts.none hD hdf
  obtain rfl : kV = .none := Dflts.noKw hD
  obtain ⟨a, vs, ns, rfl, rfl, hobj, hints, hlen⟩ := script_of hn hpre hwl
  refine enter_call (codeAny_mono (call w s₀ s₁ mg mb fa o pm cd doc a vs ns G Y ho (fd_plain hd) hcd hmg hobj hints hlen hg) fun r s' hq => ?_)
  obtain ⟨rfl, h2, h3, h4⟩ := hq
  exact ⟨.inl ⟨.bool true, .bool true, [], rfl, fun _ => rfl, .bool true, post_true l _, fun _ => ⟨List.Pairwise.nil, fun _ hm => (nomatch hm)⟩⟩, h2, h3, h4⟩

section
variable {prog : Program} {w : World} {A : Around} {E : Value → Shared → Prop} {s : Shared} {K : Frag}

end
end Att

namespace L2
open PySem PySem.Spec PyProof.Rows

theorem vals_ints : ∀ {vs : List Value} {ns : List Int}, IntsAre vs ns → Vals (ns.map V.int) vs
  | _, _, .nil => .nil
  | _, _, .cons n t h => .cons ⟨t, rfl⟩ (vals_ints h)

/-- nothing is tracked but the script, known to the object (or it is an object of the module) -/
def Only (H : Hp) : Prop := ∀ b, H b = none ∨ ∃ o xs, H b = some (.frz o (.lst xs))

/-- THE HEAD: the law's promise, at the heap behind the top. F, the promise of the law's def, may use that base is part of the heap (so K.In base, base.Ns mainGlobals mg stand in Mod) -/
theorem law_call {P : Program} {w : World} {K : PySem.W.Frag} {mg mb : Str → Option Value} {CX : CXT} {k : Nat} {fa a : Addr} {fd : FuncData} {x : Str} {sp : Sp} {s₁ : Shared} {vs : List Value} {ns : List Int}
    (KX : K.In s₁.heap) (hns : s₁.heap.Ns mainGlobals mg) (hb : s₁.heap.Ns builtinsNs mb) (hbb : ∀ x : Str, x ≠ "__name__" → mb x = bootBuiltins x) (hlim : s₁.heap.NoLimit) (hg : s₁.gens = #[])
    (ha : s₁.heap.get? a = some { cls := .type "list", data := .seq vs.toArray }) (hi : IntsAre vs ns) (hl : ns.length ≤ sizeLine) (hr : Room k callerA)
    (F : ∀ base : Heap, K.In base → base.Ns mainGlobals mg → FnOk P w K mg base CX k fa fd [x] sp) (hbind : ∀ (s : Shared) (u : Value), BindsTo s fd ⟨[u], []⟩ [(x, u)])
    (hsp : ∀ H : Hp, Only H → SqL K H a (ns.map V.int) → sp [.ref a] H (fun v _ => v = .bl true) fun _ _ _ => False)
    (hCX : ∀ H e s', CX [] H s₁ (fun _ _ _ => False) e s' → False) :
    codeAny (model P w) callerA (.call (.ref fa) ⟨[.ref a], []⟩) (fun r s' => r = .ok (.ret (.bool true)) ∧ OldK s₁.heap s'.heap ∧ s'.os = s₁.os ∧ AllBare s'.gens) s₁ := by
  have rv := vals_ints hi
  have lenV := hi.length
  -- from an abstract heap in which nothing but the script may be tracked
  have core : ∀ H : Hp, Only H → SqL K H a (ns.map V.int) → HOk P w H s₁.heap → (∀ b, H b ≠ none → b = a) → (H a ≠ none → K.lookup a = none) →
      codeAny (model P w) callerA (.call (.ref fa) ⟨[.ref a], []⟩) (fun r s' => r = .ok (.ret (.bool true)) ∧ OldK s₁.heap s'.heap ∧ s'.os = s₁.os ∧ AllBare s'.gens) s₁ := by
    intro H hO hS hok hA hK
    have base_of : ∀ {b : Addr} {o : Obj}, s₁.heap.get? b = some o → H b = none → (hidT s₁.heap H).get? b = some o := fun e n => hidT_get e n
    have noA : ∀ {b : Addr} {o : Obj} {es : Array DictEntry} {ep : Nat}, s₁.heap.get? b = some o → o.data = .dict es ep → H b = none := fun {b o es ep} e d => by
      cases q : H b with
      | none => rfl
      | some u =>
        have e' : b = a := hA b (by rw [q]; simp)
        subst e'
        rw [ha] at e; cases e
        have d' : Data.seq vs.toArray _ = Data.dict es ep := d
        cases d'
    have nsK : ∀ {b : Addr} {m : Str → Option Value}, s₁.heap.Ns b m → (hidT s₁.heap H).Ns b m := fun {b m} ⟨o, es, ep, e, d, r⟩ => ⟨o, es, ep, base_of e (noA e d), d, r⟩
    have hKb : K.In (hidT s₁.heap H) := fun b o e => base_of (KX b o e) (by
      cases q : H b with
      | none => rfl
      | some u =>
        have e' : b = a := hA b (by rw [q]; simp)
        subst e'
        rw [hK (by rw [q]; simp)] at e; cases e)
    have hM : Mod K mg (hidT s₁.heap H) := ⟨hKb, nsK hns, ⟨mb, nsK hb, hbb⟩, let ⟨mc, h1, h2⟩ := hlim; ⟨mc, nsK h1, h2⟩⟩
    have e0 : Env0 P w K mg (hidT s₁.heap H) callerA [] s₁ H := ⟨rfl, hM, fun b o e => of_hidT e, Nat.le_of_eq (hidT_size _ _), trivial, fun b hb => absurd (show b ∈ ([] : List Addr) from hb) (by simp), hok, .of_eq hg⟩
    refine codeAny_mono ((F _ hKb (nsK hns)).run callerA [] s₁ H ⟨[.ref a], []⟩ [.ref a] [.ref a] _ _ hr e0 (hbind s₁ (.ref a)) (.cons rfl .nil) (hsp H hO hS)) fun r s' h => ?_
    cases r with
    | error e => exact (hCX H e s' h).elim
    | ok fl =>
      cases fl with
      | next => exact False.elim h
      | brk => exact False.elim h
      | cont => exact False.elim h
      | ret u =>
        obtain ⟨v, H', os, bare, un, hok', r', q⟩ := h
        have q' : v = .bl true := q
        subst q'
        obtain rfl : u = Value.bool true := r'
        refine ⟨rfl, OldK.of_keep fun b o e => ?_, os, bare⟩
        cases q : H b with
        | none => exact un.keep b o e q (by intro z; exact absurd (show b ∈ ([] : List Addr) from z) (by simp)) (by simp)
        | some u =>
          rcases hO b with z | ⟨ob, xs, z⟩
          · rw [q] at z; cases z
          · have z2 := un.frzs b ob _ z
            obtain ⟨e1, _⟩ := hok b _ z
            obtain ⟨e2, _⟩ := hok' b _ z2
            rw [e] at e1; cases e1
            exact e2
  cases hk : K.lookup a with
  | some o =>
    -- the script is one of the module's own objects
    have e := KX a o hk
    rw [ha] at e
    cases e
    refine core (fun _ => none) (fun _ => .inl rfl) (.inr ⟨_, vs.toArray, _, hk, rfl, rfl, rfl, by rw [List.size_toArray, lenV]; exact hl, by simpa using rv⟩) (fun b u z => by have z' : (none : Option HO) = some u := z; cases z') (fun b z => absurd rfl z) fun z => absurd rfl z
  | none =>
    refine core (fun b => if b = a then some (.frz { cls := .type "list", data := .seq vs.toArray } (.lst (ns.map V.int))) else none) (fun b => ?_) (.inl (.inr ⟨{ cls := .type "list", data := .seq vs.toArray }, if_pos rfl⟩)) (fun b u z => ?_) (fun b z => ?_) fun _ => hk
    · by_cases hb : b = a
      · exact .inr ⟨_, _, if_pos hb⟩
      · exact .inl (if_neg hb)
    · by_cases hb : b = a
      · have z' := (if_pos hb).symm.trans z
        cases z'
        subst hb
        exact ⟨ha, by rw [List.length_map]; exact hl, vs, _, rv, ha⟩
      · have z' := (if_neg hb).symm.trans z
        cases z'
    · by_cases hb : b = a
      · exact hb
      · exact absurd (if_neg hb) z
end L2

namespace L2
open PySem PySem.Spec PyProof.Rows

/-- the goal that k_head leaves (case hc), from the law's promise. F gives the function object fd (K's own) once, then the promise over every base -/
theorem walk_of {l : PySem.W.OpenLaw} {n k : Nat} {q : Program} {loose : List Str} {XP : (Str → Option Value) → Heap → Prop} {YP : World → Heap → Prop} {d : DefRec} {K : Params → PySem.W.Frag} {CX : World → CXT} {sp : World → Sp} {x : Str}
    (hn : l.most = some n) (hn2 : n ≤ sizeLine) (hdf : d.params.defaults = []) (hr : Room k callerA)
    (hY : ∀ (w : World) (h : Heap), YP w h → (K w.params).In h)
    (F : ∀ (w : World) (mg : Str → Option Value) (fa : Addr) (h : Heap), (K w.params).In h → h.Ns mainGlobals mg → mg d.name = some (.ref fa) →
      ∃ fd : FuncData, (∀ (s : Shared) (u : Value), BindsTo s fd ⟨[u], []⟩ [(x, u)]) ∧
        ∀ base : Heap, (K w.params).In base → base.Ns mainGlobals mg → FnOk l.prog w (K w.params) mg base (CX w) k fa fd [x] (sp w))
    (hsp : ∀ (w : World) (H : Hp) (a : Addr) (ns : List Int), ns.length ≤ n → Only H → SqL (K w.params) H a (ns.map V.int) → sp w [.ref a] H (fun v _ => v = .bl true) fun _ _ _ => False)
    (hCX : ∀ (w : World) (H : Hp) (s : Shared) (e : Value) (s' : Shared), CX w [] H s (fun _ _ _ => False) e s' → False) :
    PySem.W.WalkO q loose XP YP l.row.toRowW d [] (fun f vs => PySem.call f vs) := by
  refine Att.attach_call hn hdf fun w s₀ s₁ mg mb fa o pm cd doc a vs ns G Y ho hd hcd hmg hobj hints hlen hg => ?_
  have KX := hY w _ Y
  obtain ⟨fd, hb, hF⟩ := F w mg fa _ KX G.T.g hmg
  exact law_call KX G.T.g G.T.b G.T.builtins G.T.nolimit hg hobj hints (Nat.le_trans hlen hn2) hr hF hb (fun H hO hS => hsp w H a ns hlen hO hS) fun H e s' => hCX w H s₁ e s'
end L2

/- THE LAST THEOREM (shape; LID, My.* are yours):
   My.Adr: a structure of the addresses that your layer names (classes, functions); My.Txt K t: a structure (Prop) of the equations over K;
   My.txt_mk : {K} {implicit addresses ..} (e1 : nsIn K mainGlobals "law" = some (some (.ref f))) (e2 : K.lookup f = some ⟨oc, od, .func (fnOf "law" "law" params body scope dV kV doc pm an cdv ct), sl⟩) (e3 : codeIn K cdv "law" = true) .. : ∃ t, My.Txt K t

set_option maxRecDepth 100000 in
set_option maxHeartbeats 0 in
theorem PySem.Challenge.cw_LID_holds : PySem.Challenge.rw_LID.Holds := by
  w_on; o_law; k_head; (case hw => w_witness2)
  k_fill
  refine L2.walk_of (l := PySem.Challenge.rw_LID) (n := 63) (k := 40) (x := "script") (CX := fun w => ..) (sp := fun _ => My.sp_law) rfl (by decide) rfl ⟨rfl, by decide, by decide⟩ (fun w h Y => PySem.W.kIn_of Y) ?F ?S ?C
  case F =>
    intro w mg fa h KX G hmg
    have T : ∃ t, My.Txt (L2.KOf KX) t := by
      dsimp only [L2.KOf]                          -- K must stand as «<heap const> w.params» for k_is
      refine' My.txt_mk ?e1 ?e2 ?e3 ..
      (case e1 => PySem.W.k_is)                    -- in the order: a name -> its address -> its object -> its parts
      (case e2 => PySem.W.k_is)
      ..
    obtain ⟨t, T⟩ := T
    have e0 := hmg.symm.trans (PySem.W.mg_of KX G T.law)
    cases e0                                       -- fa is the law's own address
    exact ⟨_, fun s u => .of_eq rfl, fun base kb nb => My.law_fn T kb nb⟩     -- if «.of_eq rfl» comes too early: refine' ⟨_, ?b, fun base kb nb => My.law_fn T kb nb⟩; exact fun s u => .of_eq rfl
  case S => exact fun w H a ns hl hO hS => ..
  case C => exact ..
(the tactic k_is has no namespace: write k_is) -/

namespace L2
open PySem PySem.Spec PyProof.Rows

def defArgs (s : Stmt) : Arguments := match s with
  | .FunctionDef _ a _ _ _ _ _ _ _ _ => a
  | _ => { posonlyargs := [], args := [], vararg := none, kwonlyargs := [], kw_defaults := [], kwarg := none, defaults := [] }
def defBody (s : Stmt) : List Stmt := match s with
  | .FunctionDef _ _ b _ _ _ _ _ _ _ => b
  | _ => []
def defScope (s : Stmt) : Scope := match s with
  | .FunctionDef _ _ _ _ _ _ sc _ _ _ => sc
  | _ => { kind := .function, names := [], isGenerator := false, isCoroutine := false }

abbrev CX0 : CXT := fun _ _ _ _ _ _ => False
abbrev E0 : XK := fun _ _ _ => False
theorem pass0 {X : Cx} : Passes CX0 X E0 := fun _ _ _ _ _ _ _ h => h.elim

structure Fun (K : PySem.W.Frag) (x qual : Str) (st : Stmt) (f : Addr) (fd : FuncData) : Prop where
  ex : ∃ (oc : Value) (od : Option Addr) (kV doc pm : Value) (an : Option Addr) (cdv ct : Value) (osl : Array (Option Value)),
    fd = PySem.W.fnOf x qual (defArgs st) (defBody st) (defScope st) .none kV doc pm an cdv ct ∧ K.lookup f = some ⟨oc, od, .func fd, osl⟩ ∧ PySem.W.codeIn K cdv qual = true
  kp : PySem.W.keepIn K (.ref f) = true
section
variable {P : Program} {w : World} {K : PySem.W.Frag} {mg : Str → Option Value} {base : Heap}
/-- THE RULE for a def: its body as a term of rules, and the reading of that term -/
theorem Fun.ok {x qual : Str} {st : Stmt} {f : Addr} {fd : FuncData} {N ps : List Str} {k : Nat} {sp : Sp} (F : Fun K x qual st f fd) (S : FnScope N ps (defScope st)) (len : ∀ vs H Q E, sp vs H Q E → vs.length = ps.length)
    (hbody : ∀ (cdv : Value) (A : Around) (outer : List Env) (s : Shared) (H : Hp) (vs : List V) (Q : VK) (E : XK), Room k (A.deeper (envOfC qual (defScope st) s.heap.objs.size f cdv)) → sp vs H Q E →
      ∃ t, PSs (cxOf CX0 P w K mg base N qual (defScope st) f cdv A outer s H E).nox (defBody st) t ∧ t { nx := fun _ H' => Q .non H', rt := Q } (start N vs) H) : FnOk P w K mg base CX0 (k + 1) f fd ps sp := by
  obtain ⟨oc, od, kV, doc, pm, an, cdv, ct, osl, rfl, lk, hcd⟩ := F.ex
  refine fn_of lk hcd S len fun A outer s H vs Q E hr hsp => ?_
  obtain ⟨t, h, q⟩ := hbody cdv A outer s H vs Q E hr hsp
  exact ⟨t, h.nox, q⟩
/-- how its arguments bind (no defaults): h is «fun _ _ _ _ _ _ us hl => match us, hl with | [_, _], _ => rfl», one _ a parameter -/
theorem Fun.binds {x qual : Str} {st : Stmt} {f : Addr} {fd : FuncData} {ps : List Str} (F : Fun K x qual st f fd)
    (h : ∀ (kV doc pm : Value) (an : Option Addr) (cdv ct : Value) (us : List Value), us.length = ps.length → bindArgs (PySem.W.fnOf x qual (defArgs st) (defBody st) (defScope st) .none kV doc pm an cdv ct) ⟨us, []⟩ = pure (ps.zip us)) : Binds K fd ps [] := by
  obtain ⟨oc, od, kV, doc, pm, an, cdv, ct, osl, rfl, lk, hcd⟩ := F.ex
  exact .all (h kV doc pm an cdv ct)
theorem fun_mk {x qual : Str} {st : Stmt} {f : Addr} {oc : Value} {od an : Option Addr} {osl : Array (Option Value)} {kV doc pm cdv ct : Value} (l : K.lookup f = some ⟨oc, od, .func (PySem.W.fnOf x qual (defArgs st) (defBody st) (defScope st) .none kV doc pm an cdv ct), osl⟩)
    (c : PySem.W.codeIn K cdv qual = true) (k : PySem.W.keepIn K (.ref f) = true) : Fun K x qual st f (PySem.W.fnOf x qual (defArgs st) (defBody st) (defScope st) .none kV doc pm an cdv ct) := ⟨⟨oc, od, kV, doc, pm, an, cdv, ct, osl, rfl, l, c⟩, k⟩
end
theorem small1000 {n : Nat} (h : n ≤ 1000) : n < sizeLine := Nat.lt_of_le_of_lt h (by decide)

section
variable {X : Cx}
theorem pv (i : Nat) {x : Str} {pos : Pos} (hN : X.N[i]? = some x := by rfl) (hv : Vis X.env.scope x := by first | exact Or.inl rfl | exact Or.inr (Or.inl rfl) | exact Or.inr (Or.inr rfl)) (hd : (x == ("__debug__" : Str)) = false := by decide)
    (hcd : (x == ("__classdict__" : Str)) = false := by decide) : PE X (.Name x pos) (tVar i) := pe_var hN hv hd hcd
end

theorem iteF {A B : Prop} (h : B) : if false = true then A else B := by
  rw [if_neg Bool.false_ne_true]
  exact h
theorem iteT {A B : Prop} (h : A) : if true = true then A else B := by
  rw [if_pos rfl]
  exact h
/-- all that was tracked is as it was -/
def Same (H H' : Hp) : Prop := ∀ b o, H b = some o → H' b = some o
theorem Same.refl (H : Hp) : Same H H := fun _ _ h => h
theorem Same.trans {H H1 H2 : Hp} (a : Same H H1) (b : Same H1 H2) : Same H H2 := fun c o h => b c o (a c o h)
theorem Same.free {H H' : Hp} (e : Same H H') {l : Addr} (h : H' l = Option.none) : H l = Option.none := by
  cases q : H l with
  | none => rfl
  | some o =>
    rw [e l o q] at h
    cases h
theorem Same.seq {K : PySem.W.Frag} {H H' : Hp} {a : Addr} {xs : List V} (e : Same H H') (h : SqL K H a xs) : SqL K H' a xs := by
  rcases h with (h | ⟨o, h⟩) | h
  · exact .inl (.inl (e _ _ h))
  · exact .inl (.inr ⟨o, e _ _ h⟩)
  · exact .inr h

end L2

namespace L2
open PySem PySem.Spec PyProof.Rows

section
variable {κ : Type} [DecidableEq κ]
def valV (kvs : List (κ × V)) (k : κ) : Option V := (kvs.find? fun kv => decide (kv.1 = k)).map (·.2)
/-- in its place, or at the end -/
def putK (kvs : List (κ × V)) (k : κ) (v : V) : List (κ × V) :=
  if (kvs.any fun kv => decide (kv.1 = k)) = true then kvs.map (fun kv => if kv.1 = k then (kv.1, v) else kv) else kvs ++ [(k, v)]
theorem valV_pos {p : κ × V} {r : List (κ × V)} {k : κ} (e : p.1 = k) : valV (p :: r) k = some p.2 := by simp [valV, List.find?_cons, e]
theorem valV_neg {p : κ × V} {r : List (κ × V)} {k : κ} (e : ¬ p.1 = k) : valV (p :: r) k = valV r k := by simp [valV, List.find?_cons, e]
theorem valV_any (k : κ) : ∀ kvs : List (κ × V), (kvs.any fun kv => decide (kv.1 = k)) = (valV kvs k).isSome
  | [] => rfl
  | p :: r => by
    rw [List.any_cons]
    by_cases e : p.1 = k
    · simp only [valV_pos e, decide_eq_true e, Bool.true_or, Option.isSome_some]
    · rw [valV_neg e, decide_eq_false e, Bool.false_or]; exact valV_any k r
theorem valV_map (k j : κ) (y : V) : ∀ kvs : List (κ × V), valV (kvs.map fun kv => if kv.1 = k then (kv.1, y) else kv) j = (valV kvs j).map fun x => if j = k then y else x
  | [] => rfl
  | p :: r => by
    have ih := valV_map k j y r
    rw [List.map_cons]
    by_cases h : p.1 = k
    · rw [if_pos h]
      by_cases e : p.1 = j
      · rw [valV_pos (p := (p.1, y)) e, valV_pos e, Option.map_some, if_pos (e.symm.trans h)]
      · rw [valV_neg (p := (p.1, y)) e, valV_neg e, ih]
    · rw [if_neg h]
      by_cases e : p.1 = j
      · rw [valV_pos (p := p) e, valV_pos e, Option.map_some, if_neg (fun z => h (e.trans z))]
      · rw [valV_neg (p := p) e, valV_neg e, ih]
theorem valV_snoc (k j : κ) (y : V) : ∀ kvs : List (κ × V), valV kvs k = none → valV (kvs ++ [(k, y)]) j = if j = k then some y else valV kvs j
  | [], _ => by
    by_cases e : k = j
    · rw [if_pos e.symm]; exact valV_pos (p := (k, y)) e
    · rw [if_neg (fun z => e z.symm)]; exact valV_neg (p := (k, y)) e
  | p :: r, hn => by
    rw [List.cons_append]
    have hk : ¬ p.1 = k := fun z => by rw [valV_pos z] at hn; cases hn
    rw [valV_neg hk] at hn
    have ih := valV_snoc k j y r hn
    by_cases e : p.1 = j
    · rw [valV_pos e, valV_pos e, if_neg (fun z => hk (e.trans z))]
    · rw [valV_neg e, valV_neg e, ih]
theorem valV_put (kvs : List (κ × V)) (k j : κ) (y : V) : valV (putK kvs k y) j = if j = k then some y else valV kvs j := by
  unfold putK
  by_cases a : (kvs.any fun kv => decide (kv.1 = k)) = true
  · rw [if_pos a, valV_map]
    rw [valV_any] at a
    by_cases e : j = k
    · obtain ⟨x, hx⟩ := Option.isSome_iff_exists.mp a
      rw [if_pos e, e, hx, Option.map_some, if_pos rfl]
    · rw [if_neg e]
      cases valV kvs j with
      | none => rfl
      | some x => rw [Option.map_some, if_neg e]
  · rw [if_neg a]
    refine valV_snoc k j y kvs ?_
    rw [valV_any] at a
    cases q : valV kvs k with
    | none => rfl
    | some x => rw [q] at a; exact (a rfl).elim
theorem length_putK (kvs : List (κ × V)) (k : κ) (v : V) : (putK kvs k v).length ≤ kvs.length + 1 := by
  unfold putK
  split
  · rw [List.length_map]; walk_at "om"
  · rw [List.length_append, List.length_cons, List.length_nil]; walk_at "om"
theorem RelO.isSome_eq {o : Option V} {u : Option Value} (r : RelO o u) : o.isSome = u.isSome := by
  cases o with
  | none => cases u with
    | none => rfl
    | some _ => exact (show False from r).elim
  | some _ => cases u with
    | none => exact (show False from r).elim
    | some _ => rfl
/-- raw tables of the same keys -/
theorem KV.val {kvs : List (κ × V)} {vs : List (κ × Value)} (r : KV kvs vs) (k : κ) : RelO (valV kvs k) (valueAt vs k) := by
  unfold KV at r
  induction r with
  | nil => exact True.intro
  | @cons p q ps qs h t ih =>
    obtain ⟨h1, h2⟩ := h
    by_cases e : p.1 = k
    · have e' : q.1 = k := h1.symm.trans e
      have b : valueAt (q :: qs) k = some q.2 := by simp [valueAt, List.find?_cons, e']
      rw [valV_pos e, b]; exact h2
    · have e' : ¬ q.1 = k := fun z => e (h1.trans z)
      have b : valueAt (q :: qs) k = valueAt qs k := by simp [valueAt, List.find?_cons, e']
      rw [valV_neg e, b]; exact ih
theorem KV.any {kvs : List (κ × V)} {vs : List (κ × Value)} (r : KV kvs vs) (k : κ) : (kvs.any fun kv => decide (kv.1 = k)) = vs.any fun kv => decide (kv.1 = k) := by
  unfold KV at r
  induction r with
  | nil => rfl
  | cons h t ih => rw [List.any_cons, List.any_cons, ih, h.1]
theorem KV.repl {kvs : List (κ × V)} {vs : List (κ × Value)} (r : KV kvs vs) (k : κ) {y : V} {u : Value} (ry : RelV y u) :
    KV (kvs.map fun kv => if kv.1 = k then (kv.1, y) else kv) (vs.map fun kv => if kv.1 = k then (kv.1, u) else kv) := by
  unfold KV at r ⊢
  induction r with
  | nil => exact .nil
  | @cons p q ps qs h t ih =>
    rw [List.map_cons, List.map_cons]
    refine .cons ?_ ih
    obtain ⟨h1, h2⟩ := h
    by_cases e : p.1 = k
    · rw [if_pos e, if_pos (h1.symm.trans e)]; exact ⟨h1, ry⟩
    · rw [if_neg e, if_neg (fun z => e (h1.trans z))]; exact ⟨h1, h2⟩
theorem KV.put {kvs : List (κ × V)} {vs : List (κ × Value)} (r : KV kvs vs) (k : κ) {y : V} {u : Value} (ry : RelV y u) : KV (putK kvs k y) (stored vs k u) := by
  unfold putK stored
  rw [r.any k]
  by_cases e : (vs.any fun kv => decide (kv.1 = k)) = true
  · rw [if_pos e, if_pos e]; exact r.repl k ry
  · rw [if_neg e, if_neg e]; exact Paired.snoc r ⟨rfl, ry⟩
theorem KV.keys {kvs : List (κ × V)} {vs : List (κ × Value)} (r : KV kvs vs) : kvs.map (·.1) = vs.map (·.1) := by
  unfold KV at r
  induction r with
  | nil => rfl
  | cons h t ih => rw [List.map_cons, List.map_cons, ih, h.1]
theorem KV.length {kvs : List (κ × V)} {vs : List (κ × Value)} (r : KV kvs vs) : kvs.length = vs.length := Paired.length r
end


theorem kV_is {P : Program} {w : World} {k : Key} {u : Value} (r : RelV (kV k) u) : (mixKind P w).is k u = true := by
  cases k with
  | inl i => obtain ⟨t, e⟩ := (show ∃ t, u = Value.int i t from r); subst e; exact mixKind_int P w i t
  | inr x => obtain ⟨t, e⟩ := (show ∃ t, u = Value.str x t from r); subst e; exact mixKind_str P w x t
theorem items_are {P : Program} {w : World} : ∀ {ks : List Key} {us : List Value}, Vals (ks.map kV) us → ItemsAre (mixKind P w) ks us
  | [], _, r => by rw [List.map_nil] at r; cases r; exact .nil
  | k :: ks, _, r => by
    rw [List.map_cons] at r
    cases r with
    | cons h t => exact .cons (kV_is h) (items_are t)

/-- raw entries of a dict with tuple keys -/
abbrev KT (H : Hp) : List (List Key × V) → List (List Key × Addr × Value) → Prop := Paired fun p q => p.1 = q.1 ∧ H q.2.1 = some (.tup (p.1.map kV)) ∧ RelV p.2 q.2.2
theorem KT.val {H : Hp} {kvs : List (List Key × V)} {xs : List (List Key × Addr × Value)} (r : KT H kvs xs) (k : List Key) : RelO (valV kvs k) ((atKey xs k).map (·.2)) := by
  induction r with
  | nil => exact True.intro
  | @cons p q ps qs h t ih =>
    obtain ⟨h1, _, h2⟩ := h
    by_cases e : p.1 = k
    · have e' : q.1 = k := h1.symm.trans e
      have b : atKey (q :: qs) k = some q.2 := by simp [atKey, List.find?_cons, e']
      rw [valV_pos e, b]; exact h2
    · have e' : ¬ q.1 = k := fun z => e (h1.trans z)
      have b : atKey (q :: qs) k = atKey qs k := by simp [atKey, List.find?_cons, e']
      rw [valV_neg e, b]; exact ih
theorem KT.repl {H : Hp} {kvs : List (List Key × V)} {xs : List (List Key × Addr × Value)} (r : KT H kvs xs) (k : List Key) {y : V} {u : Value} (ry : RelV y u) :
    KT H (kvs.map fun kv => if kv.1 = k then (kv.1, y) else kv) (xs.map (putAt k u)) := by
  induction r with
  | nil => exact .nil
  | @cons p q ps qs h t ih =>
    rw [List.map_cons, List.map_cons]
    refine .cons ?_ ih
    obtain ⟨h1, h2, h3⟩ := h
    unfold putAt
    by_cases e : p.1 = k
    · rw [if_pos e, if_pos (h1.symm.trans e)]; exact ⟨h1, h2, ry⟩
    · rw [if_neg e, if_neg (fun z => e (h1.trans z))]; exact ⟨h1, h2, h3⟩
theorem KT.put {H : Hp} {kvs : List (List Key × V)} {xs : List (List Key × Addr × Value)} (r : KT H kvs xs) (k : List Key) {b : Addr} {y : V} {u : Value} (hb : H b = some (.tup (k.map kV))) (ry : RelV y u) :
    KT H (putK kvs k y) (storedH xs k b u) := by
  have e : (kvs.any fun kv => decide (kv.1 = k)) = (atKey xs k).isSome := by
    rw [valV_any, (r.val k).isSome_eq, Option.isSome_map]
  unfold putK storedH
  rw [e]
  by_cases q : (atKey xs k).isSome = true
  · rw [if_pos q, if_pos q]; exact r.repl k ry
  · rw [if_neg q, if_neg q]; exact Paired.snoc r ⟨rfl, hb, ry⟩
theorem KT.keeps {H H' : Hp} {kvs : List (List Key × V)} {xs : List (List Key × Addr × Value)} (r : KT H kvs xs) (ht : ∀ b ys, H b = some (.tup ys) → H' b = some (.tup ys)) : KT H' kvs xs :=
  Paired.mapP r fun _ _ z => ⟨z.1, ht _ _ z.2.1, z.2.2⟩

section
variable {P : Program} {w : World} {H : Hp} {h : Heap} {a : Addr}
theorem rd_of {u : HO} (ok : HOk P w H h) (e : Rd H a u) : ObjOk P w H h a u := e.ok ok
theorem dk_rd {kvs : List (Key × V)} (ok : HOk P w H h) (e : Rd H a (.dK kvs)) : kvs.length ≤ sizeLine ∧ (a == sysModules) = false ∧ ∃ vs, KV kvs vs ∧ h.DictOf (mixKind P w) a vs :=
  show ObjOk P w H h a (.dK kvs) from rd_of ok e
theorem dk_of {kvs : List (Key × V)} (ok : HOk P w H h) (e : H a = some (.dK kvs)) : kvs.length ≤ sizeLine ∧ (a == sysModules) = false ∧ ∃ vs, KV kvs vs ∧ h.DictOf (mixKind P w) a vs := dk_rd ok (.inl e)
/-- a tracked tuple of ints and texts is a key -/
theorem key_of {ks : List Key} (ok : HOk P w H h) (e : H a = some (.tup (ks.map kV))) : (tupleKind (mixKind P w)).is h ks a := by
  obtain ⟨_, its, r, o, h1, h2, n, h3⟩ := (show ObjOk P w H h a (.tup (ks.map kV)) from ok a _ e)
  exact ⟨o, its.toArray, n, h1, h2, h3, by simpa using items_are r⟩
theorem dt_rd {kvs : List (List Key × V)} (ok : HOk P w H h) (e : Rd H a (.dT kvs)) : kvs.length ≤ sizeLine ∧ (a == sysModules) = false ∧
    ∃ xs, KT H kvs xs ∧ h.DictOfH (tupleKind (mixKind P w)) a xs := by
  obtain ⟨z, y, xs, r, o, es, ep, h1, h2, h3, h4, h5⟩ := (show ObjOk P w H h a (.dT kvs) from rd_of ok e)
  refine ⟨z, y, xs, r, o, es, ep, h1, h2, h3, h4, fun x hx => ?_, h5⟩
  have all : ∀ {l : List (List Key × V)} {m : List (List Key × Addr × Value)}, KT H l m → ∀ x ∈ m, (tupleKind (mixKind P w)).is h x.1 x.2.1 := by
    intro l m q
    induction q with
    | nil => intro x hx; exact nomatch hx
    | @cons p q ps qs hq t ih =>
      intro x hx
      rcases List.mem_cons.mp hx with e | hx
      · subst e
        exact key_of ok (by rw [← hq.1]; exact hq.2.1)
      · exact ih x hx
  exact all r x hx
theorem dt_of {kvs : List (List Key × V)} (ok : HOk P w H h) (e : H a = some (.dT kvs)) : kvs.length ≤ sizeLine ∧ (a == sysModules) = false ∧
    ∃ xs, KT H kvs xs ∧ h.DictOfH (tupleKind (mixKind P w)) a xs := dt_rd ok (.inl e)
end

/-- what the dict at a holds at the key y -/
def DGet (H : Hp) (a : Addr) (y : V) (r : Option V) : Prop :=
  (∃ kvs k, Rd H a (.dK kvs) ∧ y = kV k ∧ r = valV kvs k) ∨ ∃ kvs k b, Rd H a (.dT kvs) ∧ y = .ref b ∧ H b = some (.tup (k.map kV)) ∧ r = valV kvs k
/-- the heap behind a[y] = v -/
def DPut (H : Hp) (a : Addr) (y v : V) (H' : Hp) : Prop :=
  (∃ kvs k, H a = some (.dK kvs) ∧ y = kV k ∧ kvs.length < sizeLine ∧ H' = upd H a (.dK (putK kvs k v))) ∨
  ∃ kvs k b, H a = some (.dT kvs) ∧ y = .ref b ∧ H b = some (.tup (k.map kV)) ∧ kvs.length < sizeLine ∧ H' = upd H a (.dT (putK kvs k v))
theorem DGet.k {H : Hp} {a : Addr} {kvs : List (Key × V)} {k : Key} (e : H a = some (.dK kvs)) : DGet H a (kV k) (valV kvs k) := .inl ⟨kvs, k, .inl e, rfl, rfl⟩
theorem DGet.t {H : Hp} {a b : Addr} {kvs : List (List Key × V)} {k : List Key} (e : H a = some (.dT kvs)) (eb : H b = some (.tup (k.map kV))) : DGet H a (.ref b) (valV kvs k) := .inr ⟨kvs, k, b, .inl e, rfl, eb, rfl⟩
theorem DPut.k {H : Hp} {a : Addr} {kvs : List (Key × V)} {k : Key} {v : V} (e : H a = some (.dK kvs)) (hl : kvs.length < sizeLine) : DPut H a (kV k) v (upd H a (.dK (putK kvs k v))) := .inl ⟨kvs, k, e, rfl, hl, rfl⟩
theorem DPut.t {H : Hp} {a b : Addr} {kvs : List (List Key × V)} {k : List Key} {v : V} (e : H a = some (.dT kvs)) (eb : H b = some (.tup (k.map kV))) (hl : kvs.length < sizeLine) :
    DPut H a (.ref b) v (upd H a (.dT (putK kvs k v))) := .inr ⟨kvs, k, b, e, rfl, eb, hl, rfl⟩


section
variable {X : Cx} {pins : List (Addr × Obj)} {σ : St} {H : Hp} {s : Shared} {a : Addr} {y v : V} {u r : Value} {o : Option V} {A : Around} {E : Value → Shared → Prop}

theorem Inv.big (I : Inv X pins σ H s) : sysModules < s.heap.objs.size := by
  have h : mainGlobals < s.heap.objs.size := (I.mod.glob.keeps I.bk).lt
  exact Nat.lt_trans (by decide) h

/-- d[y], there -/
theorem d_getItem {Q : Value → Shared → Prop} (hu : A.units + 1 < cLine) (I : Inv X pins σ H s) (g : DGet H a y (some v)) (ry : RelV y u) (h : ∀ w' s', Inv X pins σ H s' → RelV v w' → Q w' s') :
    wpAny (model X.prog X.w) A (getItem (.ref a) u) Q E s := by
  rcases g with ⟨kvs, k, e, ey, l⟩ | ⟨kvs, k, b, e, ey, eb, l⟩
  · subst ey
    obtain ⟨z, hd, vs, rel, dd⟩ := dk_rd I.hok e
    obtain ⟨w', hw, rw'⟩ := RelO.some_of (v := v) (o := valueAt vs k) (by rw [l]; exact rel.val k)
    exact wpAny_getItem_of (kV_is ry) dd.mapOf hw (h w' _ (I.tok _) rw')
  · subst ey
    cases (show u = Value.ref b from ry)
    obtain ⟨z, hd, xs, rel, dd⟩ := dt_rd I.hok e
    obtain ⟨w', hw, rw'⟩ := RelO.some_of (v := v) (o := (atKey xs k).map (·.2)) (by rw [l]; exact rel.val k)
    obtain ⟨p, hp, hp2⟩ := Option.map_eq_some_iff.mp hw
    refine wpAny_getItem_heap (tupleKind_room_in1 hu) (key_of I.hok eb) dd hp ?_
    rw [hp2]
    exact h w' _ (I.tok _) rw'
/-- a dict's object is replaced -/
theorem d_write {h' : Heap} {t' : Nat} {ob : HO} (I : Inv X pins σ H s) (mu : Mut (H a)) (hs : Heap.SameBut a s.heap h') (he : ∃ q, h'.get? a = some q) (new : ObjOk X.prog X.w (upd H a ob) h' a ob) :
    Inv X pins σ (upd H a ob) { s with heap := h', toks := t' } :=
  I.write (x := a) (e := a) mu (.inl rfl) (fun b q hb z => (hs.2 b hb).trans z) he new
theorem dk_new {P : Program} {w : World} {H' : Hp} {h' : Heap} {kvs : List (Key × V)} {vs : List (Key × Value)} (z : kvs.length ≤ sizeLine) (hd : (a == sysModules) = false) (rel : KV kvs vs) (dd : h'.DictOf (mixKind P w) a vs) :
    ObjOk P w H' h' a (.dK kvs) := ⟨z, hd, vs, rel, dd⟩
/-- d[y] = v -/
theorem d_setItem {H' : Hp} {Q : Unit → Shared → Prop} (hu : A.units + 1 < cLine) (I : Inv X pins σ H s) (g : DPut H a y v H') (ry : RelV y u) (rv : RelV v r) (h : ∀ s', Inv X pins σ H' s' → Q () s') :
    wpAny (model X.prog X.w) A (setItem (.ref a) u r) Q E s := by
  rcases g with ⟨kvs, k, e, ey, l, eH⟩ | ⟨kvs, k, b, e, ey, eb, l, eH⟩
  · subst ey eH
    obtain ⟨z, hd, vs, rel, dd⟩ := dk_of I.hok e
    have hz : vs.length ≤ sizeLine := by rw [← rel.length]; exact z
    have hl : (putK kvs k v).length ≤ sizeLine := by have := length_putK kvs k v; walk_at "om"
    refine wpAny_setItem_pairs (hsz := hz) (kV_is ry) dd fun h' dd' hs => h _ ?_
    have he : ∃ q, h'.get? a = some q := let ⟨q, _, _, hq, _⟩ := dd'; ⟨q, hq⟩
    exact d_write I (by rw [e]; exact True.intro) hs he (dk_new hl hd (rel.put k rv) dd')
  · subst ey eH
    cases (show u = Value.ref b from ry)
    obtain ⟨z, hd, xs, rel, dd⟩ := dt_of I.hok e
    have hz : xs.length ≤ sizeLine := by rw [← Paired.length rel]; exact z
    have hl : (putK kvs k v).length ≤ sizeLine := by have := length_putK kvs k v; walk_at "om"
    refine wpAny_setItem_heap (hsz := hz) (tupleKind_room_in1 hu) (key_of I.hok eb) dd fun h' dd' hs => h _ ?_
    obtain ⟨q, es, ep, hq, h2, h3, h4, _, h5⟩ := dd'
    refine d_write I (by rw [e]; exact True.intro) hs ⟨q, hq⟩ ⟨hl, hd, _, (rel.put k eb rv).keeps fun c ys ec => ?_, q, es, ep, hq, h2, h3, h4, h5⟩
    rw [upd_ne (ne_of ec e (fun z => nomatch z))]
    exact ec
end

section
variable {X : Cx} {pins : List (Addr × Obj)} {σ : St} {H : Hp} {s : Shared} {a : Addr} {kvs : List (Key × V)} {k : Key} {u : Value} {A : Around} {E : Value → Shared → Prop}
/-- len(d) -/
theorem d_len {Q : Value → Shared → Prop} (I : Inv X pins σ H s) (e : Rd H a (.dK kvs)) (h : ∀ t s', Inv X pins σ H s' → Q (.int kvs.length t) s') : wpAny (model X.prog X.w) A (call (.builtin "len") [.ref a]) Q E s := by
  obtain ⟨z, hd, vs, rel, dd⟩ := dk_rd I.hok e
  refine call_len_dict hd dd (by rw [← rel.length]; rw [sizeLine_eq] at z; walk_at "om") ?_
  rw [← rel.length]
  exact h _ _ (I.tok _)
end


/-- the element of a subscription, not a slice -/
def NoSl (i : Expr) : Prop := ∀ ov iv, subscripted i false ov iv = operate [ov, iv] (getItem ov iv)
theorem subD_of {prog : Program} {w : World} {A : Around} {E : Value → Shared → Prop} {s : Shared} {env : Env} {value slice : Expr} {pos : Pos} {T id : String} {Q : Value → Shared → Prop}
    (hl : typeLookup (.type T) "__getitem__" = pure (some (.builtin id))) (hs : NoSl slice)
    (h : wpAny (model prog w) A (eval value env) (fun o s₁ => wpAny (model prog w) A (eval slice env) (fun i s₂ => s₂.TypeIs o T ∧ wpAny (model prog w) A (getItem o i) Q E s₂) E s₁) E s) :
    wpAny (model prog w) A (eval (.Subscript value slice pos) env) Q E s := by
  refine Subscript_ (wpAny_mono h (fun o s₁ h₁ => wpAny_mono h₁ (fun i s₂ h₂ => ?_) fun _ _ x => x) fun _ _ x => x)
  obtain ⟨hT, h₂⟩ := h₂
  unfold subscriptTail
  refine wpAny_bind ?_
  rw [getitemInPython_of_ne hT.not_modules]
  refine wpAny_bind (wpAny_specialOf hT hl ?_)
  have fin : wpAny (model prog w) A (subscripted slice false o i) (fun r s₃ => wpAny (model prog w) A (letTemporaryGo value o r >>= fun _ => pure r) Q E s₃) E s₂ := by
    rw [hs o i]
    exact wpAny_operating (wpAny_mono h₂ (fun r s₃ h₃ => wpAny_bind (wpAny_letTemporaryGo (wpAny_pure h₃))) fun _ _ x => x)
  first
    | exact wpAny_pure (wpAny_bind fin)
    | exact wpAny_bind (wpAny_pure (wpAny_bind fin))
    | exact wpAny_bind fin

theorem dict_typeIs {X : Cx} {pins : List (Addr × Obj)} {σ : St} {H : Hp} {s : Shared} {a : Addr} {y : V} {o : Option V} (I : Inv X pins σ H s) (g : DGet H a y o) : s.TypeIs (.ref a) "dict" := by
  rcases g with ⟨kvs, k, e, _, _⟩ | ⟨kvs, k, b, e, _, _, _⟩
  · obtain ⟨_, _, vs, _, dd⟩ := dk_rd I.hok e
    exact dd.typeIs
  · obtain ⟨_, _, xs, _, dd⟩ := dt_rd I.hok e
    exact dd.typeIs
/-- d[y] -/
def tDGet (td ty : TE) : TE := fun σ H Q => td σ H fun x H1 => ty σ H1 fun y H2 => ∃ a v, x = .ref a ∧ DGet H2 a y (some v) ∧ Q v H2
/-- d[y] = v -/
def sDPut (td ty tv : TE) : TS := fun D σ H => tv σ H fun v H1 => td σ H1 fun x H2 => ty σ H2 fun y H3 => ∃ a H4, x = .ref a ∧ DPut H3 a y v H4 ∧ D.nx σ H4
section
variable {X : Cx} {o i e value : Expr} {pos pos' tpos : Pos} {td ty tv : TE}
theorem pe_dget (hu : X.A.units + 1 < cLine) (ho : PE X o td) (hi : PE X i ty) (hs : NoSl i) : PE X (.Subscript o i pos) (tDGet td ty) := by
  intro pins s σ H Q I h
  refine subD_of PySem.F.slot_dict_getitem.lookup hs (thn (ho pins s σ H _ I h) fun u s1 ⟨x, H1, I1, rx, q1⟩ => thn (hi pins s1 σ H1 _ I1 q1) fun iv s2 ⟨y, H2, I2, ry, a, v, ex, g, q2⟩ => ?_)
  subst ex
  obtain rfl : u = Value.ref a := rx
  exact ⟨dict_typeIs I2 g, d_getItem hu I2 g ry fun w' s3 I3 rw' => ⟨v, H2, I3, rw', q2⟩⟩
theorem ps_dput (hu : X.A.units + 1 < cLine) (ho : PE X o td) (hi : PE X i ty) (hv : PE X value tv) (hs : swapsWith value (some (.Subscript o i pos')) pos.line X.env = pure false) :
    PS X (.Assign [.Subscript o i pos'] value pos) (sDPut td ty tv) := by
  intro pins s σ H D I h
  refine wpAny_Assign_Subscript (thn (hv pins s σ H _ I h) fun r s1 ⟨v, H1, I1, rv, q1⟩ => thn (ho pins s1 σ H1 _ I1 q1) fun u s2 ⟨x, H2, I2, rx, q2⟩ => thn (hi pins s2 σ H2 _ I2 q2) fun iv s3 ⟨y, H3, I3, ry, a, H4, ex, g, q3⟩ => ?_) hs
  subst ex
  obtain rfl : u = Value.ref a := rx
  exact d_setItem hu I3 g ry rv fun s4 I4 => ⟨σ, H4, I4, q3⟩
end


theorem dk_empty {P : Program} {w : World} {H : Hp} (h : Heap) (hb : sysModules < h.objs.size) : ObjOk P w H (h.push { cls := .type "dict", data := .dict #[] }) h.objs.size (.dK []) :=
  ⟨Nat.zero_le _, beq_eq_false_iff_ne.mpr (Ne.symm (Nat.ne_of_lt hb)), [], .nil, Heap.DictOf.new h⟩
theorem dt_empty {P : Program} {w : World} {H : Hp} (h : Heap) (hb : sysModules < h.objs.size) : ObjOk P w H (h.push { cls := .type "dict", data := .dict #[] }) h.objs.size (.dT []) :=
  ⟨Nat.zero_le _, beq_eq_false_iff_ne.mpr (Ne.symm (Nat.ne_of_lt hb)), [], .nil, _, #[], 0, Heap.get?_push_size _ rfl, ⟨rfl, rfl, rfl⟩, rfl, rfl, List.nodup_nil⟩
/-- {}, to be a dict of the kind that is wanted -/
def tDNewK : TE := fun _ H Q => ∀ p, H p = none → Q (.ref p) (upd H p (.dK []))
def tDNewT : TE := fun _ H Q => ∀ p, H p = none → Q (.ref p) (upd H p (.dT []))
section
variable {X : Cx} {pos : Pos}
theorem pe_dnewK : PE X (.Dict [] [] pos) tDNewK := fun pins s σ H Q I h =>
  wpAny_Dict_empty ⟨.ref s.heap.objs.size, _, I.laid (a := s.heap.objs.size) (o := .dK []) (t' := s.toks) (fun _ _ q => Heap.get?_push_of_some _ q) (Nat.le_refl _) (dk_empty s.heap I.big), rfl, h _ (I.hok.fresh (Nat.le_refl _))⟩
theorem pe_dnewT : PE X (.Dict [] [] pos) tDNewT := fun pins s σ H Q I h =>
  wpAny_Dict_empty ⟨.ref s.heap.objs.size, _, I.laid (a := s.heap.objs.size) (o := .dT []) (t' := s.toks) (fun _ _ q => Heap.get?_push_of_some _ q) (Nat.le_refl _) (dt_empty s.heap I.big), rfl, h _ (I.hok.fresh (Nat.le_refl _))⟩
end

/-- the pairs of a display, from the left -/
def tPairs : List (TE × TE) → St → Hp → (List (V × V) → Hp → Prop) → Prop
  | [], _, H, Q => Q [] H
  | (tk, tv) :: r, σ, H, Q => tk σ H fun x H1 => tv σ H1 fun y H2 => tPairs r σ H2 fun ps H3 => Q ((x, y) :: ps) H3
abbrev VV : List (V × V) → List (Value × Value) → Prop := Paired fun p q => RelV p.1 q.1 ∧ RelV p.2 q.2
def PPs (X : Cx) (pos : Pos) (keys : List (Option Expr)) (values : List Expr) (trs : List (TE × TE)) : Prop :=
  ∀ (pins : List (Addr × Obj)) (s : Shared) (σ : St) (H : Hp) (Q : List (V × V) → Hp → Prop), Inv X pins σ H s → tPairs trs σ H Q →
    wpAny (model X.prog X.w) X.A (evalPairs (pairTrees keys values X.env pos)) (fun vs s' => ∃ ps H', Inv X pins σ H' s' ∧ VV ps vs ∧ Q ps H') X.xe s
theorem pps_nil {X : Cx} {pos : Pos} : PPs X pos [] [] [] := fun pins s σ H Q I h => pairTrees_nil_walk ⟨[], H, I, .nil, h⟩
theorem pps_cons {X : Cx} {pos : Pos} {k v : Expr} {ks : List (Option Expr)} {vs : List Expr} {tk tv : TE} {trs : List (TE × TE)} (hk : PE X k tk) (hv : PE X v tv) (hr : PPs X pos ks vs trs) :
    PPs X pos (some k :: ks) (v :: vs) ((tk, tv) :: trs) := fun pins s σ H Q I h =>
  pairTrees_cons_walk (thn (hk pins s σ H _ I h) fun u s1 ⟨x, H1, I1, rx, q1⟩ => thn (hv pins s1 σ H1 _ I1 q1) fun w2 s2 ⟨y, H2, I2, ry, q2⟩ =>
    thn (hr pins s2 σ H2 _ I2 q2) fun ws s3 ⟨ps, H3, I3, rel, q3⟩ => ⟨(x, y) :: ps, H3, I3, .cons ⟨rx, ry⟩ rel, q3⟩)

def mergeK (kvs more : List (Key × V)) : List (Key × V) := more.foldl (fun acc kv => putK acc kv.1 kv.2) kvs
theorem KV.merge : ∀ {more : List (Key × V)} {rs : List (Key × Value)} {kvs : List (Key × V)} {vs : List (Key × Value)}, KV more rs → KV kvs vs → KV (mergeK kvs more) (merged vs rs) := by
  intro more rs kvs vs r
  unfold KV at r
  induction r generalizing kvs vs with
  | nil => intro q; exact q
  | @cons p q ps qs h t ih =>
    intro r0
    have e : KV (putK kvs p.1 p.2) (stored vs q.1 q.2) := by
      have := r0.put p.1 h.2
      rw [← h.1]; exact this
    exact ih e
theorem length_mergeK : ∀ (more kvs : List (Key × V)), (mergeK kvs more).length ≤ kvs.length + more.length
  | [], kvs => by show kvs.length ≤ kvs.length + 0; walk_at "om"
  | p :: r, kvs => by
    have h1 := length_mergeK r (putK kvs p.1 p.2)
    have h2 := length_putK kvs p.1 p.2
    show (mergeK (putK kvs p.1 p.2) r).length ≤ _
    rw [List.length_cons]; walk_at "om"
theorem carries_of {P : Program} {w : World} : ∀ {kvs : List (Key × V)} {ws : List (Value × Value)}, VV (kvs.map fun kv => (kV kv.1, kv.2)) ws → ∃ rs, Carries (mixKind P w) ws rs ∧ KV kvs rs
  | [], _, r => by rw [List.map_nil] at r; cases r; exact ⟨[], True.intro, .nil⟩
  | p :: kvs, _, r => by
    rw [List.map_cons] at r
    cases r with
    | @cons a b as bs h t =>
      obtain ⟨rs, c, q⟩ := carries_of (P := P) (w := w) t
      obtain ⟨b1, b2⟩ := b
      exact ⟨(p.1, b2) :: rs, ⟨kV_is h.1, rfl, c⟩, .cons ⟨rfl, h.2⟩ q⟩
/-- {k: v, ..} with keys ints and texts; the new dict stands empty while the pairs are made -/
def tDisp (trs : List (TE × TE)) : TE := fun σ H Q => ∀ p, H p = none → tPairs trs σ (upd H p (.dK [])) fun ps H2 => H2 p = some (.dK []) ∧ ∃ kvs : List (Key × V), ps = kvs.map (fun kv => (kV kv.1, kv.2)) ∧ kvs.length ≤ 15 ∧ Q (.ref p) (upd H2 p (.dK (mergeK [] kvs)))
theorem pe_disp {X : Cx} {pos : Pos} {keys : List (Option Expr)} {values : List Expr} {trs : List (TE × TE)} (h : PPs X pos keys values trs) (hall : keys.all (·.isSome) = true) (hl : keys.length = values.length) (h0 : keys ≠ [])
    (h15 : keys.length ≤ 15) : PE X (.Dict keys values pos) (tDisp trs) := by
  intro pins s σ H Q I q
  have hn := I.hok.fresh (Nat.le_refl s.heap.objs.size)
  have I1 := I.laid (a := s.heap.objs.size) (o := .dK []) (h' := s.heap.push { cls := .type "dict", data := .dict #[] }) (t' := s.toks) (fun _ _ q => Heap.get?_push_of_some _ q) (Nat.le_refl _) (dk_empty s.heap I.big)
  refine wpAny_Dict_walk (knd := mixKind X.prog X.w) hall hl h0 h15 (thn (h pins _ σ _ _ I1 (q _ hn)) fun ws s2 ⟨ps, H2, I2, rel, e, kvs, ep, lk, q2⟩ => ?_)
  subst ep
  obtain ⟨rs, c, rk⟩ := carries_of (P := X.prog) (w := X.w) rel
  obtain ⟨z, hd, vs0, r0, dd⟩ := dk_of I2.hok e
  cases r0
  refine ⟨rs, c, dd, fun h' dd' hs => ⟨.ref s.heap.objs.size, _, ?_, rfl, q2⟩⟩
  have hz : (mergeK [] kvs).length ≤ sizeLine := by
    have h1 := length_mergeK kvs []
    rw [List.length_nil] at h1
    rw [sizeLine_eq]; walk_at "om"
  have he : ∃ q, h'.get? s.heap.objs.size = some q := let ⟨q, _, _, hq, _⟩ := dd'; ⟨q, hq⟩
  exact d_write I2 (by rw [e]; exact True.intro) hs he (dk_new hz hd (rk.merge .nil) dd')


section
variable {X : Cx} {pins : List (Addr × Obj)} {σ : St} {H : Hp} {s : Shared} {a : Addr} {y d : V} {u r : Value} {o : Option V} {A : Around} {E : Value → Shared → Prop}
end

section
variable {X : Cx} {o e f : Expr} {apos cpos : Pos} {td ty tx : TE}
end

section
variable {X : Cx} {pins : List (Addr × Obj)} {σ : St} {H : Hp} {s : Shared} {a : Addr} {kvs : List (Key × V)} {A : Around} {E : Value → Shared → Prop}
end


section
variable {X : Cx} {pins : List (Addr × Obj)} {σ : St} {H : Hp} {s : Shared} {a : Addr} {y : V} {u : Value} {A : Around} {E : Value → Shared → Prop}
end
end L2

namespace L2
open PySem PySem.Spec PyProof.Rows
section
variable {X : Cx}
/-- len of a dict -/
theorem call_lenD : CallR X (.builtin "len") (fun xs H Q => ∃ a kvs, xs = [V.ref a] ∧ H a = some (.dK kvs) ∧ Q (.int kvs.length) H) := by
  intro pins s σ H xs us Q I r h
  obtain ⟨a, kvs, rfl, ha, q⟩ := h
  obtain ⟨u, rfl, ru⟩ := vals1 r
  cases ru
  exact d_len I (.inl ha) fun t s' I' => ⟨.int kvs.length, H, I', ⟨t, rfl⟩, q⟩
end
end L2

namespace L2
open PySem PySem.Spec PyProof.Rows
section
variable {X : Cx} {a b c : Expr} {ta tb tc : TE} {pos : Pos}

def CDivW (_ j : Int) : Prop := j ≠ 0 ∧ j.natAbs < 2 ^ 9000
theorem op_fdivW : OpR X (binaryOp .FloorDiv) (rI CDivW fun i j => .int (i.fdiv j)) := opI fun i j _ _ _ _ _ hc q => by
  have h0 : j.natAbs ≠ 0 := by have := hc.1; walk_at "om"
  exact floordiv_int hc.1 q (.inl (PyProof.noPylong_of_log2 ((Nat.log2_lt h0).mpr hc.2)))
/-- two factors whose bits together are few -/
def CMulW (i j : Int) : Prop := i.natAbs < 2 ^ 20000 ∧ j.natAbs < 2 ^ 20000
theorem CMulW.ok {i j : Int} (h : CMulW i j) : IntMulOk i j := by
  have h1 := PyProof.Rows.intBits_le h.1
  have h2 := PyProof.Rows.intBits_le h.2
  unfold IntMulOk
  have e : Builtin.Int.intTooBig ((Builtin.Int.intBits i : Int) + (Builtin.Int.intBits j : Int)) = false := by
    unfold Builtin.Int.intTooBig
    refine decide_eq_false ?_
    have : (40000 : Int) ≤ bitsLine := by decide
    walk_at "om"
  intro q
  rw [e] at q
  simp at q
theorem op_mulW : OpR X (binaryOp .Mult) (rI CMulW fun i j => .int (i * j)) := opI fun _ _ _ _ _ _ _ hc q => mul_int q hc.ok

theorem call_isi : CallR X (.builtin "isinstance") (fun xs H Q => ∃ x n t b, xs = [x, .ty n] ∧ TyOf X.K H x t ∧ PySem.W.kitOne X.K t (.type n) = some b ∧ Q (.bl b) H) := by
  intro pins s σ H xs us Q I r h
  obtain ⟨x, n, t, b, rfl, ty, e, q⟩ := h
  obtain ⟨u, u', rfl, rx, ry⟩ := vals2 r
  obtain rfl : u' = Value.type n := ry
  exact isinst_ok I rx ty e fun tk => ⟨.bl b, H, I.tok tk, rfl, q⟩
end

structure FnC (P : Program) (w : World) (K : PySem.W.Frag) (mg : Str → Option Value) (base : Heap) (CX : CXT) (k : Nat) (x : Str) (ps : List Str) (sp : Sp) : Prop where
  ex : ∃ (f : Addr) (fd : FuncData), FnOk P w K mg base CX k f fd ps sp ∧ mg x = some (.ref f) ∧ PySem.W.keepIn K (.ref f) = true ∧ Binds K fd ps []
structure FunAt (K : PySem.W.Frag) (mg : Str → Option Value) (x : Str) (st : Stmt) (ps : List Str) : Prop where
  ex : ∃ (f : Addr) (fd : FuncData), Fun K x x st f fd ∧ mg x = some (.ref f) ∧ Binds K fd ps []
section
variable {P : Program} {w : World} {K : PySem.W.Frag} {mg : Str → Option Value} {base : Heap} {CX : CXT}
theorem funAt_mk {h : Heap} {x : Str} {st : Stmt} {f : Addr} {ps : List Str} {oc : Value} {od an : Option Addr} {osl : Array (Option Value)} {kV doc pm cdv ct : Value} (X : K.In h) (G : h.Ns mainGlobals mg)
    (a : PySem.W.nsIn K mainGlobals x = some (some (.ref f))) (l : K.lookup f = some ⟨oc, od, .func (PySem.W.fnOf x x (defArgs st) (defBody st) (defScope st) .none kV doc pm an cdv ct), osl⟩)
    (c : PySem.W.codeIn K cdv x = true) (k : PySem.W.keepIn K (.ref f) = true)
    (hb : ∀ (kV doc pm : Value) (an : Option Addr) (cdv ct : Value) (us : List Value), us.length = ps.length → bindArgs (PySem.W.fnOf x x (defArgs st) (defBody st) (defScope st) .none kV doc pm an cdv ct) ⟨us, []⟩ = pure (ps.zip us)) :
    FunAt K mg x st ps := by
  have F := fun_mk (K := K) (x := x) (qual := x) (st := st) l c k
  exact ⟨f, _, F, PySem.W.mg_of X G a, F.binds hb⟩
theorem FnC.mono {j k : Nat} {x : Str} {ps : List Str} {sp : Sp} (F : FnC P w K mg base CX j x ps sp) (h : j ≤ k) : FnC P w K mg base CX k x ps sp :=
  let ⟨f, fd, G, r⟩ := F.ex
  ⟨f, fd, G.mono h, r⟩
/-- a def that raises nothing -/
theorem FunAt.ok {x : Str} {st : Stmt} {N ps : List Str} {k : Nat} {sp : Sp} (F : FunAt K mg x st ps) (S : FnScope N ps (defScope st)) (len : ∀ vs H Q E, sp vs H Q E → vs.length = ps.length)
    (hbody : ∀ (f : Addr) (cdv : Value) (A : Around) (outer : List Env) (s : Shared) (H : Hp) (vs : List V) (Q : VK) (E : XK), Room k (A.deeper (envOfC x (defScope st) s.heap.objs.size f cdv)) → sp vs H Q E →
      ∃ t, PSs (cxOf CX0 P w K mg base N x (defScope st) f cdv A outer s H E).nox (defBody st) t ∧ t { nx := fun _ H' => Q .non H', rt := Q } (start N vs) H) : FnC P w K mg base CX0 (k + 1) x ps sp := by
  obtain ⟨f, fd, G, hm, hb⟩ := F.ex
  exact ⟨f, fd, G.ok S len (hbody f), hm, G.kp, hb⟩
end
section
variable {X : Cx} {CX : CXT} {k : Nat} {ps : List Str} {sp : Sp} {E : XK} {x : Str} {p pos : Pos} {e : Expr} {es : List Expr} {t : TA}
theorem pe_callX (F : FnC X.prog X.w X.K X.mg X.base CX k x ps sp) (hr : Room k X.A) (hg : Gl X x) (hx : Passes CX X E) (ha : PA X (e :: es) t)
    (hdb : (x == ("__debug__" : Str)) = false := by decide) (he : starEach (e :: es) X.env = (false, eval e X.env) :: starEach es X.env := by rfl) (hpl : (backTo pos (starEach es X.env)).any (·.1) = false := by rfl) :
    PE X (.Call (.Name x p) (e :: es) [] pos) (tCall sp [] E t) := by
  obtain ⟨f, fd, G, hm, kp, hb⟩ := F.ex
  exact pe_call G hr hg hm kp hb .nil hx ha hdb he hpl
theorem pe_callF (F : FnC X.prog X.w X.K X.mg X.base CX0 k x ps sp) (hr : Room k X.A) (hg : Gl X x) (ha : PA X (e :: es) t)
    (hdb : (x == ("__debug__" : Str)) = false := by decide) (he : starEach (e :: es) X.env = (false, eval e X.env) :: starEach es X.env := by rfl) (hpl : (backTo pos (starEach es X.env)).any (·.1) = false := by rfl) :
    PE X (.Call (.Name x p) (e :: es) [] pos) (tCall sp [] E0 t) := pe_callX F hr hg pass0 ha hdb he hpl
end
theorem same_new {H : Hp} {p : Addr} (h : H p = none) (o : HO) : Same H (upd H p o) := fun b u q => by rw [upd_ne (ne_of_none q h)]; exact q
theorem Same.seqT {K : PySem.W.Frag} {H H' : Hp} {a : Addr} {xs : List V} (e : Same H H') (h : SqT K H a xs) : SqT K H' a xs := by
  rcases h with (h | ⟨o, h⟩) | h
  · exact .inl (.inl (e _ _ h))
  · exact .inl (.inr ⟨o, e _ _ h⟩)
  · exact .inr h
end L2
namespace L2
open PySem PySem.Spec PyProof.Rows
structure Blt (mg : Str → Option Value) : Prop where
  len : mg "len" = none
  abs : mg "abs" = none
  range : mg "range" = none
  isinstance : mg "isinstance" = none
  int : mg "int" = none
  bool : mg "bool" = none
  tuple : mg "tuple" = none
  list : mg "list" = none
  str : mg "str" = none
  zip : mg "zip" = none
  set : mg "set" = none
  all : mg "all" = none
  any : mg "any" = none
  min : mg "min" = none
  max : mg "max" = none
  sum : mg "sum" = none
  sorted : mg "sorted" = none
  enumerate : mg "enumerate" = none
  reversed : mg "reversed" = none
  dict : mg "dict" = none
  ord : mg "ord" = none
  divmod : mg "divmod" = none
theorem bb_len : bootBuiltins "len" = some (.builtin "len") := by decide +kernel
theorem bb_abs : bootBuiltins "abs" = some (.builtin "abs") := by decide +kernel
theorem bb_isinstance : bootBuiltins "isinstance" = some (.builtin "isinstance") := by decide +kernel
theorem bb_int : bootBuiltins "int" = some (.type "int") := by decide +kernel
theorem bb_bool : bootBuiltins "bool" = some (.type "bool") := by decide +kernel
theorem bb_tuple : bootBuiltins "tuple" = some (.type "tuple") := by decide +kernel
theorem bb_list : bootBuiltins "list" = some (.type "list") := by decide +kernel
theorem bb_str : bootBuiltins "str" = some (.type "str") := by decide +kernel
theorem iteNE {y z : Int} {A B : Prop} (h1 : y ≠ z → A) (h2 : y = z → B) : if (!decide (V.int y = V.int z)) = true then A else B := by
  by_cases h : y = z
  · subst h
    rw [decide_eq_true rfl]
    exact iteF (h2 rfl)
  · rw [decide_eq_false (fun q => h (V.int.inj q))]
    exact iteT (h1 h)
theorem iteD {c : Prop} [Decidable c] {A B : Prop} (h1 : c → A) (h2 : ¬ c → B) : if decide c = true then A else B := by
  by_cases h : c
  · rw [decide_eq_true h]
    exact iteT (h1 h)
  · rw [decide_eq_false h]
    exact iteF (h2 h)
end L2
namespace L2
open PySem PySem.Spec PyProof.Rows
abbrev qAdd : R2 := rI0 fun i j => .int (i + j)
abbrev qSub : R2 := rI0 fun i j => .int (i - j)
abbrev rMulW : R2 := rI CMulW fun i j => .int (i * j)
abbrev rDiv : R2 := rI CDiv fun i j => .int (i / j)
abbrev rDivW : R2 := rI CDivW fun i j => .int (i.fdiv j)
abbrev rMod : R2 := rI (fun _ j => 0 < j) fun i j => .int (i % j)
abbrev rModN : R2 := rI (fun _ j => j ≠ 0) fun i j => .int (i.fmod j)
abbrev rPow : R2 := rI CPow fun i j => .int (i ^ j.toNat)
abbrev rLt : R2 := rI0 fun i j => .bl (decide (i < j))
abbrev rGt : R2 := rI0 fun i j => .bl (decide (j < i))
abbrev rIsN : R2 := fun x y H Q => y = .non ∧ Q (.bl (decide (x = .non))) H
abbrev rAddS : R2 := fun x y H Q => ∃ i j, x = .str i ∧ y = .str j ∧ i.length + j.length ≤ sizeLine ∧ Q (.str (i ++ j)) H
abbrev rAbs : List V → Hp → VK → Prop := fun xs H Q => ∃ i, xs = [.int i] ∧ Q (.int (if i < 0 then -i else i)) H
abbrev rLenQ (K : PySem.W.Frag) : List V → Hp → VK → Prop := fun xs H Q => ∃ p ys, xs = [.ref p] ∧ (SqL K H p ys ∨ SqT K H p ys) ∧ Q (.int ys.length) H
abbrev rIsi (K : PySem.W.Frag) : List V → Hp → VK → Prop := fun xs H Q => ∃ x n t b, xs = [x, .ty n] ∧ TyOf K H x t ∧ PySem.W.kitOne K t (.type n) = some b ∧ Q (.bl b) H
abbrev rInt1 : List V → Hp → VK → Prop := fun xs H Q => (∃ i, xs = [.int i] ∧ Q (.int i) H) ∨ ∃ k, xs = [.bl k] ∧ Q (.int (if k then 1 else 0)) H
abbrev rTupOf (K : PySem.W.Frag) : List V → Hp → VK → Prop := fun xs H Q => ∃ p ys, xs = [.ref p] ∧ ((SqL K H p ys ∧ ∀ l, H l = none → Q (.ref l) (upd H l (.tup ys))) ∨ (SqT K H p ys ∧ Q (.ref p) H))
end L2
namespace L2
open PySem PySem.Spec PyProof.Rows
theorem kit_ii {K : PySem.W.Frag} : PySem.W.kitOne K (.type "int") (.type "int") = some true := by rfl
theorem kit_ib {K : PySem.W.Frag} : PySem.W.kitOne K (.type "int") (.type "bool") = some false := by
  show PySem.W.kitCls K (.type "int") (.type "bool") = some false
  unfold PySem.W.kitCls
  kernel_rfl
end L2

namespace L2
open PySem PySem.Spec PyProof.Rows

/-- a def's own frame runs on top -/
structure OwnFr (X : Cx) : Prop where
  stk : X.stack = X.env :: X.outer
  frm : X.env.frame = some X.env.locals
  exs : X.ex = []

section
variable {X : Cx} {pins : List (Addr × Obj)} {σ : St} {H : Hp} {s : Shared}
end

end L2
namespace L2
open PySem PySem.Spec PyProof.Rows
section
variable {M : Model} {A : Around} {E : Value → Shared → Prop} {h : Heap} {g : Array GenState} {d : Drawn} {t : Nat} {os : OsState}
end
end L2
namespace L2
open PySem PySem.Spec PyProof.Rows
section
variable {X : Cx} {pins : List (Addr × Obj)} {σ : St} {H H' : Hp} {s s' : Shared}
end

section
variable {X : Cx} {pins : List (Addr × Obj)} {σ : St} {H : Hp} {s s' : Shared}
end
end L2
namespace L2
open PySem PySem.Spec PyProof.Rows
section
variable {X : Cx} {es : List Expr} {t : TA}
end
section
variable {X : Cx} {k : Nat} {ps : List Str} {sp : Sp} {fx v xn xy xa : Str} {Dv : Addr} {n y i : Nat} {fp cp ap vp p0 p1 p2 p3 hp pos ep : Pos} {e : Expr} {es : List Expr} {t : TA}
end
end L2
namespace L2
open PySem PySem.Spec PyProof.Rows
end L2

namespace L2
open PySem PySem.Spec PyProof.Rows PySem.W Builtin Builtin.ObjectAttr Builtin.Getset_descriptor
section
variable {prog : Program} {w : World} {A : Around} {E : Value → Shared → Prop} {s : Shared} {K : Frag} {x C : Addr} {R : Result → Shared → Prop}
end
end L2
namespace L2
open PySem PySem.Spec PyProof.Rows PySem.W Builtin Builtin.ObjectAttr Builtin.Getset_descriptor
section
variable {prog : Program} {w : World} {A : Around} {E : Value → Shared → Prop} {s : Shared} {K : Frag} {x C : Addr}
end
end L2

namespace L2
open PySem PySem.Spec PyProof.Rows
open PySem.W (Dat kqdP kqdPs kqdOk)
mutual
/-- the value stands for the datum -/
inductive Rep (K : PySem.W.Frag) (H : Hp) : V → Dat → Prop
  | non : Rep K H .non .none
  | bl (b : Bool) : Rep K H (.bl b) (.bool b)
  | int (i : Int) : Rep K H (.int i) (.int i)
  | str (x : Str) : Rep K H (.str x) (.str x)
  | tup {a : Addr} {xs : List V} {ds : List Dat} : SqT K H a xs → RepL K H xs ds → Rep K H (.ref a) (.tuple ds)
  | lst {a : Addr} {xs : List V} {ds : List Dat} : SqL K H a xs → RepL K H xs ds → Rep K H (.ref a) (.list ds)
inductive RepL (K : PySem.W.Frag) (H : Hp) : List V → List Dat → Prop
  | nil : RepL K H [] []
  | cons {v : V} {d : Dat} {vs : List V} {ds : List Dat} : Rep K H v d → RepL K H vs ds → RepL K H (v :: vs) (d :: ds)
end
section
variable {K : PySem.W.Frag} {H H' : Hp}
end
section
variable {X : Cx} {pins : List (Addr × Obj)} {σ : St} {H : Hp} {s : Shared}
mutual
theorem Rep.reads (I : Inv X pins σ H s) : ∀ {v : V} {d : Dat} {u : Value}, Rep X.K H v d → RelV v u → ∃ as, Reads s.heap u (kqdP d) as
  | _, _, u, .non, r => by
    cases (show u = Value.none from r)
    exact ⟨_, Reads.none⟩
  | _, _, u, .bl b, r => by
    cases (show u = Value.bool b from r)
    exact ⟨_, Reads.bool b⟩
  | _, _, u, .int i, r => by
    obtain ⟨t, e⟩ := (show ∃ t, u = Value.int i t from r)
    cases e
    exact ⟨_, Reads.int i t⟩
  | _, _, u, .str x, r => by
    obtain ⟨t, e⟩ := (show ∃ t, u = Value.str x t from r)
    cases e
    exact ⟨_, Reads.str x t⟩
  | _, _, u, @Rep.tup _ _ a xs ds h q, r => by
    cases (show u = Value.ref a from r)
    obtain ⟨its, rv, ⟨o, e, c, n, dd⟩, _⟩ := I.tuple h
    obtain ⟨as, p⟩ := RepL.reads I q rv
    rw [kqdP]
    exact ⟨_, Reads.tuple e c dd (by simpa using p)⟩
  | _, _, u, @Rep.lst _ _ a xs ds h q, r => by
    cases (show u = Value.ref a from r)
    obtain ⟨its, rv, ⟨o, n, e, c, _, dd⟩, _⟩ := I.list h
    obtain ⟨as, p⟩ := RepL.reads I q rv
    rw [kqdP]
    exact ⟨_, Reads.list e c dd (by simpa using p)⟩
theorem RepL.reads (I : Inv X pins σ H s) : ∀ {vs : List V} {ds : List Dat} {us : List Value}, RepL X.K H vs ds → Vals vs us → ∃ as, ReadsAll s.heap us (kqdPs ds) as
  | _, _, _, .nil, .nil => by
    rw [kqdPs]
    exact ⟨_, ReadsAll.nil⟩
  | _, _, _, .cons h q, .cons r rr => by
    obtain ⟨as, p⟩ := Rep.reads I h r
    obtain ⟨bs, p'⟩ := RepL.reads I q rr
    rw [kqdPs]
    exact ⟨_, ReadsAll.cons p p'⟩
end
open Classical in
theorem any_dec {ds : List Dat} {d : Dat} (ha : ∀ e ∈ ds, kqdOk 8 e = true) (hd : kqdOk 8 d = true) : ((kqdPs ds).any fun y => PyData.eqv y (kqdP d)) = decide (d ∈ ds) := by
  by_cases z : d ∈ ds
  · rw [decide_eq_true z]
    exact (PySem.W.kqd_any ds d ha hd).mpr z
  · rw [decide_eq_false z]
    exact Bool.eq_false_iff.mpr fun y => z ((PySem.W.kqd_any ds d ha hd).mp y)
open Classical in
/-- x in a list of data -/
def rInD (K : PySem.W.Frag) (neg : Bool) : R2 := fun x y H Q => ∃ d ds, Rep K H x d ∧ Rep K H y (.list ds) ∧ (∀ e ∈ ds, kqdOk 8 e = true) ∧ kqdOk 8 d = true ∧ Q (.bl (if neg then !decide (d ∈ ds) else decide (d ∈ ds))) H
theorem in_room {A : Around} {ds : List Dat} {d : Dat} (hd : kqdOk 8 d = true) (hu : A.units + 64 < cLine) : A.units + 1 + min (PyData.depthAll (kqdPs ds)) (kqdP d).depth < cLine := by
  have l := (PySem.W.kqd_lay 8 d hd).2
  have := Nat.min_le_right (PyData.depthAll (kqdPs ds)) (kqdP d).depth
  walk_at "om"
theorem op_inD (hu : X.A.units + 64 < cLine) : OpR X (compareOp .In) (rInD X.K false) := by
  intro pins s σ H x y v u Q I rx ry h
  obtain ⟨d, ds, hd, he, ka, kd, q⟩ := h
  obtain ⟨as, ra⟩ := Rep.reads I hd rx
  obtain ⟨bs, rb⟩ := Rep.reads I he ry
  rw [kqdP] at rb
  exact SeqAt.in_list_reads rb ra (PySem.W.kqd_layL ka).1 (PySem.W.kqd_lay 8 d kd).1 (in_room kd hu) ⟨_, H, I, (by rw [any_dec ka kd]; rfl), q⟩
theorem op_notInD (hu : X.A.units + 64 < cLine) : OpR X (compareOp .NotIn) (rInD X.K true) := by
  intro pins s σ H x y v u Q I rx ry h
  obtain ⟨d, ds, hd, he, ka, kd, q⟩ := h
  obtain ⟨as, ra⟩ := Rep.reads I hd rx
  obtain ⟨bs, rb⟩ := Rep.reads I he ry
  rw [kqdP] at rb
  exact SeqAt.notIn_list_reads rb ra (PySem.W.kqd_layL ka).1 (PySem.W.kqd_lay 8 d kd).1 (in_room kd hu) ⟨_, H, I, (by rw [any_dec ka kd]; rfl), q⟩
end
end L2

namespace L2
open PySem PySem.Spec PyProof.Rows
/-- the context of a comprehension's block -/
def compCx (X : Cx) (ys M : List Str) (scope : Scope) (cl : List (Str × Addr)) (C : Addr) (s : Shared) (H : Hp) (fp : List Addr) (pins : List (Addr × Obj)) : Cx where
  prog := X.prog
  w := X.w
  K := X.K
  mg := X.mg
  base := X.base
  A := X.A
  N := ys ++ M
  s₀ := s
  H₀ := H
  env := compEnvC scope cl C X.env
  outer := X.stack
  stack := X.stack
  ex := fp
  fn := fun _ => false
  calm := X.calm
  pn := X.pn ++ pins
  xe := fun _ _ => False
/-- how the comprehension's names lie in the def's -/
structure CompSc (X : Cx) (ys M : List Str) (scope : Scope) (cl : List (Str × Addr)) : Prop where
  kind : scope.kind = .function
  nocell : ∀ y ∈ scope.names, y.2 ≠ .cell
  names : ∀ y ∈ scope.names, y.2 = .local → scope.names.lookup y.1 = some .local
  own : ∀ y ∈ ys, scope.names.lookup y = some .local
  clos : closureFor scope X.env = pure cl
  nd : (ys ++ M).Nodup
  len : M.length = X.N.length
  same : ∀ p ∈ M.zip X.N, p.1 = p.2 ∨ (relabel scope X.env).names.lookup p.1 = none
  apart : ∀ y ∈ M, (relabel scope X.env).names.lookup y ≠ some .local
  cells : ∀ y c, cl.lookup y = some c → X.env.cells.lookup y = some c ∧ (X.env.scope.names.lookup y = some .cell ∨ X.env.scope.names.lookup y = some .free)
  has : ∀ y, ((relabel scope X.env).names.lookup y = some .cell ∨ (relabel scope X.env).names.lookup y = some .free) → ∃ c, cl.lookup y = some c
section
variable {X : Cx} {ys M : List Str} {scope : Scope} {cl : List (Str × Addr)} {C : Addr} {s : Shared} {H : Hp} {fp : List Addr} {pins : List (Addr × Obj)} {σ : St}
theorem inv_comp {h1 : Heap} {tk : Nat} {o : Obj} (I : Inv X pins σ H s) (c : CompSc X ys M scope cl) (eC : C = s.heap.objs.size) (hns : h1.Ns C (fun _ => none)) (hsb : Heap.SameBut C (s.heap.push o) h1)
    (fk : ∀ b ∈ fp, FpOk X pins H b ∧ ∃ o, s.heap.get? b = some o) : Inv (compCx X ys M scope cl C s H fp pins) [] (List.replicate ys.length none ++ σ) H { s with heap := h1, toks := tk } := by
  have keep : ∀ b u, s.heap.get? b = some u → h1.get? b = some u := fun b u e => hsb.extBut b u (by rw [eC]; exact Nat.ne_of_lt (Heap.lt_size e)) (Heap.get?_push_of_some _ e)
  have neC : ∀ b u, s.heap.get? b = some u → b ≠ C := fun b u e => by rw [eC]; exact Nat.ne_of_lt (Heap.lt_size e)
  have out : ∀ {b : Addr}, b ≠ X.env.locals → b ∉ X.fs → b ∉ frs X.stack := fun h1 h2 z => (List.mem_cons.mp (I.stkSub _ z)).elim h1 h2
  refine ⟨⟨I.ok.mod, c.kind, I.ok.glob, I.ok.blt, by rw [eC]; exact Nat.le_refl _, fun y z a h1 h2 => I.ok.inj y z a (c.cells y a h1).1 (c.cells z a h2).1, c.has, fun y a z _ => Bool.noConfusion z, I.ok.hd, I.ok.frames, .inl rfl, fun b hb => ?_, I.bs, Nat.le_trans I.ok.bsz I.sz, fun b u e hb => ?_, fun b hb => ?_, I.stack, I.stkFree⟩,
    rfl, I.bare, Un.kept keep, ⟨_, hns, fun i y v e1 e2 e3 => ?_⟩, fun y a e => ?_, I.hok.fresh (by rw [eC]; exact Nat.le_refl _), fun y a e => I.freeC y a (c.cells y a e).1, fun p hp => ?_, I.hok.kept keep, ?_⟩
  · obtain ⟨⟨_, _, _, _, f5, _⟩, u, e⟩ := fk b hb
    exact ⟨neC b u e, fun y a q => f5 y a (c.cells y a q).1⟩
  · obtain ⟨⟨_, _, _, f4, _, _⟩, _⟩ := fk b hb
    rcases f4 with z | z
    · exact I.ok.noex b u e z
    · exact absurd (Nat.lt_of_lt_of_le (Heap.lt_size (I.ok.bs b u e).1) z) (Nat.lt_irrefl _)
  · obtain ⟨⟨_, f2, f3, _, _, _⟩, _⟩ := fk b hb
    exact out f2 f3
  · by_cases lt : i < ys.length
    · have e2' : (List.replicate ys.length (none : Option V) ++ σ)[i]? = some (some v) := e2
      rw [List.getElem?_append_left (by simpa using lt), List.getElem?_replicate_of_lt lt] at e2'
      cases e2'
    · have e0 : M[i - ys.length]? = some y := by
        have e1' : (ys ++ M)[i]? = some y := e1
        rwa [List.getElem?_append_right (by walk_at "om")] at e1'
      have e2' : σ[i - ys.length]? = some (some v) := by
        have e2' : (List.replicate ys.length (none : Option V) ++ σ)[i]? = some (some v) := e2
        rwa [List.getElem?_append_right (by simpa using lt), List.length_replicate] at e2'
      have hy : y ∈ M := List.mem_of_getElem? e0
      have vis0 : (relabel scope X.env).names.lookup y ≠ none := by
        rcases e3 with z | z | z <;> (intro q; have q' := (show (relabel scope X.env).names.lookup y = some _ from z).symm.trans q; cases q')
      have e1' : X.N[i - ys.length]? = some y := by
        have hlt : i - ys.length < X.N.length := by rw [← c.len]; exact (List.getElem?_eq_some_iff.mp e0).1
        have hz : (y, X.N[i - ys.length]) ∈ M.zip X.N := by
          refine List.mem_of_getElem? (i := i - ys.length) ?_
          rw [List.getElem?_zip_eq_some]
          exact ⟨e0, List.getElem?_eq_getElem hlt⟩
        rcases c.same _ hz with q | q
        · rw [List.getElem?_eq_getElem hlt]
          exact congrArg some q.symm
        · exact absurd q vis0
      have e3' : (relabel scope X.env).names.lookup y = some .cell ∨ (relabel scope X.env).names.lookup y = some .free := by
        rcases e3 with z | z | z
        · exact absurd z (c.apart y hy)
        · exact .inl z
        · exact .inr z
      obtain ⟨a, ea⟩ := c.has y e3'
      obtain ⟨q1, q2⟩ := c.cells y a ea
      obtain ⟨m, _, hl⟩ := I.loc
      have vis : Vis X.env.scope y := .inr q2
      obtain ⟨u, ru, lu⟩ := hl (i - ys.length) y v e1' e2' vis
      refine ⟨u, ru, .inr ⟨e3', a, ea, ?_⟩⟩
      rcases lu with ⟨z, _⟩ | ⟨_, a', ea', ⟨oc, hoc, hd⟩⟩
      · have z' : X.env.scope.names.lookup y = some .local := z
        rcases q2 with q2 | q2 <;> (rw [z'] at q2; cases q2)
      · rw [q1] at ea'
        cases ea'
        exact ⟨oc, keep _ _ hoc, hd⟩
  · obtain ⟨v, oc, hoc, hd⟩ := I.cell y a (c.cells y a e).1
    exact ⟨v, oc, keep _ _ hoc, hd⟩
  · have hp' : p ∈ X.pn ++ pins := by simpa [compCx] using hp
    obtain ⟨q1, q2, q3, q4, q5⟩ := I.pin p hp'
    exact ⟨keep _ _ q1, q2, neC _ _ q1, out q3 q4, q5⟩
  · show (List.replicate ys.length none ++ σ).length = (ys ++ M).length
    rw [List.length_append, List.length_append, List.length_replicate, I.len, c.len]
/-- back from the block -/
theorem inv_uncomp {pins' : List (Addr × Obj)} {σ' : St} {H' : Hp} {s1 : Shared} (I : Inv X pins σ H s) (fk : ∀ b ∈ fp, FpOk X pins H b ∧ ∃ o, s.heap.get? b = some o) (I' : Inv (compCx X ys M scope cl C s H fp pins) pins' σ' H' s1) : Inv X pins σ H' s1 :=
  I.call' (ch := fp) I'.os I'.base I'.hok I'.bare fun b hb => let ⟨⟨_, f2, _, f4, f5, f6⟩, _⟩ := fk b hb; ⟨f4, f2, f5, f6⟩

/-- W: the invariant by the turn and a measure; D: the new list; the elements' names: the own ones first, then the def's -/
def CompG (J : It) (n : Nat) (g : TG) (te : TE) (σ : St) (Q : VK) (H1 : Hp) : Prop := ∀ D, H1 D = none → ∃ W : Nat → Nat → Hp → Prop, (∃ m, W 0 m (upd H1 D (.lst []))) ∧ ∀ i m H, W i m H →
  (J.stop i H ∧ Q (.ref D) H) ∨ (J.go i H ∧ ∀ v H', J.yld i H v H' → ∀ us : St, us.length = n → g v (us ++ σ) H' fun σ2 H2 => (∃ us' : St, us'.length = n ∧ σ2 = us' ++ σ) ∧ te σ2 H2 fun y H3 => ∃ xs, H3 D = some (.lst xs) ∧ xs.length < sizeLine ∧ ∃ m', m' < m ∧ W (i + 1) m' (upd H3 D (.lst (xs ++ [y]))))
def tCompG (wi : TI) (n : Nat) (g : TG) (te : TE) : TE := fun σ H Q => wi σ H fun J H1 => CompG J n g te σ Q H1
def CompAt (J : It) (te : TE) (σ : St) (Q : VK) (H1 : Hp) : Prop := ∀ D, H1 D = none → ∃ W : Nat → Nat → Hp → Prop, (∃ m, W 0 m (upd H1 D (.lst []))) ∧ ∀ i m H, W i m H →
  (J.stop i H ∧ Q (.ref D) H) ∨ (J.go i H ∧ ∀ v H', J.yld i H v H' → te (some v :: σ) H' fun y H2 => ∃ xs, H2 D = some (.lst xs) ∧ xs.length < sizeLine ∧ ∃ m', m' < m ∧ W (i + 1) m' (upd H2 D (.lst (xs ++ [y]))))
def tComp (wi : TI) (te : TE) : TE := fun σ H Q => wi σ H fun J H1 => CompAt J te σ Q H1
theorem compG_of {J : It} {te : TE} {σ : St} {Q : VK} {H1 : Hp} (h : CompAt J te σ Q H1) : CompG J 1 (gName 0) te σ Q H1 := by
  intro D nD
  obtain ⟨W, h0, hs⟩ := h D nD
  refine ⟨W, h0, fun i m H w => ?_⟩
  rcases hs i m H w with q | ⟨go, st⟩
  · exact .inl q
  · refine .inr ⟨go, fun v H' y us hu => ?_⟩
    obtain ⟨u, rfl⟩ : ∃ u, us = [u] := List.length_eq_one_iff.mp hu
    exact ⟨⟨[some v], rfl, rfl⟩, st v H' y⟩
/-- the loop of a comprehension, by a number that falls -/
theorem comp_loop {prog : Program} {w : World} {A : Around} {R : Result → Shared → Prop} {s : Shared} {elt target iter : Expr} {scope : Scope} {pos : Pos} {it acc : Value} {env : Env} (I : Nat → Shared → Prop)
    (turn : ∀ n s, I n s → wpAny (model prog w) A (pyNext it) (fun r s1 => match r with
      | none => R (.ok .next) s1
      | some v => wpAny (model prog w) A (letOwnedTupleGo target it v) (fun _ s2 => wpAny (model prog w) A (assign target env v) (fun _ s3 => wpAny (model prog w) A (eval elt env) (fun x s4 =>
          wpAny (model prog w) A (call (.builtin "list.append") [acc, x]) (fun _ s5 => ∃ m, m < n ∧ I m s5) (fun _ _ => False) s4) (fun _ _ => False) s3) (fun _ _ => False) s2) (fun _ _ => False) s1) (fun _ _ => False) s) (n : Nat) (h : I n s) :
    codeAny (model prog w) A (.compLoop (.ListComp elt [⟨target, iter, [], 0⟩] scope pos) 0 it acc env) R s := by
  refine codeAny_loop rfl I (fun k s1 hI => ?_) n h
  have no : ∀ {α : Type} {t : Sem α} {P : α → Shared → Prop} {E : Value → Shared → Prop} {z : Shared}, wpAny (model prog w) A t P (fun _ _ => False) z → wpAny (model prog w) A t P E z := fun q => wpAny_mono q (fun _ _ z => z) fun _ _ z => z.elim
  show wpAny _ _ ((compTurn (.ListComp elt [⟨target, iter, [], 0⟩] scope pos) 0 it acc env).onRaise _) _ _ s1
  refine wpAny_noted ?_
  rw [compTurn_list1]
  refine wpAny_bind (wpAny_standAt (wpAny_bind (no (wpAny_mono (turn k s1 hI) (fun r s2 h2 => ?_) fun _ _ z => z))))
  cases r with
  | none => exact wpAny_pure h2
  | some v =>
    refine wpAny_bind (no (wpAny_mono h2 (fun _ s3 h3 => ?_) fun _ _ z => z))
    refine wpAny_bind (no (wpAny_mono h3 (fun _ s4 h4 => ?_) fun _ _ z => z))
    refine wpAny_bind (wpAny_bind (no (wpAny_mono h4 (fun x s5 h5 => ?_) fun _ _ z => z)))
    exact wpAny_bind (no (wpAny_mono h5 (fun _ s6 h6 => wpAny_pure (wpAny_pure ⟨rfl, h6⟩)) fun _ _ z => z))
theorem comp_core {elt iter tg : Expr} {pos : Pos} {g : TG} {te : TE} {tn : Nat → Heap → Prop} {it : Addr} {J : It} {E : Value → Shared → Prop} {QQ : Addr → Hp → Prop} {RR : Value → Addr → Result → Shared → Prop} (I : Inv X pins σ H s) (c : CompSc X ys M scope cl) (hc : X.calm = true)
    (hg : ∀ C s₀ H₀ fp pins, PG (compCx X ys M scope cl C s₀ H₀ fp pins) tg g) (he : ∀ C s₀ H₀ fp pins, PE (compCx X ys M scope cl C s₀ H₀ fp pins) elt te) (T : Turn X.prog X.w X.K tg J fp it tn) (st : tn 0 s.heap) (fk : ∀ b ∈ fp, FpOk X pins H b)
    (h : ∀ D, H D = none → ∃ W : Nat → Nat → Hp → Prop, (∃ m, W 0 m (upd H D (.lst []))) ∧ ∀ i m H, W i m H →
      (J.stop i H ∧ QQ D H) ∨ (J.go i H ∧ ∀ v H', J.yld i H v H' → ∀ us : St, us.length = ys.length → g v (us ++ σ) H' fun σ2 H2 => (∃ us' : St, us'.length = ys.length ∧ σ2 = us' ++ σ) ∧ te σ2 H2 fun y H3 => ∃ xs, H3 D = some (.lst xs) ∧ xs.length < sizeLine ∧ ∃ m', m' < m ∧ W (i + 1) m' (upd H3 D (.lst (xs ++ [y])))))
    (fin : ∀ D C H' s', s.heap.objs.size ≤ C → s'.heap.get? C ≠ none → (∃ m, s'.heap.Ns C m) → H' C = none → Inv X pins σ H' s' → QQ D H' → RR (.ref D) C (.ok .next) s') :
    wpAny (model X.prog X.w) X.A (newList []) (fun acc s₃ => wpAny (model X.prog X.w) X.A (newFunctionEnv scope X.env.globals cl [] X.env.qual none .none (some X.env)) (fun cenv s₄ =>
      codeAny (model X.prog X.w) X.A (.compStart (.ListComp elt [⟨tg, iter, [], 0⟩] scope pos) 0 (.ref it) acc { cenv with scope := relabel scope X.env }) (RR acc cenv.locals) s₄) E s₃) E s := by
  refine wpAny_newObj_type (wpAny_newFunctionEnv c.nocell (by intro y hy; simp at hy) (fun h1 hns hsb => ?_) c.kind)
  dsimp only at hns hsb ⊢
  have hf : H s.heap.objs.size = none := I.hok.fresh (Nat.le_refl _)
  have I3 : Inv X pins σ (upd H s.heap.objs.size (.lst [])) { s with heap := s.heap.push { cls := .type "list", dict := none, data := .seq ([] : List Value).toArray } } :=
    I.laid (t' := s.toks) (fun b u e => Heap.get?_push_of_some _ e) (Nat.le_refl _) ⟨by decide, [], _, .nil, Heap.get?_push_size _ rfl⟩
  have eD : ∀ b u, s.heap.get? b = some u → b ≠ s.heap.objs.size := fun b u e => Nat.ne_of_lt (Heap.lt_size e)
  have fk3 : ∀ b ∈ fp, FpOk X pins (upd H s.heap.objs.size (.lst [])) b ∧ ∃ o, (s.heap.push { cls := .type "list", dict := none, data := .seq ([] : List Value).toArray }).get? b = some o := fun b hb => by
    obtain ⟨o, eo, _⟩ := T.obj 0 _ st b hb
    obtain ⟨f1, f2⟩ := fk b hb
    exact ⟨⟨by rw [upd_ne (eD b o eo)]; exact f1, f2⟩, o, Heap.get?_push_of_some _ eo⟩
  have I4 := inv_comp (tk := s.toks + ([] : List (Str × Value)).length) I3 c rfl hns hsb fk3
  obtain ⟨W, ⟨m0, w0⟩, turn⟩ := h _ hf
  have st4 : tn 0 h1 := T.keep 0 _ _ st fun b hb o e => by
    have e2 := Heap.get?_push_of_some { cls := .type "list", dict := none, data := .seq ([] : List Value).toArray } e
    exact hsb.extBut b o (Nat.ne_of_lt (Heap.lt_size e2)) (Heap.get?_push_of_some _ e2)
  have stat : ∀ {H' : Hp}, (∀ b ∈ fp, H' b = none) → ∀ b ∈ fp, FpOk (compCx X ys M scope cl (s.heap.push { cls := .type "list", dict := none, data := .seq ([] : List Value).toArray }).objs.size { s with heap := s.heap.push { cls := .type "list", dict := none, data := .seq ([] : List Value).toArray } } (upd H s.heap.objs.size (.lst [])) fp pins) [] H' b :=
    fun hn b hb => ⟨hn b hb, (I4.ok.exf b hb).1, I4.ok.exfs b hb, .inl hb, (I4.ok.exf b hb).2, fun p hp => (fk3 b hb).1.2.2.2.2.2 p (by simpa [compCx] using hp)⟩
  have loop : ∀ s4 : Shared, s4 = { s with heap := h1, toks := s.toks + ([] : List (Str × Value)).length } →
      codeAny (model X.prog X.w) X.A (.compLoop (.ListComp elt [⟨tg, iter, [], 0⟩] scope pos) 0 (.ref it) (.ref s.heap.objs.size) (compEnvC scope cl (s.heap.push { cls := .type "list", dict := none, data := .seq ([] : List Value).toArray }).objs.size X.env))
        (RR (.ref s.heap.objs.size) (s.heap.push { cls := .type "list", dict := none, data := .seq ([] : List Value).toArray }).objs.size) s4 := by
    rintro s4 rfl
    refine comp_loop (fun n s' => ∃ (i : Nat) (us : St) (H' : Hp), us.length = ys.length ∧ Inv (compCx X ys M scope cl (s.heap.push { cls := .type "list", dict := none, data := .seq ([] : List Value).toArray }).objs.size { s with heap := s.heap.push { cls := .type "list", dict := none, data := .seq ([] : List Value).toArray } } (upd H s.heap.objs.size (.lst [])) fp pins) [] (us ++ σ) H' s' ∧ tn i s'.heap ∧ (∀ b ∈ fp, H' b = none) ∧ W i n H')
      ?_ m0 ⟨0, _, _, List.length_replicate, I4, st4, fun b hb => (fk3 b hb).1.1, w0⟩
    rintro n s5 ⟨i, us, H5, lu, I5, st5, fr5, w5⟩
    rcases turn i n H5 w5 with ⟨stop, q⟩ | ⟨go, step⟩
    · refine thn (T.done (compCx X ys M scope cl _ _ _ _ _) rfl rfl rfl hc i [] s5 _ H5 _ I5 (stat fr5) st5 stop) fun r s6 ⟨er, I6⟩ => ?_
      subst er
      obtain ⟨m, hn6, _⟩ := id I6.loc
      obtain ⟨o6, _, _, ho6, _⟩ := id hn6
      exact fin _ _ H5 s6 (by rw [Heap.size_push]; exact Nat.le_succ _) (fun z => by have z' := ho6.symm.trans z; cases z') ⟨m, hn6⟩ I6.free (inv_uncomp I3 fk3 I6) q
    · refine thn (T.item (compCx X ys M scope cl _ _ _ _ _) rfl rfl rfl hc i [] s5 _ H5 _ I5 (stat fr5) st5 go) fun r s6 ⟨u, er, h6⟩ => ?_
      subst er
      refine thn h6 fun _ s7 ⟨v', H7, I7, r7, y7, st7, fr7⟩ => ?_
      have I7' := I7.pinned (stat fr7) (T.obj _ _ st7)
      refine wpAny_mono (hg _ _ _ _ _ _ s7 _ H7 v' u _ I7' r7 (step v' H7 y7 us lu)) (fun _ s8 ⟨σ8, H8, I8, ⟨us', lu', e8⟩, q8⟩ => ?_) fun _ _ z => z.elim
      refine wpAny_mono (he _ _ _ _ _ _ s8 _ H8 _ I8 q8) (fun y s9 ⟨yv, H9, I9, ry, xs, hxs, hlen, m', hm, w9⟩ => ?_) fun _ _ z => z.elim
      refine wpAny_mono (mt_append (X := compCx X ys M scope cl _ _ _ _ _) _ s9 _ H9 (.ref s.heap.objs.size) [yv] (.ref s.heap.objs.size) [y] (fun _ H10 => H10 = upd H9 s.heap.objs.size (.lst (xs ++ [yv]))) I9 rfl (.cons ry .nil) ⟨_, xs, yv, rfl, rfl, hxs, hlen, rfl⟩) (fun _ s10 ⟨z, H10, I10, rz, q10⟩ => ?_) fun _ _ z => z.elim
      subst q10
      subst e8
      refine ⟨m', hm, i + 1, us', _, lu', I10.unpinned (pins := []), T.keep _ _ _ st7 fun b hb o e => (I10.pin (b, o) (List.mem_append_right _ (List.mem_append_right _ (mem_pinsAt hb e)))).1, fun b hb => ?_, w9⟩
      obtain ⟨o, e, _⟩ := T.obj _ _ st7 b hb
      exact (I10.pin (b, o) (List.mem_append_right _ (List.mem_append_right _ (mem_pinsAt hb e)))).2.1
  exact codeAny_compStart_list (loop _ rfl) (T.self _ 0 _ _ _ st4 (loop _ rfl))
end
section
variable {X : Cx} {ys M : List Str} {x : Str} {scope : Scope} {cl : List (Str × Addr)}
/-- [elt for tg in iter] as a value -/
theorem pe_compG {elt iter tg : Expr} {pos : Pos} {wi : TI} {g : TG} {te : TE} (c : CompSc X ys M scope cl) (hc : X.calm = true) (hi : PI X tg iter wi) (hg : ∀ C s₀ H₀ fp pins, PG (compCx X ys M scope cl C s₀ H₀ fp pins) tg g) (he : ∀ C s₀ H₀ fp pins, PE (compCx X ys M scope cl C s₀ H₀ fp pins) elt te)
    (hs : ∀ v, foldedSetIterable iter X.env v = pure v := by intro _; rfl) : PE X (.ListComp elt [⟨tg, iter, [], 0⟩] scope pos) (tCompG wi ys.length g te) := by
  intro pins s σ H Q I h
  rw [eval_ListComp]
  refine wpAny_comprehension_free (use := none) rfl hs c.clos c.kind c.names (thn (hi pins s σ H _ I h) fun v s1 h1 => thn h1 fun itv s2 h2 => ?_)
  obtain ⟨it, fp, tn, J, H2, rfl, I2, T, st2, fk2, h3⟩ := h2
  refine comp_core (E := X.xe) (QQ := fun D H' => Q (.ref D) H') I2 c hc hg he T st2 fk2 h3 fun D C H' s' hC hl ns fr I' q => ?_
  obtain ⟨m, hn⟩ := ns
  refine ⟨m, hn, fun h' hs' => ?_⟩
  have sz := I2.sz
  exact ⟨.ref D, H', I'.turned (t' := s'.toks) (fun b o hb e => (hs'.2 b hb).trans e) fr (I2.fpOk hC fr).2.1 (I2.fpOk hC fr).2.2.2.1 (I2.fpOk hC fr).2.2.2.2.1 (I2.fpOk hC fr).2.2.2.2.2, rfl, q⟩
/-- y = [elt for tg in iter] on one line: the store comes ahead of the comprehension's own names' end -/
theorem ps_setCG {elt iter tg : Expr} {pos py sp : Pos} {wi : TI} {g : TG} {te : TE} {i : Nat} {y : Str} (hy : X.N[i]? = some y) (ly : X.env.scope.names.lookup y = some .local) (c : CompSc X ys M scope cl) (hN : X.N.Nodup) (hc : X.calm = true) (hi : PI X tg iter wi)
    (hg : ∀ C s₀ H₀ fp pins, PG (compCx X ys M scope cl C s₀ H₀ fp pins) tg g) (he : ∀ C s₀ H₀ fp pins, PE (compCx X ys M scope cl C s₀ H₀ fp pins) elt te)
    (hsw : swapsWith (.ListComp elt [⟨tg, iter, [], 0⟩] scope pos) (some (.Name y py)) sp.line X.env = pure true := by rfl) (hs : ∀ v, foldedSetIterable iter X.env v = pure v := by intro _; rfl) :
    PS X (.Assign [.Name y py] (.ListComp elt [⟨tg, iter, [], 0⟩] scope pos) sp) (tAsg (tCompG wi ys.length g te) (gName i)) := by
  intro pins s σ H D I h
  rw [exec_Assign_Name_used _ _ _ _ hsw]
  refine wpAny_bind (wpAny_standAt (wpAny_bind ?_))
  show wpAny _ X.A (do let _ ← comprehension (.ListComp elt [⟨tg, iter, [], 0⟩] scope pos) scope X.env _ (newList []) false (eval iter X.env) (some (assign (.Name y py) X.env))) _ _ s
  refine wpAny_bind (wpAny_mono (wpAny_comprehension_free (use := some (assign (.Name y py) X.env)) (Q := fun _ s' => SP X pins D .next s') rfl hs c.clos c.kind c.names (thn (hi pins s σ H _ I h) fun v s1 h1 => thn h1 fun itv s2 h2 => ?_)) (fun _ s' hq => wpAny_pure (wpAny_pure hq)) fun _ _ z => z)
  obtain ⟨it, fp, tn, J, H2, rfl, I2, T, st2, fk2, h3⟩ := h2
  refine comp_core (E := X.xe) (QQ := fun Da H' => D.nx (σ.set i (some (.ref Da))) H') I2 c hc hg he T st2 fk2 h3 fun Da C H' s' hC hl ns fr I' q => ?_
  obtain ⟨m, hn⟩ := ns
  refine wpAny_assign_Name (store_ok2 I' hN hy (.inl ly) (v := .ref Da) rfl (fun s3 I3 ⟨a, hsa, ha⟩ => ?_) (.inr ly))
  have nC : C ≠ a := by
    rcases ha with z | z
    · rw [z]; exact (I2.fpOk hC fr).2.1
    · exact fun w' => (I2.fpOk hC fr).2.2.2.2.1 y a z w'.symm
  refine ⟨m, hn.sameBut hsa nC, fun h' hs' => ⟨_, H', I3.turned (t' := s3.toks) (fun b o hb e => (hs'.2 b hb).trans e) fr (I2.fpOk hC fr).2.1 (I2.fpOk hC fr).2.2.2.1 (I2.fpOk hC fr).2.2.2.2.1 (I2.fpOk hC fr).2.2.2.2.2, q⟩⟩
theorem own_pg {px : Pos} (c : CompSc X [x] M scope cl) (C : Addr) (s₀ : Shared) (H₀ : Hp) (fp : List Addr) (pins : List (Addr × Obj)) : PG (compCx X [x] M scope cl C s₀ H₀ fp pins) (.Name x px) (gName 0) := by
  have hx : (relabel scope X.env).names.lookup x = some .local := lookup_relabel_local (c.own x (by simp))
  exact pg_name (X := compCx X [x] M scope cl C s₀ H₀ fp pins) (i := 0) c.nd rfl (.inl hx) (.inr hx)
end
end L2
namespace L2
open PySem PySem.Spec PyProof.Rows
def relS (scope sc : Scope) : List (Str × NameKind) := scope.names.map fun (n, k) => if (k == .free && sc.kind == .function && sc.names.lookup n == some .cell) then (n, .cell) else (n, k)
def clOf (scope : Scope) (cells : List (Str × Addr)) : List (Str × Addr) := ((scope.names.filter fun n => n.2 == .free).map fun n => (n.1, (cells.lookup n.1).getD 0)).reverse
structure CompS (sc : Scope) (N M ys : List Str) (scope : Scope) : Prop where
  kind : scope.kind = .function
  nocell : ∀ y ∈ scope.names, y.2 ≠ .cell
  names : ∀ y ∈ scope.names, y.2 = .local → scope.names.lookup y.1 = some .local
  own : ∀ y ∈ ys, scope.names.lookup y = some .local
  nd : (ys ++ M).Nodup
  len : M.length = N.length
  same : ∀ p ∈ M.zip N, p.1 = p.2 ∨ (relS scope sc).lookup p.1 = none
  apart : ∀ y ∈ M, (relS scope sc).lookup y ≠ some .local
  free : ∀ n ∈ scope.names, n.2 = .free → sc.names.lookup n.1 = some .cell
theorem lookup_const {g : Str → Addr} : ∀ {l : List (Str × Addr)} {y : Str}, (∀ n ∈ l, n.2 = g n.1) → ∀ {c : Addr}, l.lookup y = some c → c = g y ∧ ∃ n ∈ l, n.1 = y
  | [], _, _, _, h => by simp at h
  | (n, a) :: r, y, hg, c, h => by
    by_cases e : y = n
    · subst e
      rw [List.lookup_cons, beq_self_eq_true] at h
      have h' : a = c := Option.some.inj h
      exact ⟨by rw [← h']; exact hg (y, a) List.mem_cons_self, _, List.mem_cons_self, rfl⟩
    · have e' : (y == n) = false := beq_eq_false_iff_ne.mpr e
      rw [List.lookup_cons, e'] at h
      obtain ⟨h1, m, hm, h2⟩ := lookup_const (fun n hn => hg n (List.mem_cons_of_mem _ hn)) h
      exact ⟨h1, m, List.mem_cons_of_mem _ hm, h2⟩
theorem lookup_mem {l : List (Str × Addr)} {y : Str} : (∃ n ∈ l, n.1 = y) → ∃ c, l.lookup y = some c := by
  induction l with
  | nil => rintro ⟨n, hn, _⟩; cases hn
  | cons a r ih =>
    rintro ⟨n, hn, e⟩
    obtain ⟨m, b⟩ := a
    by_cases e' : y = m
    · subst e'
      exact ⟨b, by rw [List.lookup_cons, beq_self_eq_true]⟩
    · have e2 : (y == m) = false := beq_eq_false_iff_ne.mpr e'
      rw [List.lookup_cons, e2]
      refine ih ?_
      rcases List.mem_cons.mp hn with z | z
      · rw [z] at e
        exact absurd e.symm e'
      · exact ⟨n, z, e⟩
theorem clOf_mem {scope : Scope} {cells : List (Str × Addr)} {n : Str × Addr} : n ∈ clOf scope cells ↔ ∃ m ∈ scope.names, m.2 = .free ∧ n = (m.1, (cells.lookup m.1).getD 0) := by
  unfold clOf
  rw [List.mem_reverse, List.mem_map]
  constructor
  · rintro ⟨m, hm, rfl⟩
    rw [List.mem_filter] at hm
    exact ⟨m, hm.1, beq_iff_eq.mp hm.2, rfl⟩
  · rintro ⟨m, hm, hk, rfl⟩
    exact ⟨m, List.mem_filter.mpr ⟨hm, beq_iff_eq.mpr hk⟩, rfl⟩
theorem closure_eq {env : Env} : ∀ (names : List (Str × NameKind)) (acc : List (Str × Addr)), (∀ n ∈ names, n.2 = .free → ∃ c, env.cells.lookup n.1 = some c) →
    (forIn names acc fun x r => do
      let (name, kind) := x
      if kind == .free then do
        let c ← cellOf env name
        pure (ForInStep.yield ((name, c) :: r))
      else pure (ForInStep.yield r) : Sem (List (Str × Addr))) = pure (((names.filter fun n => n.2 == .free).map fun n => (n.1, (env.cells.lookup n.1).getD 0)).reverse ++ acc)
  | [], acc, _ => rfl
  | (n, k) :: r, acc, h => by
    have ih := fun acc => closure_eq r acc fun m hm => h m (List.mem_cons_of_mem _ hm)
    rw [List.forIn_cons]
    by_cases hk : k = .free
    · subst hk
      obtain ⟨c, hc⟩ := h (n, .free) List.mem_cons_self rfl
      have e1 : cellOf env n = pure c := by unfold cellOf; rw [hc]
      simp only [beq_self_eq_true, if_true, e1, pure_bind, List.filter_cons, List.map_cons, List.reverse_cons, List.append_assoc, List.singleton_append]
      rw [hc]
      exact ih _
    · have hb : (k == NameKind.free) = false := beq_eq_false_iff_ne.mpr hk
      simp only [hb, Bool.false_eq_true, if_false, pure_bind, List.filter_cons]
      exact ih _
theorem CompS.sc {X : Cx} {ys M : List Str} {scope : Scope} (c : CompS X.env.scope X.N M ys scope) (ok : X.Ok) : CompSc X ys M scope (clOf scope X.env.cells) := by
  have hfc : ∀ n ∈ scope.names, n.2 = .free → ∃ a, X.env.cells.lookup n.1 = some a := fun n hn hk => ok.has n.1 (.inl (c.free n hn hk))
  refine ⟨c.kind, c.nocell, c.names, c.own, ?_, c.nd, c.len, c.same, c.apart, fun y a h => ?_, fun y h => ?_⟩
  · have z := closure_eq (env := X.env) scope.names [] hfc
    rw [List.append_nil] at z
    exact (congrArg (fun m : Sem (List (Str × Addr)) => m >>= fun cs => pure cs) z).trans rfl
  · obtain ⟨h1, n, hn, e⟩ := lookup_const (g := fun z => (X.env.cells.lookup z).getD 0) (fun n hn => by obtain ⟨m, _, _, rfl⟩ := clOf_mem.mp hn; rfl) h
    obtain ⟨m, hm, hk, e2⟩ := clOf_mem.mp hn
    have ey : m.1 = y := by rw [← e, e2]
    obtain ⟨a', ha'⟩ := hfc m hm hk
    rw [ey] at ha'
    refine ⟨?_, .inl (by rw [← ey]; exact c.free m hm hk)⟩
    rw [h1, ha']
    rfl
  · have hm : ∃ m ∈ scope.names, m.1 = y ∧ m.2 = .free := by
      have go : ∀ names : List (Str × NameKind), (∀ z ∈ names, z.2 ≠ .cell) → ((names.map fun (n, k) => if (k == .free && X.env.scope.kind == .function && X.env.kindOf n == some .cell) then (n, NameKind.cell) else (n, k)).lookup y = some .cell ∨ (names.map fun (n, k) => if (k == .free && X.env.scope.kind == .function && X.env.kindOf n == some .cell) then (n, NameKind.cell) else (n, k)).lookup y = some .free) → ∃ m ∈ names, m.1 = y ∧ m.2 = .free := by
        intro names
        induction names with
        | nil => intro _ h; simp at h
        | cons a r ih =>
          intro nc h
          obtain ⟨n, k⟩ := a
          by_cases e : y = n
          · subst e
            refine ⟨_, List.mem_cons_self, rfl, ?_⟩
            have nk : k ≠ .cell := nc (y, k) List.mem_cons_self
            by_cases hk : k = .free
            · exact hk
            · have hb : (k == NameKind.free) = false := beq_eq_false_iff_ne.mpr hk
              simp only [List.map_cons, hb, Bool.false_and, Bool.false_eq_true, if_false, List.lookup_cons, beq_self_eq_true] at h
              rcases h with z | z
              · exact absurd (Option.some.inj z) nk
              · exact absurd (Option.some.inj z) hk
          · have e' : (y == n) = false := beq_eq_false_iff_ne.mpr e
            have h' : (r.map fun (n, k) => if (k == .free && X.env.scope.kind == .function && X.env.kindOf n == some .cell) then (n, NameKind.cell) else (n, k)).lookup y = some .cell ∨ (r.map fun (n, k) => if (k == .free && X.env.scope.kind == .function && X.env.kindOf n == some .cell) then (n, NameKind.cell) else (n, k)).lookup y = some .free := by
              by_cases hb : (k == .free && X.env.scope.kind == .function && X.env.kindOf n == some .cell) = true
              · simpa only [List.map_cons, hb, if_true, List.lookup_cons, e'] using h
              · simpa only [List.map_cons, hb, Bool.false_eq_true, if_false, List.lookup_cons, e'] using h
            obtain ⟨m, hm, r1⟩ := ih (fun z hz => nc z (List.mem_cons_of_mem _ hz)) h'
            exact ⟨m, List.mem_cons_of_mem _ hm, r1⟩
      exact go scope.names c.nocell h
    obtain ⟨m, hm, e, hk⟩ := hm
    exact lookup_mem ⟨_, clOf_mem.mpr ⟨m, hm, hk, rfl⟩, e⟩
section
variable {X : Cx} {x : Str} {ys M : List Str} {scope : Scope}
theorem pe_lcG {elt iter tg : Expr} {pos : Pos} {wi : TI} {g : TG} {te : TE} (c : CompS X.env.scope X.N M ys scope) (hc : X.calm = true) (hi : PI X tg iter wi) (hg : ∀ C s₀ H₀ fp pins, PG (compCx X ys M scope (clOf scope X.env.cells) C s₀ H₀ fp pins) tg g) (he : ∀ C s₀ H₀ fp pins, PE (compCx X ys M scope (clOf scope X.env.cells) C s₀ H₀ fp pins) elt te)
    (hs : ∀ v, foldedSetIterable iter X.env v = pure v := by intro _; rfl) : PE X (.ListComp elt [⟨tg, iter, [], 0⟩] scope pos) (tCompG wi ys.length g te) := fun pins s σ H Q I h => pe_compG (c.sc I.ok) hc hi hg he hs pins s σ H Q I h
theorem pe_lc {elt iter : Expr} {px pos : Pos} {wi : TI} {te : TE} (c : CompS X.env.scope X.N M [x] scope) (hN : X.N.Nodup) (hc : X.calm = true) (hi : PI X (.Name x px) iter wi) (he : ∀ C s₀ H₀ fp pins, PE (compCx X [x] M scope (clOf scope X.env.cells) C s₀ H₀ fp pins) elt te)
    (hs : ∀ v, foldedSetIterable iter X.env v = pure v := by intro _; rfl) : PE X (.ListComp elt [⟨.Name x px, iter, [], 0⟩] scope pos) (tComp wi te) := by
  intro pins s σ H Q I h
  have hi' : PI X (.Name x px) iter (fun σ H R => ∃ R', (∀ J H1, R' J H1 → R J H1) ∧ wi σ H R') := by
    intro pins s σ H R I ⟨R', hR, hw⟩
    refine thn (hi pins s σ H R' I hw) fun v s1 h1 => thn h1 fun itv s2 ⟨it, fp, tn, J, H', e, I', T, t0, fk, r⟩ => ⟨it, fp, tn, J, H', e, I', T, t0, fk, hR J H' r⟩
  exact pe_compG (c.sc I.ok) hc hi' (fun C s₀ H₀ fp pins => own_pg (c.sc I.ok) C s₀ H₀ fp pins) he hs pins s σ H Q I ⟨_, fun J H1 q => compG_of q, h⟩
theorem ps_lc {elt iter : Expr} {px pos py sp : Pos} {wi : TI} {te : TE} {i : Nat} {y : Str} (hN : X.N.Nodup) (hy : X.N[i]? = some y) (ly : X.env.scope.names.lookup y = some .local) (c : CompS X.env.scope X.N M [x] scope) (hc : X.calm = true) (hi : PI X (.Name x px) iter wi) (he : ∀ C s₀ H₀ fp pins, PE (compCx X [x] M scope (clOf scope X.env.cells) C s₀ H₀ fp pins) elt te)
    (hsw : swapsWith (.ListComp elt [⟨.Name x px, iter, [], 0⟩] scope pos) (some (.Name y py)) sp.line X.env = pure true := by rfl) (hs : ∀ v, foldedSetIterable iter X.env v = pure v := by intro _; rfl) :
    PS X (.Assign [.Name y py] (.ListComp elt [⟨.Name x px, iter, [], 0⟩] scope pos) sp) (tAsg (tComp wi te) (gName i)) := by
  intro pins s σ H D I h
  have hi' : PI X (.Name x px) iter (fun σ H R => ∃ R', (∀ J H1, R' J H1 → R J H1) ∧ wi σ H R') := by
    intro pins s σ H R I ⟨R', hR, hw⟩
    refine thn (hi pins s σ H R' I hw) fun v s1 h1 => thn h1 fun itv s2 ⟨it, fp, tn, J, H', e, I', T, t0, fk, r⟩ => ⟨it, fp, tn, J, H', e, I', T, t0, fk, hR J H' r⟩
  exact ps_setCG hy ly (c.sc I.ok) hN hc hi' (fun C s₀ H₀ fp pins => own_pg (c.sc I.ok) C s₀ H₀ fp pins) he hsw hs pins s σ H D I ⟨_, fun J H1 q => compG_of q, h⟩
end
end L2
namespace L2
open PySem PySem.Spec PyProof.Rows
/-- an element joins the new list -/
def Push (D : Addr) (Pv : Hp → Prop) : VK := fun y H2 => ∃ xs, H2 D = some (.lst xs) ∧ xs.length < sizeLine ∧ Pv (upd H2 D (.lst (xs ++ [y])))
section
variable {K : PySem.W.Frag} {te : TE} {σ : St} {Q : VK} {H : Hp}
/-- the elements one by one; te has the exact wish -/
def EltK (D : Addr) (n i : Nat) (Pv : Nat → Hp → Prop) : VK := fun y H2 => ∃ xs, H2 D = some (.lst xs) ∧ xs.length < sizeLine ∧ ∃ m', m' < n - i ∧ m' = n - (i + 1) ∧ i + 1 ≤ n ∧ Pv (i + 1) (upd H2 D (.lst (xs ++ [y])))
def Elt (te : TE) (σ : St) (v : V) (H : Hp) (D : Addr) (n i : Nat) (Pv : Nat → Hp → Prop) : Prop := te (some v :: σ) H (EltK D n i Pv)
theorem pushed {D : Addr} {n i : Nat} {Pv : Nat → Hp → Prop} {y : V} {H2 : Hp} (hi : i < n) (h : Push D (Pv (i + 1)) y H2) : EltK D n i Pv y H2 := by
  obtain ⟨xs, h1, h2, h3⟩ := h
  exact ⟨xs, h1, h2, n - (i + 1), by walk_at "om", rfl, hi, h3⟩
/-- [elt for x in range(lo, lo + n)] -/
theorem comp_range {lo : Int} {n : Nat} (h : ∀ D, H D = none → ∃ Pv : Nat → Hp → Prop, Pv 0 (upd H D (.lst [])) ∧ (∀ i H2, i < n → Pv i H2 → Elt te σ (.int (lo + i)) H2 D n i Pv) ∧ ∀ H2, Pv n H2 → Q (.ref D) H2) : CompAt (Itr lo n) te σ Q H := by
  intro D nD
  obtain ⟨Pv, h0, hs, hd⟩ := h D nD
  refine ⟨fun i m H => m = n - i ∧ i ≤ n ∧ Pv i H, ⟨n, by simp, Nat.zero_le _, h0⟩, ?_⟩
  rintro i m H ⟨rfl, hi, p⟩
  by_cases hlt : i < n
  · refine .inr ⟨hlt, fun v H' y => ?_⟩
    obtain ⟨e, y⟩ := y
    subst e y
    exact hs i _ hlt p
  · have e : i = n := by walk_at "om"
    subst e
    exact .inl ⟨Nat.le_refl _, hd H p⟩
/-- [elt for x in xs], xs a list that the elements leave as it is -/
theorem comp_list {a : Addr} {xs : List V} (h : ∀ D, H D = none → ∃ Pv : Nat → Hp → Prop, Pv 0 (upd H D (.lst [])) ∧ (∀ i H2, i ≤ xs.length → Pv i H2 → SqL K H2 a xs) ∧ (∀ i x H2, xs[i]? = some x → Pv i H2 → Elt te σ x H2 D xs.length i Pv) ∧ ∀ H2, Pv xs.length H2 → Q (.ref D) H2) : CompAt (Itl K a) te σ Q H := by
  intro D nD
  obtain ⟨Pv, h0, hl, hs, hd⟩ := h D nD
  refine ⟨fun i m H => m = xs.length - i ∧ i ≤ xs.length ∧ Pv i H, ⟨xs.length, by simp, Nat.zero_le _, h0⟩, ?_⟩
  rintro i m H ⟨rfl, hi, p⟩
  have q := hl i H hi p
  by_cases hlt : i < xs.length
  · refine .inr ⟨⟨xs, xs[i], q, by simp [hlt]⟩, fun v H' y => ?_⟩
    obtain ⟨e, y⟩ := y
    subst e
    exact hs i v _ (y xs q) p
  · have e : i = xs.length := by walk_at "om"
    subst e
    exact .inl ⟨⟨xs, q, Nat.le_refl _⟩, hd H p⟩
theorem comp_tup {a : Addr} {xs : List V} (h : ∀ D, H D = none → ∃ Pv : Nat → Hp → Prop, Pv 0 (upd H D (.lst [])) ∧ (∀ i H2, i ≤ xs.length → Pv i H2 → SqT K H2 a xs) ∧ (∀ i x H2, xs[i]? = some x → Pv i H2 → Elt te σ x H2 D xs.length i Pv) ∧ ∀ H2, Pv xs.length H2 → Q (.ref D) H2) : CompAt (Itt K a) te σ Q H := by
  intro D nD
  obtain ⟨Pv, h0, hl, hs, hd⟩ := h D nD
  refine ⟨fun i m H => m = xs.length - i ∧ i ≤ xs.length ∧ Pv i H, ⟨xs.length, by simp, Nat.zero_le _, h0⟩, ?_⟩
  rintro i m H ⟨rfl, hi, p⟩
  have q := hl i H hi p
  by_cases hlt : i < xs.length
  · refine .inr ⟨⟨xs, xs[i], q, by simp [hlt]⟩, fun v H' y => ?_⟩
    obtain ⟨e, y⟩ := y
    subst e
    exact hs i v _ (y xs q) p
  · have e : i = xs.length := by walk_at "om"
    subst e
    exact .inl ⟨⟨xs, q, Nat.le_refl _⟩, hd H p⟩
end
end L2

namespace L2
open PySem PySem.Spec PyProof.Rows
open PySem.W (Dat kqdOk)
section
variable {K : PySem.W.Frag} {σ : St} {H : Hp} {Q : VK} {D : Ends} {ta tb tc te : TE} {t u : TS} {c : TT} {QB : Bool → Hp → Prop} {QA : List V → Hp → Prop} {QS : St → Hp → Prop}
theorem k_seq (h : t { D with nx := u D } σ H) : tSeq t u D σ H := h
theorem k_next (h : D.nx σ H) : tNext D σ H := h
theorem k_drop (h : te σ H fun _ H1 => D.nx σ H1) : tDrop te D σ H := h
theorem k_ret (h : te σ H D.rt) : tRet te D σ H := h
theorem k_ifS (h : c σ H fun b H1 => if b = true then t D σ H1 else u D σ H1) : tIfS c t u D σ H := h
theorem k_asg {g : TG} (h : te σ H fun x H1 => g x σ H1 D.nx) : tAsg te g D σ H := h
theorem k_gName {i : Nat} {v : V} (h : QS (σ.set i (some v)) H) : gName i v σ H QS := h
theorem k_var {i : Nat} {v : V} (e : σ[i]? = some (some v)) (h : Q v H) : tVar i σ H Q := ⟨v, e, h⟩
theorem k_c {v : V} (h : Q v H) : tC v σ H Q := h
theorem k_op {r : R2} (h : ta σ H fun x H1 => tb σ H1 fun y H2 => r x y H2 Q) : tOp r ta tb σ H Q := h
theorem k_un {r : V → Hp → VK → Prop} (h : ta σ H fun x H1 => r x H1 Q) : tUn r ta σ H Q := h
theorem k_rU {g : Int → V} {i : Int} (h : Q (g i) H) : rU g (.int i) H Q := ⟨i, rfl, h⟩
theorem k_rI0 {g : Int → Int → V} {i j : Int} (h : Q (g i j) H) : rI0 g (.int i) (.int j) H Q := ⟨i, j, rfl, rfl, h⟩
theorem k_rI {C : Int → Int → Prop} {g : Int → Int → V} {i j : Int} (hc : C i j) (h : Q (g i j) H) : rI C g (.int i) (.int j) H Q := ⟨i, j, rfl, rfl, hc, h⟩
theorem k_eqI {i j : Int} (h : Q (.bl (decide (i = j))) H) : rEq (.int i) (.int j) H Q := ⟨rfl, by
  have e : decide (V.int i = V.int j) = decide (i = j) := by
    by_cases z : i = j
    · subst z; simp
    · simp [z]
  rw [e]; exact h⟩
theorem k_neI {i j : Int} (h : Q (.bl (!decide (i = j))) H) : rNe (.int i) (.int j) H Q := ⟨rfl, by
  have e : decide (V.int i = V.int j) = decide (i = j) := by
    by_cases z : i = j
    · subst z; simp
    · simp [z]
  rw [e]; exact h⟩
theorem k_eqS {i j : Str} (h : Q (.bl (decide (i = j))) H) : rEq (.str i) (.str j) H Q := ⟨rfl, by
  have e : decide (V.str i = V.str j) = decide (i = j) := by
    by_cases z : i = j
    · subst z; simp
    · simp [z]
  rw [e]; exact h⟩
theorem k_eqB {i j : Bool} (h : Q (.bl (decide (i = j))) H) : rEq (.bl i) (.bl j) H Q := ⟨rfl, by
  have e : decide (V.bl i = V.bl j) = decide (i = j) := by
    by_cases z : i = j
    · subst z; simp
    · simp [z]
  rw [e]; exact h⟩
theorem k_neB {i j : Bool} (h : Q (.bl (!decide (i = j))) H) : rNe (.bl i) (.bl j) H Q := ⟨rfl, by
  have e : decide (V.bl i = V.bl j) = decide (i = j) := by
    by_cases z : i = j
    · subst z; simp
    · simp [z]
  rw [e]; exact h⟩
theorem k_isN {x : V} (h : Q (.bl (decide (x = .non))) H) : rIsN x .non H Q := ⟨rfl, h⟩
theorem k_test (h : te σ H fun x H' => ∃ k, x = .bl k ∧ QB k H') : tTest te σ H QB := h
theorem k_tB (h : te σ H fun x H' => ∃ k, x = .bl k ∧ QB k H') : tB te σ H QB := h
theorem k_bl {P : Bool → Prop} {b : Bool} (h : P b) : ∃ k, V.bl b = .bl k ∧ P k := ⟨b, rfl, h⟩
theorem k_not (h : c σ H fun b H1 => QB (!b) H1) : tNot c σ H QB := h
theorem k_and {c' : TT} (h : c σ H fun b H1 => if b = true then c' σ H1 QB else QB false H1) : tAnd c c' σ H QB := h
theorem k_or {c' : TT} (h : c σ H fun b H1 => if b = true then QB true H1 else c' σ H1 QB) : tOr c c' σ H QB := h
theorem k_andV (h : ta σ H fun x H1 => ∃ k, x = .bl k ∧ if k = true then tb σ H1 Q else Q (.bl false) H1) : tAndV ta tb σ H Q := h
theorem k_notV (h : ta σ H fun x H1 => ∃ k, x = .bl k ∧ Q (.bl (!k)) H1) : tNotV ta σ H Q := h
theorem k_if (h : c σ H fun b H1 => if b = true then ta σ H1 Q else tb σ H1 Q) : tIf c ta tb σ H Q := h
theorem k_nil (h : QA [] H) : tNil σ H QA := h
theorem k_cons {tr : TA} (h : ta σ H fun x H1 => tr σ H1 fun xs H2 => QA (x :: xs) H2) : tCons ta tr σ H QA := h
theorem k_call {sp : Sp} {dvs : List V} {E : XK} {ts : TA} (h : ts σ H fun vs H1 => sp (vs ++ dvs) H1 Q E) : tCall sp dvs E ts σ H Q := h
theorem k_cB {r : List V → Hp → VK → Prop} {ts : TA} (h : ts σ H fun vs H1 => r vs H1 Q) : tCB r ts σ H Q := h
theorem k_tup {ts : TA} (h : ts σ H fun xs H1 => xs.length ≤ sizeLine ∧ ∀ p, H1 p = none → Q (.ref p) (upd H1 p (.tup xs))) : tTup ts σ H Q := h
theorem k_lst {ts : TA} (h : ts σ H fun xs H1 => xs.length ≤ sizeLine ∧ ∀ p, H1 p = none → Q (.ref p) (upd H1 p (.lst xs))) : tLst ts σ H Q := h
theorem k_sl {r : V → Option Int → Option Int → Hp → VK → Prop} {tl th : TO} (h : te σ H fun x H1 => tl σ H1 fun l H2 => th σ H2 fun u H3 => r x l u H3 Q) : tSl r te tl th σ H Q := h
theorem k_noPart {QO : Option Int → Hp → Prop} (h : QO none H) : tNoPart σ H QO := h
theorem k_part {QO : Option Int → Hp → Prop} (h : te σ H fun x H1 => ∃ i, x = .int i ∧ QO (some i) H1) : tPart te σ H QO := h
theorem k_int {P : Int → Prop} {i : Int} (h : P i) : ∃ j, V.int i = .int j ∧ P j := ⟨i, rfl, h⟩
theorem k_ite {p : Prop} [Decidable p] {A B : Prop} (h1 : p → A) (h2 : ¬ p → B) : if decide p = true then A else B := iteD h1 h2
theorem k_iteN {p : Prop} [Decidable p] {A B : Prop} (h1 : ¬ p → A) (h2 : p → B) : if (!decide p) = true then A else B := by
  by_cases h : p
  · rw [decide_eq_true h]; exact iteF (h2 h)
  · rw [decide_eq_false h]; exact iteT (h1 h)
theorem k_iteNF {A B : Prop} (h : A) : if (!false) = true then A else B := iteT h
theorem k_iteNT {A B : Prop} (h : B) : if (!true) = true then A else B := iteF h
def FAt (J : It) (g : TG) (tb : TS) (D : Ends) (σ : St) (H1 : Hp) : Prop := ∃ W : Nat → Nat → St → Hp → Prop, (∃ m, W 0 m σ H1) ∧ ∀ i m σ H, W i m σ H →
  (J.stop i H ∧ D.nx σ H) ∨ (J.go i H ∧ ∃ N : St → Hp → Prop, (∀ σ' H', N σ' H' → ∃ m', m' < m ∧ W (i + 1) m' σ' H') ∧ ∀ x H', J.yld i H x H' → g x σ H' fun σ2 H2 => tb { D with nx := N, ct := N, bk := D.nx } σ2 H2)
theorem k_for {wi : TI} {g : TG} {tb : TS} (h : wi σ H fun J H1 => FAt J g tb D σ H1) : tFor wi g tb D σ H := h
theorem k_comp {wi : TI} (h : wi σ H fun J H1 => CompAt J te σ Q H1) : tComp wi te σ H Q := h
theorem k_rng1 {ts : TA} {R : It → Hp → Prop} (h : ts σ H fun vs H1 => ∃ j : Int, vs = [.int j] ∧ -(2 ^ 62) ≤ j ∧ j < 2 ^ 62 ∧ R (Itr 0 j.toNat) H1) : iRng1 ts σ H R := h
theorem k_r1F {g : TG} {tb : TS} {j : Int} (h0 : -(2 ^ 62) ≤ j ∧ j < 2 ^ 62) (h : FAt (Itr 0 j.toNat) g tb D σ H) : ∃ i : Int, [V.int j] = [.int i] ∧ -(2 ^ 62) ≤ i ∧ i < 2 ^ 62 ∧ FAt (Itr 0 i.toNat) g tb D σ H := ⟨j, rfl, h0.1, h0.2, h⟩
theorem k_r1C {j : Int} (h0 : -(2 ^ 62) ≤ j ∧ j < 2 ^ 62) (h : CompAt (Itr 0 j.toNat) te σ Q H) : ∃ i : Int, [V.int j] = [.int i] ∧ -(2 ^ 62) ≤ i ∧ i < 2 ^ 62 ∧ CompAt (Itr 0 i.toNat) te σ Q H := ⟨j, rfl, h0.1, h0.2, h⟩
theorem k_iList {R : It → Hp → Prop} (h : te σ H fun x H1 => ∃ a, x = .ref a ∧ (∃ xs, SqL K H1 a xs) ∧ R (Itl K a) H1) : iList K te σ H R := h
theorem k_iTup {R : It → Hp → Prop} (h : te σ H fun x H1 => ∃ a, x = .ref a ∧ (∃ xs, SqT K H1 a xs) ∧ R (Itt K a) H1) : iTup K te σ H R := h
theorem k_rlF {g : TG} {tb : TS} {a : Addr} {xs : List V} (e : SqL K H a xs) (h : FAt (Itl K a) g tb D σ H) : ∃ b, V.ref a = .ref b ∧ (∃ xs, SqL K H b xs) ∧ FAt (Itl K b) g tb D σ H := ⟨a, rfl, ⟨xs, e⟩, h⟩
theorem k_rlC {a : Addr} {xs : List V} (e : SqL K H a xs) (h : CompAt (Itl K a) te σ Q H) : ∃ b, V.ref a = .ref b ∧ (∃ xs, SqL K H b xs) ∧ CompAt (Itl K b) te σ Q H := ⟨a, rfl, ⟨xs, e⟩, h⟩
theorem k_rtF {g : TG} {tb : TS} {a : Addr} {xs : List V} (e : SqT K H a xs) (h : FAt (Itt K a) g tb D σ H) : ∃ b, V.ref a = .ref b ∧ (∃ xs, SqT K H b xs) ∧ FAt (Itt K b) g tb D σ H := ⟨a, rfl, ⟨xs, e⟩, h⟩
theorem k_rtC {a : Addr} {xs : List V} (e : SqT K H a xs) (h : CompAt (Itt K a) te σ Q H) : ∃ b, V.ref a = .ref b ∧ (∃ xs, SqT K H b xs) ∧ CompAt (Itt K b) te σ Q H := ⟨a, rfl, ⟨xs, e⟩, h⟩
theorem fat_range {lo : Int} {n : Nat} {g : TG} {tb : TS} (Pv : Nat → St → Hp → Prop) (h0 : Pv 0 σ H)
    (hs : ∀ i σ H, i < n → Pv i σ H → g (.int (lo + i)) σ H fun σ2 H2 => tb { D with nx := Pv (i + 1), ct := Pv (i + 1), bk := D.nx } σ2 H2) (hd : ∀ σ H, Pv n σ H → D.nx σ H) : FAt (Itr lo n) g tb D σ H := for_range Pv h0 hs hd
theorem fat_list {a : Addr} {xs : List V} {g : TG} {tb : TS} (Pv : Nat → St → Hp → Prop) (h0 : Pv 0 σ H) (hl : ∀ i σ H, i ≤ xs.length → Pv i σ H → SqL K H a xs)
    (hs : ∀ i x σ H, xs[i]? = some x → Pv i σ H → g x σ H fun σ2 H2 => tb { D with nx := Pv (i + 1), ct := Pv (i + 1), bk := D.nx } σ2 H2) (hd : ∀ σ H, Pv xs.length σ H → D.nx σ H) : FAt (Itl K a) g tb D σ H := for_list Pv h0 hl hs hd
theorem fat_tup {a : Addr} {xs : List V} {g : TG} {tb : TS} (Pv : Nat → St → Hp → Prop) (h0 : Pv 0 σ H) (hl : ∀ i σ H, i ≤ xs.length → Pv i σ H → SqT K H a xs)
    (hs : ∀ i x σ H, xs[i]? = some x → Pv i σ H → g x σ H fun σ2 H2 => tb { D with nx := Pv (i + 1), ct := Pv (i + 1), bk := D.nx } σ2 H2) (hd : ∀ σ H, Pv xs.length σ H → D.nx σ H) : FAt (Itt K a) g tb D σ H := for_tup Pv h0 hl hs hd
theorem k_elt {v : V} {D : Addr} {n i : Nat} {Pv : Nat → Hp → Prop} (h : te (some v :: σ) H (EltK D n i Pv)) : Elt te σ v H D n i Pv := h
theorem k_gTup {n : Nat} {ts : TGs} {a : Addr} {xs : List V} (e : SqT K H a xs) (l : xs.length = n) (h : ts xs σ H QS) : gTup K n ts (.ref a) σ H QS := ⟨a, xs, rfl, e, l, h⟩
theorem k_gCons {tg : TG} {ts : TGs} {v : V} {r : List V} (h : tg v σ H fun σ' H' => ts r σ' H' QS) : gCons tg ts (v :: r) σ H QS := ⟨v, r, rfl, h⟩
theorem k_gNil (h : QS σ H) : gNil [] σ H QS := ⟨rfl, h⟩
theorem k_lenL {p : Addr} {xs : List V} (e : SqL K H p xs) (h : Q (.int xs.length) H) : rLenQ K [.ref p] H Q := ⟨p, xs, rfl, .inl e, h⟩
theorem k_lenT {p : Addr} {xs : List V} (e : SqT K H p xs) (h : Q (.int xs.length) H) : rLenQ K [.ref p] H Q := ⟨p, xs, rfl, .inr e, h⟩
theorem k_ixL {p : Addr} {xs : List V} {i : Int} {v : V} (e : SqL K H p xs) (a : atI xs i = some v) (h : Q v H) : rIxL K (.ref p) (.int i) H Q := ⟨p, xs, i, v, rfl, rfl, e, a, h⟩
theorem k_ixT {p : Addr} {xs : List V} {i : Int} {v : V} (e : SqT K H p xs) (a : atI xs i = some v) (h : Q v H) : rIxT K (.ref p) (.int i) H Q := ⟨p, xs, i, v, rfl, rfl, e, a, h⟩
theorem k_ixS {z : Str} {i : Int} {c : Nat} (e : z.length ≤ sizeLine) (a : atI z.cps.toList i = some c) (h : Q (.str ⟨#[c]⟩) H) : rIxS (.str z) (.int i) H Q := ⟨z, i, c, rfl, rfl, e, a, h⟩
theorem k_tupL {p : Addr} {xs : List V} (e : SqL K H p xs) (h : ∀ l, H l = none → Q (.ref l) (upd H l (.tup xs))) : rTupOf K [.ref p] H Q := ⟨p, xs, rfl, .inl ⟨e, h⟩⟩
theorem k_bm {T : String} {r : V → List V → Hp → VK → Prop} {to : TE} {ts : TA} (h : to σ H fun x H1 => tyV K T x H1 ∧ ts σ H1 fun xs H2 => r x xs H2 Q) : tBM K T r to ts σ H Q := h
theorem k_bm0 {T : String} {r : V → List V → Hp → VK → Prop} {to : TE} (h : to σ H fun x H1 => tyV K T x H1 ∧ r x [] H1 Q) : tBM0 K T r to σ H Q := h
theorem k_tyL {p : Addr} {xs : List V} (e : H p = some (.lst xs)) : tyV K "list" (.ref p) H := .inl ⟨rfl, xs, SqL.of e⟩
theorem k_clear {l : Addr} {xs : List V} (e : H l = some (.lst xs)) (h : Q .non (upd H l (.lst []))) : rClear (.ref l) [] H Q := ⟨l, xs, rfl, rfl, e, h⟩
theorem k_intB {b : Bool} (h : Q (.int (if b then 1 else 0)) H) : rInt1 [.bl b] H Q := .inr ⟨b, rfl, h⟩
theorem k_isi {x : V} {n : String} {ty : Value} {b : Bool} (e : TyOf K H x ty) (k : PySem.W.kitOne K ty (.type n) = some b) (h : Q (.bl b) H) : rIsi K [x, .ty n] H Q := ⟨x, n, ty, b, rfl, e, k, h⟩
theorem k_addS {i j : Str} (n : i.length + j.length ≤ sizeLine) (h : Q (.str (i ++ j)) H) : rAddS (.str i) (.str j) H Q := ⟨i, j, rfl, rfl, n, h⟩
end
mutual
/-- the value stands for the datum; its lists lie in S -/
inductive Rp (K : PySem.W.Frag) (S : Addr → Prop) (H : Hp) : V → Dat → Prop
  | non : Rp K S H .non .none
  | bl (b : Bool) : Rp K S H (.bl b) (.bool b)
  | int (i : Int) : Rp K S H (.int i) (.int i)
  | str (x : Str) : Rp K S H (.str x) (.str x)
  | tup {a : Addr} {xs : List V} {ds : List Dat} : H a = some (.tup xs) → RpL K S H xs ds → Rp K S H (.ref a) (.tuple ds)
  | lst {a : Addr} {xs : List V} {ds : List Dat} : S a → H a = some (.lst xs) → RpL K S H xs ds → Rp K S H (.ref a) (.list ds)
inductive RpL (K : PySem.W.Frag) (S : Addr → Prop) (H : Hp) : List V → List Dat → Prop
  | nil : RpL K S H [] []
  | cons {v : V} {d : Dat} {vs : List V} {ds : List Dat} : Rp K S H v d → RpL K S H vs ds → RpL K S H (v :: vs) (d :: ds)
end
/-- tuples stay, and the lists in S -/
structure Agr (S : Addr → Prop) (H H' : Hp) : Prop where
  tup : ∀ a xs, H a = some (.tup xs) → H' a = some (.tup xs)
  lst : ∀ a xs, S a → H a = some (.lst xs) → H' a = some (.lst xs)
section
variable {K : PySem.W.Frag} {S S' : Addr → Prop} {H H' : Hp}
theorem Agr.of_same (e : Same H H') : Agr S H H' := ⟨fun a xs h => e _ _ h, fun a xs _ h => e _ _ h⟩
theorem Agr.of_upd {l : Addr} {ys : List V} {o : HO} (hl : H l = some (.lst ys)) (ns : ¬ S l) : Agr S H (upd H l o) := by
  refine ⟨fun a xs h => ?_, fun a xs s h => ?_⟩
  · have ne : a ≠ l := by
      rintro rfl
      rw [hl] at h
      cases h
    rw [upd_ne ne]; exact h
  · have ne : a ≠ l := by
      rintro rfl
      exact ns s
    rw [upd_ne ne]; exact h
mutual
theorem Rp.agr (e : Agr S H H') : ∀ {v : V} {d : Dat}, Rp K S H v d → Rp K S H' v d
  | _, _, .non => .non
  | _, _, .bl b => .bl b
  | _, _, .int i => .int i
  | _, _, .str x => .str x
  | _, _, .tup h r => .tup (e.tup _ _ h) (RpL.agr e r)
  | _, _, .lst s h r => .lst s (e.lst _ _ s h) (RpL.agr e r)
theorem RpL.agr (e : Agr S H H') : ∀ {vs : List V} {ds : List Dat}, RpL K S H vs ds → RpL K S H' vs ds
  | _, _, .nil => .nil
  | _, _, .cons h r => .cons (Rp.agr e h) (RpL.agr e r)
end
mutual
theorem Rp.mono (e : ∀ a, S a → S' a) : ∀ {v : V} {d : Dat}, Rp K S H v d → Rp K S' H v d
  | _, _, .non => .non
  | _, _, .bl b => .bl b
  | _, _, .int i => .int i
  | _, _, .str x => .str x
  | _, _, .tup h r => .tup h (RpL.mono e r)
  | _, _, .lst s h r => .lst (e _ s) h (RpL.mono e r)
theorem RpL.mono (e : ∀ a, S a → S' a) : ∀ {vs : List V} {ds : List Dat}, RpL K S H vs ds → RpL K S' H vs ds
  | _, _, .nil => .nil
  | _, _, .cons h r => .cons (Rp.mono e h) (RpL.mono e r)
end
mutual
theorem Rp.rep : ∀ {v : V} {d : Dat}, Rp K S H v d → Rep K H v d
  | _, _, .non => .non
  | _, _, .bl b => .bl b
  | _, _, .int i => .int i
  | _, _, .str x => .str x
  | _, _, .tup h r => .tup (SqT.of h) (RpL.rep r)
  | _, _, .lst _ h r => .lst (SqL.of h) (RpL.rep r)
theorem RpL.rep : ∀ {vs : List V} {ds : List Dat}, RpL K S H vs ds → RepL K H vs ds
  | _, _, .nil => .nil
  | _, _, .cons h r => .cons (Rp.rep h) (RpL.rep r)
end
theorem Rp.same (e : Same H H') {v : V} {d : Dat} (h : Rp K S H v d) : Rp K S H' v d := h.agr (Agr.of_same e)
theorem RpL.same (e : Same H H') {vs : List V} {ds : List Dat} (h : RpL K S H vs ds) : RpL K S H' vs ds := h.agr (Agr.of_same e)
theorem RpL.length : ∀ {vs : List V} {ds : List Dat}, RpL K S H vs ds → vs.length = ds.length
  | _, _, .nil => rfl
  | _, _, .cons _ r => congrArg (· + 1) (RpL.length r)
theorem RpL.get : ∀ {vs : List V} {ds : List Dat} {i : Nat} {v : V}, RpL K S H vs ds → vs[i]? = some v → ∃ d, ds[i]? = some d ∧ Rp K S H v d
  | _, _, _, _, .nil, e => by simp at e
  | _, _, 0, _, .cons h _, e => by simp at e; subst e; exact ⟨_, rfl, h⟩
  | _, _, i + 1, v, .cons _ r, e => by
    obtain ⟨d, h1, h2⟩ := RpL.get (i := i) (v := v) r (by simpa using e)
    exact ⟨d, by simpa using h1, h2⟩
theorem RpL.get' : ∀ {vs : List V} {ds : List Dat} {i : Nat} {d : Dat}, RpL K S H vs ds → ds[i]? = some d → ∃ v, vs[i]? = some v ∧ Rp K S H v d
  | _, _, _, _, .nil, e => by simp at e
  | _, _, 0, _, .cons h _, e => by simp at e; subst e; exact ⟨_, rfl, h⟩
  | _, _, i + 1, v, .cons _ r, e => by
    obtain ⟨d, h1, h2⟩ := RpL.get' (i := i) (d := v) r (by simpa using e)
    exact ⟨d, by simpa using h1, h2⟩
theorem RpL.append : ∀ {vs ws : List V} {ds es : List Dat}, RpL K S H vs ds → RpL K S H ws es → RpL K S H (vs ++ ws) (ds ++ es)
  | _, _, _, _, .nil, s => s
  | _, _, _, _, .cons h r, s => .cons h (RpL.append r s)
theorem RpL.ints : ∀ ns : List Int, RpL K S H (ns.map V.int) (ns.map Dat.int)
  | [] => .nil
  | n :: ns => .cons (.int n) (RpL.ints ns)
theorem RpL.strs : ∀ ns : List Str, RpL K S H (ns.map V.str) (ns.map Dat.str)
  | [] => .nil
  | n :: ns => .cons (.str n) (RpL.strs ns)
theorem RpL.ints_of : ∀ {vs : List V} {ns : List Int}, RpL K S H vs (ns.map Dat.int) → vs = ns.map V.int
  | _, [], .nil => rfl
  | _, n :: ns, .cons h r => by cases h; rw [RpL.ints_of r]; rfl
theorem RpL.strs_of : ∀ {vs : List V} {ns : List Str}, RpL K S H vs (ns.map Dat.str) → vs = ns.map V.str
  | _, [], .nil => rfl
  | _, n :: ns, .cons h r => by cases h; rw [RpL.strs_of r]; rfl
/-- a tuple of data -/
theorem Rp.tup_of {v : V} {ds : List Dat} (h : Rp K S H v (.tuple ds)) : ∃ a xs, v = .ref a ∧ SqT K H a xs ∧ RpL K S H xs ds := by
  cases h with
  | tup h r => exact ⟨_, _, rfl, SqT.of h, r⟩
theorem Rp.tup_at {v : V} {ds : List Dat} (h : Rp K S H v (.tuple ds)) : ∃ a xs, v = .ref a ∧ H a = some (.tup xs) ∧ RpL K S H xs ds := by
  cases h with
  | tup h r => exact ⟨_, _, rfl, h, r⟩
theorem Rp.lst_at {v : V} {ds : List Dat} (h : Rp K S H v (.list ds)) : ∃ a xs, v = .ref a ∧ S a ∧ H a = some (.lst xs) ∧ RpL K S H xs ds := by
  cases h with
  | lst s h r => exact ⟨_, _, rfl, s, h, r⟩
end
def F0 : Addr → Prop := fun _ => False
abbrev Rz (K : PySem.W.Frag) (H : Hp) : V → Dat → Prop := Rp K F0 H
abbrev RzL (K : PySem.W.Frag) (H : Hp) : List V → List Dat → Prop := RpL K F0 H
section
variable {K : PySem.W.Frag} {S : Addr → Prop} {H H' : Hp}
theorem RpL.z {vs : List V} {ds : List Dat} (h : RzL K H vs ds) : RpL K S H vs ds := h.mono fun _ z => z.elim
theorem Rz.upd {l : Addr} {ys : List V} {o : HO} {v : V} {d : Dat} (h : Rz K H v d) (hl : H l = some (.lst ys)) : Rz K (L2.upd H l o) v d := h.agr (Agr.of_upd hl fun z => z)
theorem RzL.upd {l : Addr} {ys : List V} {o : HO} {v : List V} {d : List Dat} (h : RzL K H v d) (hl : H l = some (.lst ys)) : RzL K (L2.upd H l o) v d := h.agr (Agr.of_upd hl fun z => z)
end
/-- H0: ahead of it; l: its address; ds: what stands in it now -/
structure Acc (K : PySem.W.Frag) (H0 : Hp) (l : Addr) (H : Hp) (ds : List Dat) : Prop where
  same : Same H0 H
  new : H0 l = none
  at_ : ∃ xs, H l = some (.lst xs) ∧ RpL K (fun a => H0 a = none ∧ a ≠ l) H xs ds
section
variable {K : PySem.W.Frag} {H0 H H' : Hp} {l : Addr} {ds : List Dat}
theorem Acc.start (n : H0 l = none) : Acc K H0 l (upd H0 l (.lst [])) [] := ⟨same_new n _, n, [], upd_same, .nil⟩
theorem Acc.on (A : Acc K H0 l H ds) (e : Same H H') : Acc K H0 l H' ds := by
  obtain ⟨xs, h1, h2⟩ := A.at_
  exact ⟨A.same.trans e, A.new, xs, e _ _ h1, h2.same e⟩
theorem Acc.ref (A : Acc K H0 l H ds) : Rp K (fun a => H0 a = none) H (.ref l) (.list ds) := by
  obtain ⟨xs, h1, h2⟩ := A.at_
  exact .lst A.new h1 (h2.mono fun _ z => z.1)
/-- what stands in it, and what one more makes of it; y's own lists are new and are not l -/
theorem Acc.push (A : Acc K H0 l H ds) {S : Addr → Prop} {y : V} {d : Dat} (r : Rp K S H y d) (hS : ∀ a, S a → H0 a = none ∧ a ≠ l) : ∃ xs, H l = some (.lst xs) ∧ xs.length = ds.length ∧ Acc K H0 l (upd H l (.lst (xs ++ [y]))) (ds ++ [d]) := by
  obtain ⟨xs, h1, h2⟩ := A.at_
  refine ⟨xs, h1, h2.length, ⟨fun b o q => ?_, A.new, xs ++ [y], upd_same, ?_⟩⟩
  · rw [upd_ne (ne_of_none q A.new)]
    exact A.same b o q
  · exact (h2.append (.cons (r.mono hS) .nil)).agr (Agr.of_upd h1 fun z => z.2 rfl)
/-- y made by a call behind A -/
theorem Acc.pushN (A : Acc K H0 l H ds) (e : Same H H') {y : V} {d : Dat} (r : Rp K (fun a => H a = none) H' y d) : ∃ xs, H' l = some (.lst xs) ∧ xs.length = ds.length ∧ Acc K H0 l (upd H' l (.lst (xs ++ [y]))) (ds ++ [d]) :=
  (A.on e).push r fun a z => ⟨A.same.free z, fun q => by obtain ⟨xs, h1, _⟩ := A.at_; rw [q, h1] at z; cases z⟩
theorem Acc.pushK (A : Acc K H0 l H ds) (e : Same H H') {y : V} {d : Dat} (r : Rp K (fun a => H a = none) H' y d) (n : ds.length < sizeLine) {Pv : Hp → Prop} (h : ∀ H2, Acc K H0 l H2 (ds ++ [d]) → Pv H2) : Push l Pv y H' := by
  obtain ⟨xs, h1, h2, h3⟩ := A.pushN e r
  exact ⟨xs, h1, by rw [h2]; exact n, h _ h3⟩
end
theorem Acc.ty {K : PySem.W.Frag} {H0 H : Hp} {l : Addr} {ds : List Dat} (A : Acc K H0 l H ds) : tyV K "list" (.ref l) H := by
  obtain ⟨xs, h1, _⟩ := A.at_
  exact k_tyL h1
structure AccZ (K : PySem.W.Frag) (H0 : Hp) (l : Addr) (H : Hp) (ds : List Dat) : Prop where
  same : Same H0 H
  new : H0 l = none
  at_ : ∃ xs, H l = some (.lst xs) ∧ RzL K H xs ds
section
variable {K : PySem.W.Frag} {H0 H H' : Hp} {l m : Addr} {ds : List Dat}
theorem AccZ.start (e : Same H0 H) (n : H l = none) : AccZ K H0 l (upd H l (.lst [])) [] := ⟨e.trans (same_new n _), e.free n, [], upd_same, .nil⟩
theorem AccZ.on (A : AccZ K H0 l H ds) (e : Same H H') : AccZ K H0 l H' ds := by
  obtain ⟨xs, h1, h2⟩ := A.at_
  exact ⟨A.same.trans e, A.new, xs, e _ _ h1, h2.same e⟩
theorem AccZ.ref (A : AccZ K H0 l H ds) : Rp K (fun a => H0 a = none) H (.ref l) (.list ds) := by
  obtain ⟨xs, h1, h2⟩ := A.at_
  exact .lst A.new h1 h2.z
theorem AccZ.rep (A : AccZ K H0 l H ds) : Rep K H (.ref l) (.list ds) := A.ref.rep
theorem AccZ.ty (A : AccZ K H0 l H ds) : tyV K "list" (.ref l) H := by
  obtain ⟨xs, h1, _⟩ := A.at_
  exact k_tyL h1
theorem AccZ.sq (A : AccZ K H0 l H ds) : ∃ xs, SqL K H l xs ∧ xs.length = ds.length ∧ RzL K H xs ds := by
  obtain ⟨xs, h1, h2⟩ := A.at_
  exact ⟨xs, SqL.of h1, h2.length, h2⟩
theorem AccZ.upd_same (A : AccZ K H0 l H ds) {o : HO} : Same H0 (L2.upd H l o) := fun b u q => by
  rw [L2.upd_ne (ne_of_none q A.new)]
  exact A.same b u q
/-- another list changes -/
theorem AccZ.other (A : AccZ K H0 l H ds) {ys : List V} {o : HO} (ne : l ≠ m) (n : H0 m = none) (h : H m = some (.lst ys)) : AccZ K H0 l (upd H m o) ds := by
  obtain ⟨xs, h1, h2⟩ := A.at_
  refine ⟨fun b u q => ?_, A.new, xs, by rw [upd_ne ne]; exact h1, h2.upd h⟩
  rw [upd_ne (ne_of_none q n)]
  exact A.same b u q
end
/-- one step of append; what else stands -/
theorem k_appZ {K : PySem.W.Frag} {H0 H : Hp} {l : Addr} {ds : List Dat} {Q : VK} (A : AccZ K H0 l H ds) {y : V} {d : Dat} (r : Rz K H y d) (n : ds.length < sizeLine)
    (h : ∀ H2, AccZ K H0 l H2 (ds ++ [d]) → (∀ {v : V} {e : Dat}, Rz K H v e → Rz K H2 v e) → (∀ b, b ≠ l → H2 b = H b) → (∀ {m : Addr} {es : List Dat}, m ≠ l → AccZ K H0 m H es → AccZ K H0 m H2 es) → Q .non H2) : rAppend (.ref l) [y] H Q := by
  obtain ⟨xs, h1, h2⟩ := A.at_
  refine ⟨l, xs, y, rfl, rfl, h1, by rw [h2.length]; exact n, h _ ⟨A.upd_same, A.new, xs ++ [y], upd_same, ?_⟩ (fun q => Rz.upd q h1) (fun b nb => upd_ne nb) fun ne B => B.other ne A.new h1⟩
  exact RzL.upd (h2.append (.cons r .nil)) h1
section
variable {K : PySem.W.Frag} {H : Hp} {Q : VK} {x y : V} {d e : Dat} {ds : List Dat}
open Classical in
theorem k_notInD (hd : Rep K H x d) (he : Rep K H y (.list ds)) (ka : ∀ e ∈ ds, kqdOk 8 e = true) (kd : kqdOk 8 d = true) (h1 : d ∉ ds → Q (.bl true) H) (h2 : d ∈ ds → Q (.bl false) H) : rInD K true x y H Q := by
  refine ⟨d, ds, hd, he, ka, kd, ?_⟩
  by_cases z : d ∈ ds
  · have q := h2 z
    simpa [z] using q
  · have q := h1 z
    simpa [z] using q
open Classical in
theorem k_inD (hd : Rep K H x d) (he : Rep K H y (.list ds)) (ka : ∀ e ∈ ds, kqdOk 8 e = true) (kd : kqdOk 8 d = true) (h1 : d ∈ ds → Q (.bl true) H) (h2 : d ∉ ds → Q (.bl false) H) : rInD K false x y H Q := by
  refine ⟨d, ds, hd, he, ka, kd, ?_⟩
  by_cases z : d ∈ ds
  · have q := h1 z
    simpa [z] using q
  · have q := h2 z
    simpa [z] using q
end
end L2

namespace L2
open PySem PySem.Spec PyProof.Rows
def hiN (n : Nat) : Option Int → Nat
  | none => n
  | some j => min j.toNat n
def hiL (l : List Nat) : Option Int → List Nat
  | none => l
  | some j => l.take j.toNat
theorem hiN_le (n : Nat) (hi : Option Int) : hiN n hi ≤ n := by
  cases hi with
  | none => exact Nat.le_refl _
  | some j => exact Nat.min_le_right _ _
/-- z[lo:hi], bounds from 0 on -/
def scut (z : Str) (lo hi : Option Int) : Str := ⟨((hiL z.cps.toList hi).drop (lo.getD 0).toNat).toArray⟩
def NN : Option Int → Prop
  | none => True
  | some i => 0 ≤ i
theorem sidx {lo hi : Option Int} (n : Nat) (hl : NN lo) (hh : NN hi) : Builtin.Str.strSliceIndices lo hi 1 n = (List.range (hiN n hi - min (lo.getD 0).toNat n)).map (fun k => min (lo.getD 0).toNat n + k) := by
  have core : ∀ (a b : Nat), a ≤ n → b ≤ n → sliceRange (a : Int) (b : Int) 1 = (List.range (b - a)).map (fun k => a + k) := by
    intro a b ha hb
    simp only [sliceRange, show ((1 : Int) > 0) = True from by simp, if_true]
    by_cases hlt : (a : Int) < b
    · have e3 : (((b : Int) - a + 1 - 1) / 1).toNat = b - a := by rw [Int.ediv_one]; walk_at "om"
      simp only [hlt, if_true, e3]
      refine List.map_congr_left fun k _ => ?_
      walk_at "om"
    · have : b - a = 0 := by walk_at "om"
      simp [hlt, this]
  have clip : ∀ i : Int, 0 ≤ i → max (0 : Int) (min (if i < 0 then i + n else i) n) = ((min i.toNat n : Nat) : Int) := by
    intro i hi
    rw [if_neg (by walk_at "om")]
    walk_at "om"
  cases lo with
  | none =>
    cases hi with
    | none =>
      have := core 0 n (by walk_at "om") (by walk_at "om")
      simpa [Builtin.Str.strSliceIndices, hiN] using this
    | some j =>
      have := core 0 (min j.toNat n) (by walk_at "om") (by walk_at "om")
      simp only [Builtin.Str.strSliceIndices, show ((1 : Int) > 0) = True from by simp, if_true]
      rw [clip j hh]
      simpa [hiN] using this
  | some i =>
    cases hi with
    | none =>
      have := core (min i.toNat n) n (by walk_at "om") (by walk_at "om")
      simp only [Builtin.Str.strSliceIndices, show ((1 : Int) > 0) = True from by simp, if_true]
      rw [clip i hl]
      simpa [hiN] using this
    | some j =>
      have := core (min i.toNat n) (min j.toNat n) (by walk_at "om") (by walk_at "om")
      simp only [Builtin.Str.strSliceIndices, show ((1 : Int) > 0) = True from by simp, if_true]
      rw [clip i hl, clip j hh]
      simpa [hiN] using this
theorem scut_txt (z : Str) {lo hi : Option Int} (hl : NN lo) (hh : NN hi) : Txt.slice z lo hi = scut z lo hi := by
  have len : z.cps.toList.length = z.length := by simp [Str.length]
  have e := sidx z.length hl hh
  have p := StrLaws.picks z.cps.toList (hiN z.length hi - min (lo.getD 0).toNat z.length) (min (lo.getD 0).toNat z.length) (by have := hiN_le z.length hi; rw [len]; walk_at "om")
  have q : (z.cps.toList.drop (min (lo.getD 0).toNat z.length)).take (hiN z.length hi - min (lo.getD 0).toNat z.length) = (hiL z.cps.toList hi).drop (lo.getD 0).toNat := by
    generalize (lo.getD 0).toNat = a
    cases hi with
    | none =>
      show List.take (z.length - min a z.length) (List.drop (min a z.length) z.cps.toList) = List.drop a z.cps.toList
      by_cases ha : a ≤ z.length
      · rw [Nat.min_eq_left ha, List.take_of_length_le (by rw [List.length_drop, len]; exact Nat.le_refl _)]
      · rw [Nat.min_eq_right (by walk_at "om"), List.drop_of_length_le (by rw [len]; exact Nat.le_refl _), List.drop_of_length_le (by rw [len]; walk_at "om")]
        simp
    | some j =>
      show List.take (min j.toNat z.length - min a z.length) (List.drop (min a z.length) z.cps.toList) = List.drop a (z.cps.toList.take j.toNat)
      rw [List.drop_take]
      generalize j.toNat = b
      by_cases ha : a ≤ z.length
      · rw [Nat.min_eq_left ha]
        by_cases hb : b ≤ z.length
        · rw [Nat.min_eq_left hb]
        · rw [Nat.min_eq_right (by walk_at "om"), List.take_of_length_le (by rw [List.length_drop, len]; exact Nat.le_refl _), List.take_of_length_le (by rw [List.length_drop, len]; walk_at "om")]
      · rw [Nat.min_eq_right (by walk_at "om" : z.length ≤ a), List.drop_of_length_le (by rw [len]; exact Nat.le_refl _), List.drop_of_length_le (by rw [len]; walk_at "om")]
        simp
  have r : (Builtin.Str.strSliceIndices lo hi 1 z.length).filterMap (z.cps[·]?) = (hiL z.cps.toList hi).drop (lo.getD 0).toNat := by
    rw [← q, ← p, e]
    simp
  unfold Txt.slice scut
  split
  · rename_i c
    have c' : (Builtin.Str.strSliceIndices lo hi 1 z.length).length = z.length := by simpa using c
    rw [e, List.length_map, List.length_range] at c'
    have w : (z.cps.toList.drop (min (lo.getD 0).toNat z.length)).take (hiN z.length hi - min (lo.getD 0).toNat z.length) = z.cps.toList := by
      have b := hiN_le z.length hi
      by_cases h0 : z.length = 0
      · have : z.cps.toList = [] := List.length_eq_zero_iff.mp (by rw [len]; exact h0)
        rw [this]; simp
      · have a0 : min (lo.getD 0).toNat z.length = 0 := by walk_at "om"
        rw [a0, List.drop_zero, List.take_of_length_le (by rw [len]; walk_at "om")]
    rw [← q, w]
  · rw [r]
def rSlS : V → Option Int → Option Int → Hp → VK → Prop := fun x lo hi H Q => ∃ z, x = .str z ∧ z.length ≤ sizeLine ∧ NN lo ∧ NN hi ∧ Q (.str (scut z lo hi)) H
def rMin2 : List V → Hp → VK → Prop := fun xs H Q => ∃ i j, xs = [.int i, .int j] ∧ Q (.int (if j < i then j else i)) H
section
variable {X : Cx}
theorem sl_str : SlR X rSlS := by
  intro pins s σ H x v vl vu lo hi sl Q I rx hs pl pu h
  obtain ⟨z, rfl, hz, hl, hh, q⟩ := h
  obtain ⟨t, rfl⟩ := rx
  refine ⟨"str", _, F.slot_str_getitem.lookup, typeIs_str _ _ _, ?_⟩
  have fin : ∀ (l u : Option (Int × Tok)), l.map (·.1) = lo → u.map (·.1) = hi → (sliceMade z t l u none).post (EP X pins σ Q) s := by
    intro l u el eu
    have e : sliceMade z t l u none = if ((1 : Int) == 1 && (Builtin.Str.strSliceIndices lo hi 1 z.length).length == z.length) = true then Made.val (.str z t) else .str ⟨((Builtin.Str.strSliceIndices lo hi 1 z.length).filterMap (z.cps[·]?)).toArray⟩ := by
      unfold sliceMade slicePicked
      rw [el, eu]
      rfl
    rw [e]
    have lt := Txt.slice_le z lo hi
    have eq := scut_txt z hl hh
    unfold Txt.slice at lt eq
    refine post_val_or_str ⟨Nat.le_trans lt hz, fun t' k => ⟨.str (scut z lo hi), H, I.tok k, ⟨t', ?_⟩, q⟩⟩
    rw [eq]
  cases pl with
  | none =>
    cases pu with
    | none => exact wpAny_getItem_str_slice (l := none) (u := none) (st := none) hs rfl (fin none none rfl rfl)
    | int j tj => exact wpAny_getItem_str_slice (l := none) (u := some (j, tj)) (st := none) hs rfl (fin none (some (j, tj)) rfl rfl)
  | int i ti =>
    cases pu with
    | none => exact wpAny_getItem_str_slice (l := some (i, ti)) (u := none) (st := none) hs rfl (fin (some (i, ti)) none rfl rfl)
    | int j tj => exact wpAny_getItem_str_slice (l := some (i, ti)) (u := some (j, tj)) (st := none) hs rfl (fin (some (i, ti)) (some (j, tj)) rfl rfl)
end
end L2

namespace L2
open PySem PySem.Spec PyProof.Rows
/-- the dict's own entries -/
def RawD (h : Heap) (d : Addr) (es : Array DictEntry) (ep : Nat) : Prop := ∃ o, h.get? d = some o ∧ o.ExactDict ∧ o.data = .dict es ep
section
variable {prog : Program} {w : World} {A : Around} {E : Value → Shared → Prop} {s : Shared} {d it : Addr} {es : Array DictEntry} {ep i : Nat}
theorem RawD.ty (m : RawD s.heap d es ep) : s.TypeIs (.ref d) "dict" := by
  obtain ⟨o, a, b, _⟩ := m
  exact ⟨o, a, b.1⟩
theorem RawD.at {h h' : Heap} (m : RawD h d es ep) (k : ∀ o, h.get? d = some o → h'.get? d = some o) : RawD h' d es ep := by
  obtain ⟨o, a, b⟩ := m
  exact ⟨o, k o a, b⟩
theorem raw_iter {Q : Value → Shared → Prop} (lo : (d == sysModules) = false) (m : RawD s.heap d es ep) (q : Q (.ref s.heap.objs.size) { s with heap := s.heap.push { cls := .type "dict_keyiterator", data := .fields #[.ref d, .int 0 0, .int es.size 0, .int ep 0] } }) :
    wpAny (model prog w) A (pyIter (.ref d)) Q E s := by
  have ty := m.ty
  obtain ⟨o, ho, _, dt⟩ := m
  refine wpAny_pyIter_slot ty F.slot_dict_iter (wpAny_call_entry F.slot_dict_iter ty F.entry_dict_iter ?_ (F.args_dict_iter_1 _))
  unfold Builtin.«dict.__iter__» Builtin.Dict.dictSlotNone
  refine wpAny_bind (wpAny_bind (wpAny_notOrdered_dict ty ?_)); show wpAny _ _ (pure (Value.ref d)) _ _ s
  refine wpAny_pure ?_; show wpAny _ _ (Builtin.Dict.showsAll d >>= _) _ _ s; unfold Builtin.Dict.showsAll
  rw [if_neg (fun z => by rw [lo] at z; cases z)]; refine wpAny_bind (wpAny_pure (wpAny_bind (wpAny_dictEntries ho dt (wpAny_bind (wpAny_dictEpoch ho dt ?_)))))
  refine wpAny_bind (wpAny_newObj_type (wpAny_pure ⟨_, rfl, "dict_keyiterator", _, ⟨_, Heap.get?_push_size _ rfl, rfl⟩, F.slot_dict_keyiterator_next.lookup, ?_⟩)); simpa [rawInt] using q
/-- what both ways of a turn have in common -/
theorem raw_next {Q : Option Value → Shared → Prop} (ki : s.heap.IsKeyIter it d i es.size ep) (m : RawD s.heap d es ep) :
    (∀ e, es[i]? = some e → (∀ h', h'.IsKeyIter it d (i + 1) es.size ep → Heap.SameBut it s.heap h' → Q (some e.key) { s with heap := h' }) → wpAny (model prog w) A (pyNext (.ref it)) Q E s) ∧
    (A.handled = none → es[i]? = none → (∀ h', Heap.ExtBut it s.heap h' → Q none { s with heap := h' }) → wpAny (model prog w) A (pyNext (.ref it)) Q E s) := by
  obtain ⟨o, ho, oc, od⟩ := id ki
  obtain ⟨dd, hd, _, dt⟩ := id m
  have own : Builtin.Dict_items.ownsTuple "dict_keyiterator" = false := by decide
  have nn : ¬ ((Value.ref d == Value.none) = true) := Bool.false_ne_true
  constructor
  · intro e he hq
    unfold pyNext; refine wpAny_bind (wpAny_attempt (wpAny_callSpecial?_slot (name := Str.ofString "__next__") ki.typeIs F.slot_dict_keyiterator_next (wpAny_call_entry F.slot_dict_keyiterator_next ki.typeIs F.entry_dict_keyiterator_next ?_ (F.args_dict_keyiterator_next_1 _))))
    refine wpAny_bind (wpAny_pure (wpAny_bind (wpAny_bind (wpAny_bind (wpAny_typeNameOfWhole_keyiter ki.typeIs (wpAny_pure (wpAny_bind (wpAny_fieldsOf ho od ?_))))))))
    simp only [own, Bool.false_eq_true, if_false]; show wpAny _ _ (if (Value.ref d == Value.none) = true then _ else _) _ _ s; rw [if_neg nn]
    refine wpAny_bind (wpAny_pure (wpAny_bind (wpAny_dictEntries hd dt ?_))); rw [if_neg (by simp)]; refine wpAny_bind (wpAny_pure (wpAny_bind (wpAny_dictEpoch hd dt ?_))); rw [if_neg (by simp)]
    refine wpAny_pure ?_; simp only [show ¬ ((i : Int) < 0) from by walk_at "om", if_false, Int.toNat_natCast, he]
    refine wpAny_bind (wpAny_bind (wpAny_typeNameOfWhole_keyiter ki.typeIs (wpAny_pure (wpAny_bind (wpAny_isOneOf_keyiter ki.typeIs ?_))))); show wpAny _ _ (setField (.ref it) 1 (rawInt ((i : Int) + 1)) >>= _) _ _ s
    refine wpAny_bind (wpAny_setField ho od (by simp) ?_)
    have k2 : (s.heap.update it (Obj.mapFields (·.setIfInBounds 1 (rawInt ((i : Int) + 1))))).IsKeyIter it d (i + 1) es.size ep := ⟨_, Heap.get?_update_self _ ho (Obj.isFreed_of_fields (Obj.data_mapFields od _)), (Obj.cls_mapFields ..).trans oc, by rw [Obj.data_mapFields od]; simp [rawInt]⟩
    refine wpAny_bind (wpAny_holding (wpAny_bind (wpAny_isOneOf_keyiter (s := { s with heap := s.heap.update it (Obj.mapFields (·.setIfInBounds 1 (rawInt ((i : Int) + 1)))) }) k2.typeIs ?_))); show wpAny _ _ (pure e.key) _ _ _
    exact wpAny_pure (wpAny_pure ⟨_, rfl, wpAny_pure (hq _ k2 (Heap.SameBut.update ..))⟩)
  · intro hh he hq
    unfold pyNext; refine wpAny_bind (wpAny_attempt (wpAny_callSpecial?_slot (name := Str.ofString "__next__") ki.typeIs F.slot_dict_keyiterator_next (wpAny_call_entry F.slot_dict_keyiterator_next ki.typeIs F.entry_dict_keyiterator_next ?_ (F.args_dict_keyiterator_next_1 _))))
    refine wpAny_bind (wpAny_pure (wpAny_bind (wpAny_bind (wpAny_bind (wpAny_typeNameOfWhole_keyiter ki.typeIs (wpAny_pure (wpAny_bind (wpAny_fieldsOf ho od ?_))))))))
    simp only [own, Bool.false_eq_true, if_false]; show wpAny _ _ (if (Value.ref d == Value.none) = true then _ else _) _ _ s; rw [if_neg nn]
    refine wpAny_bind (wpAny_pure (wpAny_bind (wpAny_dictEntries hd dt ?_))); rw [if_neg (by simp)]; refine wpAny_bind (wpAny_pure (wpAny_bind (wpAny_dictEpoch hd dt ?_))); rw [if_neg (by simp)]
    refine wpAny_pure ?_; simp only [show ¬ ((i : Int) < 0) from by walk_at "om", if_false, Int.toNat_natCast, he]
    refine wpAny_bind (wpAny_bind (wpAny_typeNameOfWhole_keyiter ki.typeIs (wpAny_pure ?_))); show wpAny _ _ (setField (.ref it) 0 .none >>= _) _ _ s
    refine wpAny_bind (wpAny_setField ho od (by simp) ?_); show wpAny _ _ (newExc (.type "StopIteration") [] >>= _) _ _ _
    refine wpAny_bind ?_; simp only [newExc, newTuple]; refine wpAny_bind (wpAny_newObj_type ?_ (by size_fits))
    refine wpAny_bind (m := firstArgMember _ _) (wpAny_of_eq (a := Value.none) (by simp only [firstArgMember]; rfl) (wpAny_newObj_type ?_ (by size_fits))); simp only [raiseNew]; refine wpAny_bind (wpAny_handled ?_)
    rw [show A.in1.handled = none from hh]; refine wpAny_bind (wpAny_pure (wpAny_throw ?_)); refine wpAny_bind (wpAny_isInstance (T := "StopIteration") (b := true) ⟨_, Heap.get?_push_size _ rfl, rfl⟩ isSubtype_stop ?_)
    exact wpAny_pure (hq _ (((Heap.SameBut.update ..).extBut.push _).push _))
theorem raw_walks (hh : A.handled = none) (I d : Addr) (ne : d ≠ I) (es : Array DictEntry) (ep : Nat) : Walks prog w A I [I, d] [I] es.size (fun i v => ∃ e, es[i]? = some e ∧ v = e.key) (fun i h => h.IsKeyIter I d i es.size ep ∧ RawD h d es ep) where
  sub := fun b hb => by rw [List.mem_singleton.mp hb]; simp
  frame := fun _ _ _ st hk => ⟨st.1.at fun o e => hk I (by simp) o e, st.2.at fun o e => hk d (by simp) o e⟩
  item := fun i s Q E hi st hq => by
    refine (raw_next st.1 st.2).1 es[i] (by simp [hi]) fun h' k1 k2 => ?_
    exact hq _ h' s.toks ⟨es[i], by simp [hi], rfl⟩ ⟨k1, st.2.at fun o e => k2.extBut d o ne e⟩ fun b o hb e => k2.extBut b o (fun z => hb (by simp [z])) e
  done := fun s Q E st hq => (raw_next st.1 st.2).2 hh (by simp) fun h' k => hq h' s.toks fun b o hb e => k b o (fun z => hb (by simp [z])) e
  self := fun _ _ _ _ st hq => wpAny_pyIter_keyiter st.1 hq
theorem raw_src (lo : (d == sysModules) = false) : PySem.W.KdlSrc prog w "dict" d d es.size (fun i v => ∃ e, es[i]? = some e ∧ v = e.key) (fun h => RawD h d es ep) where
  type := fun _ m => m.ty
  there := fun _ ⟨_, e, _⟩ => ⟨Heap.lt_size e, Heap.lt_size e⟩
  keep := fun _ _ m hk => m.at fun o e => hk d (.inl rfl) o e
  notList := by decide
  notTuple := by decide
  hint := fun _ _ _ _ m q => PySem.W.kdl_hint_dict m.ty q
  iter := fun _ _ hh m => ⟨_, _, (fun _ _ q => raw_iter lo m q), raw_walks hh _ d (by obtain ⟨_, e, _⟩ := m; exact Nat.ne_of_lt (Heap.lt_size e)) es ep, ⟨⟨_, Heap.get?_push_size _ rfl, rfl, rfl⟩, m.at fun _ e => Heap.get?_push_of_some _ e⟩⟩
end
theorem refs_vals : ∀ ys : List (List Key × Addr × Value), Vals (ys.map (V.ref ∘ fun y => y.2.1)) (ys.map fun y => Value.ref y.2.1)
  | [] => .nil
  | _ :: ys => .cons rfl (refs_vals ys)
theorem kt_refs {H : Hp} {kvs : List (List Key × V)} {ys : List (List Key × Addr × Value)} (r : KT H kvs ys) : Paired (fun (p : List Key × V) b => H b = some (.tup (p.1.map kV))) kvs (ys.map fun y => y.2.1) := by
  induction r with
  | nil => exact .nil
  | cons h t ih => exact .cons h.2.1 ih
/-- list(d), d a dict with tuples as keys: the keys' own tuples -/
def rListD : List V → Hp → VK → Prop := fun xs H Q => ∃ a kvs, xs = [.ref a] ∧ H a = some (.dT kvs) ∧ ∀ (l : Addr) (bs : List Addr), H l = none → Paired (fun (p : List Key × V) b => H b = some (.tup (p.1.map kV))) kvs bs → Q (.ref l) (upd H l (.lst (bs.map V.ref)))
theorem call_listD {X : Cx} (hc : X.calm = true) : CallR X (.type "list") rListD := by
  intro pins s σ H xs us Q I r h
  obtain ⟨a, kvs, rfl, ha, q⟩ := h
  obtain ⟨u, rfl, ru⟩ := vals1 r
  cases ru
  obtain ⟨z, lo, ys, kt, o, es, ep, ho, ex, dt, he, _, _⟩ := dt_of I.hok ha
  have sz : es.size = kvs.length := by rw [← Array.length_toList, he, List.length_map]; exact (Paired.length kt).symm
  refine PySem.W.kdl_call (raw_src (es := es) (ep := ep) lo) (I.ok.hd hc) ⟨o, ho, ex, dt⟩ (by rw [sz]; exact z) fun h' tk acc c kp hl hit => ?_
  have acc_eq : acc.toList = ys.map fun y => Value.ref y.2.1 := by
    refine List.ext_getElem? fun j => ?_
    by_cases lt : j < es.size
    · have hj : j < acc.toList.length := by rw [Array.length_toList]; rw [hit.1]; exact lt
      have e1 : acc.toList[j]? = some acc.toList[j] := List.getElem?_eq_getElem hj
      obtain ⟨e, ee, ev⟩ := hit.2 j acc.toList[j] (by rw [← Array.getElem?_toList]; exact e1)
      rw [e1, ev]
      rw [← Array.getElem?_toList, he, List.getElem?_map] at ee
      obtain ⟨y, hy1, hy2⟩ := Option.map_eq_some_iff.mp ee
      rw [List.getElem?_map, hy1, ← hy2]
      rfl
    · rw [List.getElem?_eq_none (by rw [Array.length_toList, hit.1]; walk_at "om"), List.getElem?_eq_none]
      rw [List.length_map]
      have := Paired.length kt
      walk_at "om"
  have vals : Vals ((ys.map fun y => y.2.1).map V.ref) acc.toList := by
    rw [acc_eq, List.map_map]
    exact refs_vals ys
  have prd : Paired (fun (p : List Key × V) b => H b = some (.tup (p.1.map kV))) kvs (ys.map fun y => y.2.1) := by
    exact kt_refs kt
  refine ⟨.ref s.heap.objs.size, _, I.laid (t' := tk) kp (Nat.le_refl _) (show ObjOk X.prog X.w _ h' _ (.lst ((ys.map fun y => y.2.1).map V.ref)) from ⟨?_, acc.toList, c, vals, by rw [Array.toArray_toList]; exact hl⟩), rfl, q _ _ (I.hok.fresh (Nat.le_refl _)) prd⟩
  rw [List.length_map, List.length_map, ← Paired.length kt]
  exact z
end L2

namespace L2
open PySem PySem.Spec PyProof.Rows
section
variable {X : Cx} {pins : List (Addr × Obj)} {σ : St} {H : Hp} {s : Shared} {h' : Heap}
/-- several untracked records of ours have turned -/
theorem Inv.turnedL {t' : Nat} {fp : List Addr} (I : Inv X pins σ H s) (k : ∀ b o, b ∉ fp → s.heap.get? b = some o → h'.get? b = some o) (hf : ∀ b ∈ fp, FpOk X pins H b) : Inv X pins σ H { s with heap := h', toks := t' } := by
  have nit : ∀ b u, H b = some u → b ∉ fp := fun b u e z => by
    have q := (hf b z).1
    rw [q] at e
    cases e
  refine I.step (g' := s.gens) (d' := s.drawn) (ch := fp) (fun b hb => ⟨(hf b hb).2.2.2.1, (hf b hb).2.1, (hf b hb).2.2.2.2.1, (hf b hb).2.2.2.2.2⟩) (fun b o _ _ hc e _ => k b o hc e) (fun b o _ _ hc e _ => ⟨o.slots, k b o hc e⟩) (fun _ _ _ _ n => n)
    (fun b o hc e => ⟨o, k b o hc e⟩) (fun _ _ e => e) (fun _ _ _ e => e) (fun b ps e => ⟨#[], by rw [e, Array.append_empty]⟩) (fun m hm => ?_) (fun b u e => ?_) I.bare
  · obtain ⟨o, es, ep, ho, r⟩ := hm
    exact ⟨o, es, ep, k _ o (fun z => (hf _ z).2.1 rfl) ho, r⟩
  · refine (I.hok b u e).stay (fun c v hc q => k c v ?_ q) (fun _ q => q) fun _ _ q => q
    rcases hc with z | z
    · rw [z]; exact nit b u e
    · exact nit c _ z
end
section
variable {prog : Program} {w : World} {A : Around} {E : Value → Shared → Prop} {s : Shared}
end
end L2

namespace L2
open PySem PySem.Spec PyProof.Rows
section
variable {prog : Program} {w : World} {A : Around} {E : Value → Shared → Prop} {s : Shared} {z TI TO i1 i2 l1 l2 : Addr} {xs ys : Array Value} {S1 S2 : Nat → Heap → Prop} {k : Nat}
end
end L2

namespace L2
open PySem PySem.Spec PyProof.Rows
/-- list or tuple -/
inductive Kn | L | T
def Kn.it (k : Kn) (h : Heap) (i l : Addr) (j : Nat) : Prop := match k with
  | .L => h.IsListIter i l j
  | .T => h.IsTupleIter i l j
def Kn.seq (k : Kn) (h : Heap) (l : Addr) (xs : Array Value) : Prop := match k with
  | .L => h.IsList l xs
  | .T => h.IsTuple l xs
def Kn.obj (k : Kn) (l : Addr) : Obj := match k with
  | .L => { cls := .type "list_iterator", data := .fields #[.ref l, .int 0 0] }
  | .T => { cls := .type "tuple_iterator", data := .fields #[.ref l, .int 0 0] }
section
variable {prog : Program} {w : World} {A : Around} {E : Value → Shared → Prop} {s : Shared}
theorem Kn.seqAt (k : Kn) {h h' : Heap} {l : Addr} {xs : Array Value} (t : k.seq h l xs) (e : ∀ o, h.get? l = some o → h'.get? l = some o) : k.seq h' l xs := by
  cases k
  · exact Heap.IsList.at t e
  · obtain ⟨o, a, b⟩ := t
    exact ⟨o, e o a, b⟩
theorem Kn.lt (k : Kn) {h : Heap} {l : Addr} {xs : Array Value} (t : k.seq h l xs) : l < h.objs.size := by
  cases k <;> (obtain ⟨o, a, _⟩ := t; exact Heap.lt_size a)
theorem Kn.iter (k : Kn) {l : Addr} {xs : Array Value} {Q : Value → Shared → Prop} (t : k.seq s.heap l xs) (q : Q (.ref s.heap.objs.size) { s with heap := s.heap.push (k.obj l) }) : wpAny (model prog w) A (pyIter (.ref l)) Q E s := by
  cases k
  · exact wpAny_pyIter_list t q
  · exact wpAny_pyIter_tuple t q
theorem Kn.it0 (k : Kn) (h : Heap) (l : Addr) : k.it (h.push (k.obj l)) h.objs.size l 0 := by
  cases k <;> exact ⟨_, Heap.get?_push_size _ rfl, rfl, rfl⟩
end
section
variable {X : Cx}
end
section
variable {K : PySem.W.Frag} {te : TE} {σ : St} {Q : VK} {H : Hp}
/-- the wish behind an element of a comprehension with targets -/
def EltG (g : TG) (n : Nat) (te : TE) (σ : St) (v : V) (H : Hp) (D : Addr) (m i : Nat) (Pv : Nat → Hp → Prop) : Prop := ∀ us : St, us.length = n → g v (us ++ σ) H fun σ2 H2 => (∃ us' : St, us'.length = n ∧ σ2 = us' ++ σ) ∧ te σ2 H2 (EltK D m i Pv)
end
end L2

namespace L2
open PySem PySem.Spec PyProof.Rows
section
variable {prog : Program} {w : World} {A : Around} {E : Value → Shared → Prop} {s : Shared}
end
section
variable {X : Cx} {e k : Expr} {te tk : TE} {p2 pos : Pos}
end
end L2

namespace L2
open PySem PySem.Spec PyProof.Rows
open PySem.W (Dat kqdOk)
theorem AccZ.pushK {K : PySem.W.Frag} {H0 H : Hp} {l : Addr} {ds : List Dat} (A : AccZ K H0 l H ds) {y : V} {d : Dat} (r : Rz K H y d) (n : ds.length < sizeLine) {Pv : Hp → Prop} (h : ∀ H2, AccZ K H0 l H2 (ds ++ [d]) → Pv H2) : Push l Pv y H := by
  obtain ⟨xs, h1, h2⟩ := A.at_
  refine ⟨xs, h1, by rw [h2.length]; exact n, h _ ⟨A.upd_same, A.new, xs ++ [y], L2.upd_same, ?_⟩⟩
  exact RzL.upd (h2.append (.cons r .nil)) h1
end L2
namespace L2
open PySem
section
variable {K : PySem.W.Frag} {σ : St} {H : Hp} {Q : VK} {te : TE}
theorem k_compG {wi : TI} {n : Nat} {g : TG} (h : wi σ H fun J H1 => CompG J n g te σ Q H1) : tCompG wi n g te σ H Q := h
end
end L2
namespace L2
open PySem
section
variable {K : PySem.W.Frag} {σ : St} {H : Hp} {Q : VK} {D : Ends} {td ty tv te tk : TE}
theorem k_dput (h : tv σ H fun v H1 => td σ H1 fun x H2 => ty σ H2 fun y H3 => ∃ a H4, x = .ref a ∧ DPut H3 a y v H4 ∧ D.nx σ H4) : sDPut td ty tv D σ H := h
end
end L2
namespace L2
open PySem PySem.Spec PyProof.Rows
section
variable {X : Cx} {scope : Scope}
theorem pe_lcN {elt iter tg : Expr} {pos : Pos} {wi : TI} {g : TG} {te : TE} {n : Nat} (ys M : List Str) (c : CompS X.env.scope X.N M ys scope) (hc : X.calm = true) (hi : PI X tg iter wi) (hg : ∀ C s₀ H₀ fp pins, PG (compCx X ys M scope (clOf scope X.env.cells) C s₀ H₀ fp pins) tg g) (he : ∀ C s₀ H₀ fp pins, PE (compCx X ys M scope (clOf scope X.env.cells) C s₀ H₀ fp pins) elt te)
    (hn : ys.length = n := by rfl) (hs : ∀ v, foldedSetIterable iter X.env v = pure v := by intro _; rfl) : PE X (.ListComp elt [⟨tg, iter, [], 0⟩] scope pos) (tCompG wi n g te) := by
  subst hn
  exact pe_lcG c hc hi hg he hs
end
end L2

namespace L2
open PySem PySem.Spec PyProof.Rows
section
variable {X : Cx}
end
end L2

namespace L2
open PySem PySem.Spec PyProof.Rows
def CompF (J : It) (n : Nat) (g : TG) (tc : TT) (te : TE) (σ : St) (Q : VK) (H1 : Hp) : Prop := ∀ D, H1 D = none → ∃ W : Nat → Nat → Hp → Prop, (∃ m, W 0 m (upd H1 D (.lst []))) ∧ ∀ i m H, W i m H →
  (J.stop i H ∧ Q (.ref D) H) ∨ (J.go i H ∧ ∀ v H', J.yld i H v H' → ∀ us : St, us.length = n → g v (us ++ σ) H' fun σ2 H2 => (∃ us' : St, us'.length = n ∧ σ2 = us' ++ σ) ∧ tc σ2 H2 fun b H3 =>
    if b = true then te σ2 H3 fun y H4 => ∃ xs, H4 D = some (.lst xs) ∧ xs.length < sizeLine ∧ ∃ m', m' < m ∧ W (i + 1) m' (upd H4 D (.lst (xs ++ [y]))) else ∃ m', m' < m ∧ W (i + 1) m' H3)
def tCompF (wi : TI) (n : Nat) (g : TG) (tc : TT) (te : TE) : TE := fun σ H Q => wi σ H fun J H1 => CompF J n g tc te σ Q H1
section
variable {X : Cx} {ys M : List Str} {scope : Scope} {cl : List (Str × Addr)} {C : Addr} {s : Shared} {H : Hp} {fp : List Addr} {pins : List (Addr × Obj)} {σ : St}
theorem comp_loopF {prog : Program} {w : World} {A : Around} {R : Result → Shared → Prop} {s : Shared} {elt target iter c : Expr} {scope : Scope} {pos : Pos} {it acc : Value} {env : Env} (I : Nat → Shared → Prop)
    (turn : ∀ n s, I n s → wpAny (model prog w) A (pyNext it) (fun r s1 => match r with
      | none => R (.ok .next) s1
      | some v => wpAny (model prog w) A (letOwnedTupleGo target it v) (fun _ s2 => wpAny (model prog w) A (assign target env v) (fun _ s3 => wpAny (model prog w) A (isTrue c env (eval c env)) (fun ok s4 =>
          if ok = true then wpAny (model prog w) A (eval elt env) (fun x s5 => wpAny (model prog w) A (call (.builtin "list.append") [acc, x]) (fun _ s6 => ∃ m, m < n ∧ I m s6) (fun _ _ => False) s5) (fun _ _ => False) s4
          else ∃ m, m < n ∧ I m s4) (fun _ _ => False) s3) (fun _ _ => False) s2) (fun _ _ => False) s1) (fun _ _ => False) s) (n : Nat) (h : I n s) :
    codeAny (model prog w) A (.compLoop (.ListComp elt [⟨target, iter, [c], 0⟩] scope pos) 0 it acc env) R s := by
  refine codeAny_loop rfl I (fun k s1 hI => ?_) n h
  have no : ∀ {α : Type} {t : Sem α} {P : α → Shared → Prop} {E : Value → Shared → Prop} {z : Shared}, wpAny (model prog w) A t P (fun _ _ => False) z → wpAny (model prog w) A t P E z := fun q => wpAny_mono q (fun _ _ z => z) fun _ _ z => z.elim
  show wpAny _ _ ((compTurn (.ListComp elt [⟨target, iter, [c], 0⟩] scope pos) 0 it acc env).onRaise _) _ _ s1
  refine wpAny_noted ?_
  rw [compTurn_list]
  refine wpAny_bind (wpAny_standAt (wpAny_bind (no (wpAny_mono (turn k s1 hI) (fun r s2 h2 => ?_) fun _ _ z => z))))
  cases r with
  | none => exact wpAny_pure h2
  | some v =>
    refine wpAny_bind (no (wpAny_mono h2 (fun _ s3 h3 => ?_) fun _ _ z => z))
    refine wpAny_bind (no (wpAny_mono h3 (fun _ s4 h4 => ?_) fun _ _ z => z))
    refine wpAny_bind (wpAny_tests_one (no (wpAny_mono h4 (fun ok s5 h5 => ?_) fun _ _ z => z)))
    cases ok with
    | true =>
      rw [if_pos rfl] at h5
      refine wpAny_bind (wpAny_bind (no (wpAny_mono h5 (fun x s6 h6 => ?_) fun _ _ z => z)))
      exact wpAny_bind (no (wpAny_mono h6 (fun _ s7 h7 => wpAny_pure (wpAny_pure ⟨rfl, h7⟩)) fun _ _ z => z))
    | false =>
      rw [if_neg Bool.false_ne_true] at h5
      exact wpAny_pure ⟨rfl, h5⟩
theorem comp_coreF {elt iter tg cn : Expr} {pos : Pos} {g : TG} {tc : TT} {te : TE} {tn : Nat → Heap → Prop} {it : Addr} {J : It} {E : Value → Shared → Prop} {QQ : Addr → Hp → Prop} {RR : Value → Addr → Result → Shared → Prop} (I : Inv X pins σ H s) (c : CompSc X ys M scope cl) (hc : X.calm = true)
    (hg : ∀ C s₀ H₀ fp pins, PG (compCx X ys M scope cl C s₀ H₀ fp pins) tg g) (ht : ∀ C s₀ H₀ fp pins, PT (compCx X ys M scope cl C s₀ H₀ fp pins) cn tc) (he : ∀ C s₀ H₀ fp pins, PE (compCx X ys M scope cl C s₀ H₀ fp pins) elt te) (T : Turn X.prog X.w X.K tg J fp it tn) (st : tn 0 s.heap) (fk : ∀ b ∈ fp, FpOk X pins H b)
    (h : CompF J ys.length g tc te σ (fun v H' => ∃ D, v = .ref D ∧ QQ D H') H)
    (fin : ∀ D C H' s', s.heap.objs.size ≤ C → s'.heap.get? C ≠ none → (∃ m, s'.heap.Ns C m) → H' C = none → Inv X pins σ H' s' → QQ D H' → RR (.ref D) C (.ok .next) s') :
    wpAny (model X.prog X.w) X.A (newList []) (fun acc s₃ => wpAny (model X.prog X.w) X.A (newFunctionEnv scope X.env.globals cl [] X.env.qual none .none (some X.env)) (fun cenv s₄ =>
      codeAny (model X.prog X.w) X.A (.compStart (.ListComp elt [⟨tg, iter, [cn], 0⟩] scope pos) 0 (.ref it) acc { cenv with scope := relabel scope X.env }) (RR acc cenv.locals) s₄) E s₃) E s := by
  refine wpAny_newObj_type (wpAny_newFunctionEnv c.nocell (by intro y hy; simp at hy) (fun h1 hns hsb => ?_) c.kind)
  dsimp only at hns hsb ⊢
  have hf : H s.heap.objs.size = none := I.hok.fresh (Nat.le_refl _)
  have I3 : Inv X pins σ (upd H s.heap.objs.size (.lst [])) { s with heap := s.heap.push { cls := .type "list", dict := none, data := .seq ([] : List Value).toArray } } :=
    I.laid (t' := s.toks) (fun b u e => Heap.get?_push_of_some _ e) (Nat.le_refl _) ⟨by decide, [], _, .nil, Heap.get?_push_size _ rfl⟩
  have eD : ∀ b u, s.heap.get? b = some u → b ≠ s.heap.objs.size := fun b u e => Nat.ne_of_lt (Heap.lt_size e)
  have fk3 : ∀ b ∈ fp, FpOk X pins (upd H s.heap.objs.size (.lst [])) b ∧ ∃ o, (s.heap.push { cls := .type "list", dict := none, data := .seq ([] : List Value).toArray }).get? b = some o := fun b hb => by
    obtain ⟨o, eo, _⟩ := T.obj 0 _ st b hb
    obtain ⟨f1, f2⟩ := fk b hb
    exact ⟨⟨by rw [upd_ne (eD b o eo)]; exact f1, f2⟩, o, Heap.get?_push_of_some _ eo⟩
  have I4 := inv_comp (tk := s.toks + ([] : List (Str × Value)).length) I3 c rfl hns hsb fk3
  obtain ⟨W, ⟨m0, w0⟩, turn⟩ := h _ hf
  have st4 : tn 0 h1 := T.keep 0 _ _ st fun b hb o e => by
    have e2 := Heap.get?_push_of_some { cls := .type "list", dict := none, data := .seq ([] : List Value).toArray } e
    exact hsb.extBut b o (Nat.ne_of_lt (Heap.lt_size e2)) (Heap.get?_push_of_some _ e2)
  have stat : ∀ {H' : Hp}, (∀ b ∈ fp, H' b = none) → ∀ b ∈ fp, FpOk (compCx X ys M scope cl (s.heap.push { cls := .type "list", dict := none, data := .seq ([] : List Value).toArray }).objs.size { s with heap := s.heap.push { cls := .type "list", dict := none, data := .seq ([] : List Value).toArray } } (upd H s.heap.objs.size (.lst [])) fp pins) [] H' b :=
    fun hn b hb => ⟨hn b hb, (I4.ok.exf b hb).1, I4.ok.exfs b hb, .inl hb, (I4.ok.exf b hb).2, fun p hp => (fk3 b hb).1.2.2.2.2.2 p (by simpa [compCx] using hp)⟩
  have loop : ∀ s4 : Shared, s4 = { s with heap := h1, toks := s.toks + ([] : List (Str × Value)).length } →
      codeAny (model X.prog X.w) X.A (.compLoop (.ListComp elt [⟨tg, iter, [cn], 0⟩] scope pos) 0 (.ref it) (.ref s.heap.objs.size) (compEnvC scope cl (s.heap.push { cls := .type "list", dict := none, data := .seq ([] : List Value).toArray }).objs.size X.env))
        (RR (.ref s.heap.objs.size) (s.heap.push { cls := .type "list", dict := none, data := .seq ([] : List Value).toArray }).objs.size) s4 := by
    rintro s4 rfl
    refine comp_loopF (fun n s' => ∃ (i : Nat) (us : St) (H' : Hp), us.length = ys.length ∧ Inv (compCx X ys M scope cl (s.heap.push { cls := .type "list", dict := none, data := .seq ([] : List Value).toArray }).objs.size { s with heap := s.heap.push { cls := .type "list", dict := none, data := .seq ([] : List Value).toArray } } (upd H s.heap.objs.size (.lst [])) fp pins) [] (us ++ σ) H' s' ∧ tn i s'.heap ∧ (∀ b ∈ fp, H' b = none) ∧ W i n H')
      ?_ m0 ⟨0, _, _, List.length_replicate, I4, st4, fun b hb => (fk3 b hb).1.1, w0⟩
    rintro n s5 ⟨i, us, H5, lu, I5, st5, fr5, w5⟩
    rcases turn i n H5 w5 with ⟨stop, Dq, eDq, q⟩ | ⟨go, step⟩
    · cases eDq
      refine thn (T.done (compCx X ys M scope cl _ _ _ _ _) rfl rfl rfl hc i [] s5 _ H5 _ I5 (stat fr5) st5 stop) fun r s6 ⟨er, I6⟩ => ?_
      subst er
      obtain ⟨m, hn6, _⟩ := id I6.loc
      obtain ⟨o6, _, _, ho6, _⟩ := id hn6
      exact fin _ _ H5 s6 (by rw [Heap.size_push]; exact Nat.le_succ _) (fun z => by have z' := ho6.symm.trans z; cases z') ⟨m, hn6⟩ I6.free (inv_uncomp I3 fk3 I6) q
    · refine thn (T.item (compCx X ys M scope cl _ _ _ _ _) rfl rfl rfl hc i [] s5 _ H5 _ I5 (stat fr5) st5 go) fun r s6 ⟨u, er, h6⟩ => ?_
      subst er
      refine thn h6 fun _ s7 ⟨v', H7, I7, r7, y7, st7, fr7⟩ => ?_
      have I7' := I7.pinned (stat fr7) (T.obj _ _ st7)
      refine wpAny_mono (hg _ _ _ _ _ _ s7 _ H7 v' u _ I7' r7 (step v' H7 y7 us lu)) (fun _ s8 ⟨σ8, H8, I8, ⟨us', lu', e8⟩, q8⟩ => ?_) fun _ _ z => z.elim
      refine wpAny_mono (ht _ _ _ _ _ _ s8 _ H8 _ I8 q8) (fun ok s9 ⟨H9, I9, q9⟩ => ?_) fun _ _ z => z.elim
      subst e8
      cases ok with
      | true =>
        rw [if_pos rfl] at q9 ⊢
        refine wpAny_mono (he _ _ _ _ _ _ s9 _ H9 _ I9 q9) (fun y s10 ⟨yv, H10, I10, ry, xs, hxs, hlen, m', hm, w10⟩ => ?_) fun _ _ z => z.elim
        refine wpAny_mono (mt_append (X := compCx X ys M scope cl _ _ _ _ _) _ s10 _ H10 (.ref s.heap.objs.size) [yv] (.ref s.heap.objs.size) [y] (fun _ H11 => H11 = upd H10 s.heap.objs.size (.lst (xs ++ [yv]))) I10 rfl (.cons ry .nil) ⟨_, xs, yv, rfl, rfl, hxs, hlen, rfl⟩) (fun _ s11 ⟨z, H11, I11, rz, q11⟩ => ?_) fun _ _ z => z.elim
        subst q11
        refine ⟨m', hm, i + 1, us', _, lu', I11.unpinned (pins := []), T.keep _ _ _ st7 fun b hb o e => (I11.pin (b, o) (List.mem_append_right _ (List.mem_append_right _ (mem_pinsAt hb e)))).1, fun b hb => ?_, w10⟩
        obtain ⟨o, e, _⟩ := T.obj _ _ st7 b hb
        exact (I11.pin (b, o) (List.mem_append_right _ (List.mem_append_right _ (mem_pinsAt hb e)))).2.1
      | false =>
        rw [if_neg Bool.false_ne_true] at q9 ⊢
        obtain ⟨m', hm, w9⟩ := q9
        refine ⟨m', hm, i + 1, us', _, lu', I9.unpinned (pins := []), T.keep _ _ _ st7 fun b hb o e => (I9.pin (b, o) (List.mem_append_right _ (List.mem_append_right _ (mem_pinsAt hb e)))).1, fun b hb => ?_, w9⟩
        obtain ⟨o, e, _⟩ := T.obj _ _ st7 b hb
        exact (I9.pin (b, o) (List.mem_append_right _ (List.mem_append_right _ (mem_pinsAt hb e)))).2.1
  exact codeAny_compStart_list (loop _ rfl) (T.self _ 0 _ _ _ st4 (loop _ rfl))
/-- as a value -/
theorem pe_lcF {elt iter tg cn : Expr} {pos : Pos} {wi : TI} {g : TG} {tc : TT} {te : TE} {n : Nat} (ys M : List Str) (c0 : CompS X.env.scope X.N M ys scope) (hc : X.calm = true) (hi : PI X tg iter wi) (hg : ∀ C s₀ H₀ fp pins, PG (compCx X ys M scope (clOf scope X.env.cells) C s₀ H₀ fp pins) tg g)
    (ht : ∀ C s₀ H₀ fp pins, PT (compCx X ys M scope (clOf scope X.env.cells) C s₀ H₀ fp pins) cn tc) (he : ∀ C s₀ H₀ fp pins, PE (compCx X ys M scope (clOf scope X.env.cells) C s₀ H₀ fp pins) elt te)
    (hn : ys.length = n := by rfl) (hs : ∀ v, foldedSetIterable iter X.env v = pure v := by intro _; rfl) : PE X (.ListComp elt [⟨tg, iter, [cn], 0⟩] scope pos) (tCompF wi n g tc te) := by
  subst hn
  intro pins s σ H Q I h
  have c := c0.sc I.ok
  have hi' : PI X tg iter (fun σ H R => ∃ R', (∀ J H1, R' J H1 → R J H1) ∧ wi σ H R') := by
    intro pins s σ H R I ⟨R', hR, hw⟩
    refine thn (hi pins s σ H R' I hw) fun v s1 h1 => thn h1 fun itv s2 ⟨it, fp, tn, J, H', e, I', T, t0, fk, r⟩ => ⟨it, fp, tn, J, H', e, I', T, t0, fk, hR J H' r⟩
  rw [eval_ListComp]
  refine wpAny_comprehension_free (use := none) rfl hs c.clos c.kind c.names (thn (hi' pins s σ H (fun J H1 => CompF J ys.length g tc te σ (fun v H' => ∃ D, v = .ref D ∧ Q (.ref D) H') H1) I ⟨_, fun J H1 q D nD => ?_, h⟩) fun v s1 h1 => thn h1 fun itv s2 h2 => ?_)
  · obtain ⟨W, w0, t⟩ := q D nD
    exact ⟨W, w0, fun i m H w => (t i m H w).imp (fun z => ⟨z.1, D, rfl, z.2⟩) id⟩
  obtain ⟨it, fp, tn, J, H2, rfl, I2, T, st2, fk2, h3⟩ := h2
  refine comp_coreF (E := X.xe) (QQ := fun D H' => Q (.ref D) H') I2 c hc hg ht he T st2 fk2 h3 fun D C H' s' hC hl ns fr I' q => ?_
  obtain ⟨m, hn⟩ := ns
  refine ⟨m, hn, fun h' hs' => ?_⟩
  have sz := I2.sz
  exact ⟨.ref D, H', I'.turned (t' := s'.toks) (fun b o hb e => (hs'.2 b hb).trans e) fr (I2.fpOk hC fr).2.1 (I2.fpOk hC fr).2.2.2.1 (I2.fpOk hC fr).2.2.2.2.1 (I2.fpOk hC fr).2.2.2.2.2, rfl, q⟩
/-- y = [elt for tg in iter if c] on one line -/
theorem ps_lcF {elt iter tg cn : Expr} {pos py sp : Pos} {wi : TI} {g : TG} {tc : TT} {te : TE} {i n : Nat} {y : Str} (ys M : List Str) (hN : X.N.Nodup) (hy : X.N[i]? = some y) (ly : X.env.scope.names.lookup y = some .local) (c0 : CompS X.env.scope X.N M ys scope) (hc : X.calm = true) (hi : PI X tg iter wi)
    (hg : ∀ C s₀ H₀ fp pins, PG (compCx X ys M scope (clOf scope X.env.cells) C s₀ H₀ fp pins) tg g) (ht : ∀ C s₀ H₀ fp pins, PT (compCx X ys M scope (clOf scope X.env.cells) C s₀ H₀ fp pins) cn tc) (he : ∀ C s₀ H₀ fp pins, PE (compCx X ys M scope (clOf scope X.env.cells) C s₀ H₀ fp pins) elt te) (hn : ys.length = n := by rfl)
    (hsw : swapsWith (.ListComp elt [⟨tg, iter, [cn], 0⟩] scope pos) (some (.Name y py)) sp.line X.env = pure true := by rfl) (hs : ∀ v, foldedSetIterable iter X.env v = pure v := by intro _; rfl) :
    PS X (.Assign [.Name y py] (.ListComp elt [⟨tg, iter, [cn], 0⟩] scope pos) sp) (tAsg (tCompF wi n g tc te) (gName i)) := by
  subst hn
  intro pins s σ H D I h
  have c := c0.sc I.ok
  have hi' : PI X tg iter (fun σ H R => ∃ R', (∀ J H1, R' J H1 → R J H1) ∧ wi σ H R') := by
    intro pins s σ H R I ⟨R', hR, hw⟩
    refine thn (hi pins s σ H R' I hw) fun v s1 h1 => thn h1 fun itv s2 ⟨it, fp, tn, J, H', e, I', T, t0, fk, r⟩ => ⟨it, fp, tn, J, H', e, I', T, t0, fk, hR J H' r⟩
  rw [exec_Assign_Name_used _ _ _ _ hsw]
  refine wpAny_bind (wpAny_standAt (wpAny_bind ?_))
  show wpAny _ X.A (do let _ ← comprehension (.ListComp elt [⟨tg, iter, [cn], 0⟩] scope pos) scope X.env _ (newList []) false (eval iter X.env) (some (assign (.Name y py) X.env))) _ _ s
  refine wpAny_bind (wpAny_mono (wpAny_comprehension_free (use := some (assign (.Name y py) X.env)) (Q := fun _ s' => SP X pins D .next s') rfl hs c.clos c.kind c.names (thn (hi' pins s σ H (fun J H1 => CompF J ys.length g tc te σ (fun v H' => ∃ Da, v = .ref Da ∧ D.nx (σ.set i (some (.ref Da))) H') H1) I ⟨_, fun J H1 q Da nD => ?_, h⟩) fun v s1 h1 => thn h1 fun itv s2 h2 => ?_)) (fun _ s' hq => wpAny_pure (wpAny_pure hq)) fun _ _ z => z)
  · obtain ⟨W, w0, t⟩ := q Da nD
    exact ⟨W, w0, fun i m H w => (t i m H w).imp (fun z => ⟨z.1, Da, rfl, z.2⟩) id⟩
  obtain ⟨it, fp, tn, J, H2, rfl, I2, T, st2, fk2, h3⟩ := h2
  refine comp_coreF (E := X.xe) (QQ := fun Da H' => D.nx (σ.set i (some (.ref Da))) H') I2 c hc hg ht he T st2 fk2 h3 fun Da C H' s' hC hl ns fr I' q => ?_
  obtain ⟨m, hn⟩ := ns
  refine wpAny_assign_Name (store_ok2 I' hN hy (.inl ly) (v := .ref Da) rfl (fun s3 I3 ⟨a, hsa, ha⟩ => ?_) (.inr ly))
  have nC : C ≠ a := by
    rcases ha with z | z
    · rw [z]; exact (I2.fpOk hC fr).2.1
    · exact fun w' => (I2.fpOk hC fr).2.2.2.2.1 y a z w'.symm
  refine ⟨m, hn.sameBut hsa nC, fun h' hs' => ⟨_, H', I3.turned (t' := s3.toks) (fun b o hb e => (hs'.2 b hb).trans e) fr (I2.fpOk hC fr).2.1 (I2.fpOk hC fr).2.2.2.1 (I2.fpOk hC fr).2.2.2.2.1 (I2.fpOk hC fr).2.2.2.2.2, q⟩⟩
end
section
variable {K : PySem.W.Frag} {tc : TT} {te : TE} {σ : St} {Q : VK} {H : Hp}
theorem k_compF {wi : TI} {n : Nat} {g : TG} (h : wi σ H fun J H1 => CompF J n g tc te σ Q H1) : tCompF wi n g tc te σ H Q := h
/-- the wish behind an element that is left out, and behind one that may be -/
def SkK (n i : Nat) (Pv : Nat → Hp → Prop) : Hp → Prop := fun H2 => ∃ m', m' < n - i ∧ m' = n - (i + 1) ∧ i + 1 ≤ n ∧ Pv (i + 1) H2
def EltF (g : TG) (n : Nat) (tc : TT) (te : TE) (σ : St) (v : V) (H : Hp) (D : Addr) (m i : Nat) (Pv : Nat → Hp → Prop) : Prop := ∀ us : St, us.length = n → g v (us ++ σ) H fun σ2 H2 => (∃ us' : St, us'.length = n ∧ σ2 = us' ++ σ) ∧ tc σ2 H2 fun b H3 => if b = true then te σ2 H3 (EltK D m i Pv) else SkK m i Pv H3
theorem skipped {n i : Nat} {Pv : Nat → Hp → Prop} {H2 : Hp} (hi : i < n) (h : Pv (i + 1) H2) : SkK n i Pv H2 := ⟨n - (i + 1), by walk_at "om", rfl, hi, h⟩
end
end L2

namespace L2
open PySem PySem.Spec PyProof.Rows
section
variable {X : Cx} {pos : Pos}
end
section
variable {K : PySem.W.Frag} {σ : St} {H : Hp} {Q : VK} {te : TE}
end
end L2

namespace L2
open PySem PySem.Spec PyProof.Rows
section
variable {X : Cx} {tg : Expr}
end
end L2

namespace L2
open PySem PySem.Spec PyProof.Rows
section
variable {X : Cx} {tg : Expr}
end
section
variable {K : PySem.W.Frag} {te : TE} {σ : St} {Q : VK} {H : Hp}
end
end L2

namespace Gd
/-- the greatest number that divides both, as an int -/
def gd (a b : Int) : Int := (Int.gcd a b : Nat)
theorem gd_turn (a b : Int) : gd b (Int.fmod a b) = gd a b := by
  unfold gd
  have e : Int.fmod a b = a + b * (-(Int.fdiv a b)) := by
    rw [Int.fmod_def, Int.mul_neg]; walk_at "om"
  rw [e, Int.gcd_add_mul_left_right, Int.gcd_comm]
theorem gd_less {a b : Int} (h : b ≠ 0) : (Int.fmod a b).natAbs < b.natAbs := by
  rcases (by walk_at "om" : 0 < b ∨ b < 0) with p | p
  · have h1 := Int.fmod_nonneg_of_pos a p
    have h2 := Int.fmod_lt_of_pos a p
    walk_at "om"
  · have e : Int.fmod a b = -(Int.fmod (-a) (-b)) := by
      rw [Int.fmod_def, Int.fmod_def, Int.neg_fdiv_neg]
      rw [Int.neg_mul]; walk_at "om"
    have h1 := Int.fmod_nonneg_of_pos (-a) (b := -b) (by walk_at "om")
    have h2 := Int.fmod_lt_of_pos (-a) (b := -b) (by walk_at "om")
    walk_at "om"
theorem gd_zero (a : Int) : gd a 0 = (a.natAbs : Int) := by
  unfold gd
  rw [Int.gcd_zero_right]
theorem gd_out (a : Int) : (if a < 0 then -a else a) = gd a 0 := by
  rw [gd_zero]; split <;> walk_at "om"
theorem gd_pos {a b : Int} (h : b ≠ 0) : 0 < gd a b := by
  unfold gd
  have : Int.gcd a b ≠ 0 := fun e => h (Int.gcd_eq_zero_iff.mp e).2
  walk_at "om"
theorem gd_le {a b : Int} (h : b ≠ 0) : gd a b ≤ (b.natAbs : Int) := by
  unfold gd
  have := Int.gcd_le_natAbs_right a h
  walk_at "om"
/-- what a fraction is: by d = gd, with the bottom's sign -/
structure Low (top bottom q p : Int) : Prop where
  pos : 0 < p
  low : gd q p = 1
  worth : q * bottom = top * p
theorem low_of {t b d : Int} (hb : b ≠ 0) (hd : d = gd t b ∧ 0 < b ∨ d = - gd t b ∧ b < 0) : Low t b (Int.fdiv t d) (Int.fdiv b d) := by
  have gp := gd_pos (a := t) hb
  have d1 : gd t b ∣ t := Int.gcd_dvd_left t b
  have d2 : gd t b ∣ b := Int.gcd_dvd_right t b
  have e1 : d ∣ t := by rcases hd with ⟨e, _⟩ | ⟨e, _⟩ <;> rw [e]; exact d1; exact Int.neg_dvd.mpr d1
  have e2 : d ∣ b := by rcases hd with ⟨e, _⟩ | ⟨e, _⟩ <;> rw [e]; exact d2; exact Int.neg_dvd.mpr d2
  have d0 : d ≠ 0 := by rcases hd with ⟨e, _⟩ | ⟨e, _⟩ <;> walk_at "om"
  obtain ⟨q, rfl⟩ := e1
  obtain ⟨p, rfl⟩ := e2
  rw [Int.mul_fdiv_cancel_left _ d0, Int.mul_fdiv_cancel_left _ d0]
  refine ⟨?_, ?_, ?_⟩
  · rcases hd with ⟨e, z⟩ | ⟨e, z⟩
    · exact Int.pos_of_mul_pos_right z (by walk_at "om") |> fun h => h
    · have z' : 0 < (-d) * p := by rw [Int.neg_mul]; walk_at "om"
      exact Int.pos_of_mul_pos_right z' (by walk_at "om")
  · have m : gd (d * q) (d * p) = (d.natAbs : Int) * gd q p := by
      unfold gd; rw [Int.gcd_mul_left]; simp
    have n : gd (d * q) (d * p) = (d.natAbs : Int) := by
      rcases hd with ⟨e, z⟩ | ⟨e, z⟩ <;> walk_at "om"
    rw [n] at m
    have k : (d.natAbs : Int) * gd q p = (d.natAbs : Int) * 1 := by walk_at "om"
    exact Int.eq_of_mul_eq_mul_left (by walk_at "om") k
  · rw [← Int.mul_assoc, Int.mul_comm q d]
theorem fdiv_abs {t d : Int} (h : d ≠ 0) (hd : d ∣ t) : (Int.fdiv t d).natAbs ≤ t.natAbs := by
  obtain ⟨q, rfl⟩ := hd
  rw [Int.mul_fdiv_cancel_left _ h, Int.natAbs_mul]
  exact Nat.le_mul_of_pos_left _ (by walk_at "om")
theorem low_abs {t b d : Int} (hb : b ≠ 0) (hd : d = gd t b ∧ 0 < b ∨ d = - gd t b ∧ b < 0) : (Int.fdiv t d).natAbs ≤ t.natAbs ∧ (Int.fdiv b d).natAbs ≤ b.natAbs := by
  have gp := gd_pos (a := t) hb
  have d1 : gd t b ∣ t := Int.gcd_dvd_left t b
  have d2 : gd t b ∣ b := Int.gcd_dvd_right t b
  have d0 : d ≠ 0 := by rcases hd with ⟨e, _⟩ | ⟨e, _⟩ <;> walk_at "om"
  refine ⟨fdiv_abs d0 ?_, fdiv_abs d0 ?_⟩
  · rcases hd with ⟨e, _⟩ | ⟨e, _⟩ <;> rw [e]; exact d1; exact Int.neg_dvd.mpr d1
  · rcases hd with ⟨e, _⟩ | ⟨e, _⟩ <;> rw [e]; exact d2; exact Int.neg_dvd.mpr d2
end Gd

namespace Fr
open PySem L2
def spDiv : Sp := fun vs H Q _ => ∃ a b : Int, vs = [.int a, .int b] ∧ Q (.int (Gd.gd a b)) H
theorem len_div {vs : List V} {H : Hp} {Q : VK} {E : XK} {y z : Str} (h : spDiv vs H Q E) : vs.length = [y, z].length := by
  obtain ⟨a, b, rfl, _⟩ := h
  rfl
/-- while other != 0: rest = one % other; one = other; other = rest / return abs(one) -/
def tDiv : TS := (tSeq (tWhile (tTest (tOp rNe (tVar 1) (tC (.int 0))))
  (tSeq (tAsg (tOp rModN (tVar 0) (tVar 1)) (gName 2))
  (tSeq (tAsg (tVar 1) (gName 0))
  (tAsg (tVar 2) (gName 1)))))
  (tRet (tCB rAbs (tCons (tVar 0) tNil))))
theorem rd_div (a b : Int) (H : Hp) (D : Ends) (k : D.rt (.int (Gd.gd a b)) H) : tDiv D [some (.int a), some (.int b), none] H := by
  refine while_by (fun σ H' => H' = H ∧ ∃ (i j : Int) (v : Option V), σ = [some (.int i), some (.int j), v] ∧ Gd.gd i j = Gd.gd a b)
    (fun σ _ => match σ with | [_, some (.int j), _] => j.natAbs | _ => 0) ⟨rfl, a, b, none, rfl, rfl⟩ ?_ ?_
  · rintro σ H' ⟨rfl, i, j, v, rfl, e⟩
    refine ⟨_, rfl, rfl, _, rfl, iteNE (fun hj => ?_) (fun hj => ?_)⟩
    · refine ⟨_, rfl, _, rfl, _, _, rfl, rfl, hj, _, rfl, _, rfl, ⟨rfl, j, i.fmod j, _, rfl, (Gd.gd_turn i j).trans e⟩, ?_⟩
      exact Gd.gd_less hj
    · subst hj
      refine ⟨_, rfl, _, rfl, ?_⟩
      rw [Gd.gd_out, e]
      exact k
  · rintro σ H' R R' h ⟨v, e, sc, c, ec, q⟩
    exact ⟨v, e, sc, c, ec, h _ _ q⟩
end Fr

namespace Fr
open PySem L2
open PySem.W (Dat kqdOk)
def cellOf (ns : List Int) (k : Int) : Int := (ns[k.toNat]?).getD 0
def spCell (K : PySem.W.Frag) : Sp := fun vs H Q _ => ∃ (a : Addr) (ns : List Int) (k : Int), vs = [.ref a, .int k] ∧ SqL K H a (ns.map V.int) ∧ 0 ≤ k ∧ Q (.int (cellOf ns k)) H
theorem len_cell {K : PySem.W.Frag} {vs : List V} {H : Hp} {Q : VK} {E : XK} {y z : Str} (h : spCell K vs H Q E) : vs.length = [y, z].length := by
  obtain ⟨a, ns, k, rfl, _⟩ := h
  rfl
def tCell (K : PySem.W.Frag) : TS := (tSeq (tIfS (tTest (tOp rLt (tVar 1) (tCB (rLenQ K) (tCons (tVar 0) tNil))))
  (tRet (tOp (rIxL K) (tVar 0) (tVar 1)))
  tNext)
  (tRet (tC (.int 0))))
theorem rd_cell {K : PySem.W.Frag} {a : Addr} {ns : List Int} {k : Int} {H : Hp} {D : Ends} (hS : SqL K H a (ns.map V.int)) (h0 : 0 ≤ k) (q : D.rt (.int (cellOf ns k)) H) : tCell K D [some (.ref a), some (.int k)] H := by
  have el : (ns.map V.int).length = ns.length := List.length_map _
  refine ⟨_, rfl, _, rfl, a, _, rfl, .inl hS, _, _, rfl, rfl, _, rfl, iteD (fun c => ?_) (fun c => ?_)⟩
  · rw [el] at c
    have hk : k.toNat < ns.length := by walk_at "om"
    have e : k = ((k.toNat : Nat) : Int) := by walk_at "om"
    have z : cellOf ns k = ns[k.toNat] := by
      unfold cellOf
      rw [List.getElem?_eq_getElem hk]
      rfl
    have w : atI (ns.map V.int) ((k.toNat : Nat) : Int) = some (.int ns[k.toNat]) := atI_nat (by rw [List.getElem?_map]; simp [hk])
    rw [← e] at w
    rw [z] at q
    exact ⟨_, rfl, _, rfl, a, _, _, _, rfl, rfl, hS, w, q⟩
  · rw [el] at c
    have z : cellOf ns k = 0 := by
      unfold cellOf
      rw [List.getElem?_eq_none (by walk_at "om")]
      rfl
    rw [z] at q
    exact q
def spWhole : Sp := fun vs H Q _ => ∃ i : Int, vs = [.int i] ∧ Q (.bl true) H
theorem len_whole {vs : List V} {H : Hp} {Q : VK} {E : XK} {y : Str} (h : spWhole vs H Q E) : vs.length = [y].length := by
  obtain ⟨i, rfl, _⟩ := h
  rfl
def tWhole (K : PySem.W.Frag) : TS := (tRet (tAndV (tCB (rIsi K) (tCons (tVar 0) (tCons (tC (.ty "int")) tNil))) (tNotV (tCB (rIsi K) (tCons (tVar 0) (tCons (tC (.ty "bool")) tNil))))))
theorem rd_whole {K : PySem.W.Frag} {i : Int} {H : Hp} {D : Ends} (q : D.rt (.bl true) H) : tWhole K D [some (.int i)] H :=
  ⟨_, rfl, _, _, _, _, rfl, TyOf.int i, kit_ii, _, rfl, iteT ⟨_, rfl, _, _, _, _, rfl, TyOf.int i, kit_ib, _, rfl, q⟩⟩
end Fr

namespace Kd
open PySem L2
end Kd

namespace Ex0
open PySem L2 Fr Kd
end Ex0

namespace L2
open PySem PySem.SetTable
end L2
namespace L2
open PySem PySem.SetTable
theorem insertAt_list {α : Type} (l : List α) (p : Nat) (x : α) (_hp : p ≤ l.length) : insertAt l.toArray p x = (l.take p ++ x :: l.drop p).toArray := by
  unfold insertAt
  apply Array.ext'
  simp [List.extract_eq_take_drop]
  rw [List.take_of_length_le (by simp)]
theorem slot_empty {t : SetTable} {l : List Nat} (hp : t.place = l.toArray) (hd : t.dummies = #[]) {j : Nat} (h : j ∉ l) : t.slot j = .empty := by
  unfold SetTable.slot
  rw [hp, hd]
  show (if l.toArray[below l.toArray j]? == some j then _ else _) = _
  rw [if_neg, if_neg]
  · simp [has, below, below.go]
  · intro e
    exact h (List.mem_of_getElem? (by simpa using e))
end L2
namespace L2
open PySem PySem.SetTable
theorem get_ins {α : Type} {l : List α} {p : Nat} (hp : p ≤ l.length) (x : α) (i : Nat) : (l.take p ++ x :: l.drop p)[i]? = if i < p then l[i]? else if i = p then some x else l[i - 1]? := by
  have ht : (l.take p).length = p := by rw [List.length_take]; walk_at "om"
  by_cases h1 : i < p
  · rw [if_pos h1, List.getElem?_append_left (by walk_at "om"), List.getElem?_take, if_pos h1]
  · rw [if_neg h1, List.getElem?_append_right (by walk_at "om"), ht]
    by_cases h2 : i = p
    · rw [if_pos h2, h2, Nat.sub_self]; rfl
    · rw [if_neg h2, show i - p = (i - p - 1) + 1 by walk_at "om", List.getElem?_cons_succ, List.getElem?_drop]
      congr 1; walk_at "om"
end L2
namespace L2
open PySem PySem.SetTable
end L2

namespace L2
open PySem PySem.Spec PyProof.Rows
section
variable {prog : Program} {w : World} {E : Value → Shared → Prop}
end
section
variable {prog : Program} {w : World} {A : Around} {E : Value → Shared → Prop}
end
end L2
namespace L2
open PySem PySem.Spec PyProof.Rows
open PySem.W (Dat kqdP kqdOk)
section
variable {prog : Program} {w : World} {A : Around} {E : Value → Shared → Prop} {s : Shared}
end
end L2
namespace L2
open PySem PySem.Spec PyProof.Rows
open PySem.W (Dat kqdP kqdOk)
section
variable {prog : Program} {w : World} {A : Around} {E : Value → Shared → Prop} {s : Shared}
end
end L2

namespace L2
open PySem PySem.Spec PyProof.Rows
open PySem.W (Dat kqdP kqdOk)
section
variable {prog : Program} {w : World} {A : Around} {R : Result → Shared → Prop} {I : Addr} {fp wr : List Addr} {n : Nat} {P : Nat → Value → Prop} {St : Nat → Heap → Prop}
theorem set_loop (W : Walks prog w A.in1 I fp wr n P St) (S : Addr) (nS : S ∉ fp) (Z : Nat → Heap → Prop) (zk : ∀ i h h', Z i h → (∀ b o, b ∉ wr → h.get? b = some o → h'.get? b = some o) → Z i h')
    (za : ∀ i v (s : Shared) (Q : Bool → Shared → Prop) (E : Value → Shared → Prop), i < n → P i v → Z i s.heap → (∀ r h' tk, Z (i + 1) h' → (∀ b, b ≠ S → h'.get? b = s.heap.get? b) → Q r { s with heap := h', toks := tk }) → wpAny (model prog w) A.in1 (setAdd S v) Q E s) :
    ∀ (k i : Nat) (s : Shared), n - i = k → i ≤ n → St i s.heap → Z i s.heap → (∀ h' tk, Z n h' → (∀ b o, b ∉ S :: wr → s.heap.get? b = some o → h'.get? b = some o) → R (.ok (.ret .none)) { s with heap := h', toks := tk }) →
      codeAny (model prog w) A (.builtin "set.update.loop" ⟨[.ref S, .ref I], []⟩) R s := by
  have nw : S ∉ wr := fun h => nS (W.sub _ h)
  intro k
  induction k with
  | zero =>
    intro i s hk hi hst hz hR
    obtain rfl : i = n := by walk_at "om"
    refine codeAny_builtin F.entry_set_update_loop ?_; rw [Around.under_plainId F.plain_set_update_loop _]
    refine (show wpAny _ A.in1 (pyNext (.ref I) >>= _) _ _ s from wpAny_bind (W.done s _ _ hst fun h' tk hm => ?_))
    refine (show wpAny _ A.in1 (ret Value.none) _ _ _ from wpAny_pure (hR h' tk (zk _ _ _ hz hm) fun b o hb e => hm b o (fun z => hb (List.mem_cons_of_mem _ z)) e))
  | succ k ih =>
    intro i s hk hi hst hz hR
    have hlt : i < n := by walk_at "om"
    refine codeAny_builtin F.entry_set_update_loop ?_; rw [Around.under_plainId F.plain_set_update_loop _]
    refine (show wpAny _ A.in1 (pyNext (.ref I) >>= _) _ _ s from wpAny_bind (W.item i s _ _ hlt hst fun v h' tk hP hst' hm => ?_))
    refine (show wpAny _ A.in1 (holding [v] (setAdd S v) >>= _) _ _ _ from wpAny_bind (wpAny_holding (za i v _ _ _ hlt hP (zk _ _ _ hz hm) fun r h2 tk2 z2 k2 => ?_)))
    refine wpAny_pure ⟨plainId_quiet F.plain_set_update_loop _, ih (i + 1) _ (by walk_at "om") hlt (W.frame _ _ _ hst' fun b hb o e => ?_) z2 fun h3 tk3 z3 k3 => hR h3 tk3 z3 fun b o hb e => ?_⟩
    · exact (k2 b fun z => nS (z ▸ hb)).trans e
    · refine k3 b o hb ((k2 b fun z => hb (z ▸ List.mem_cons_self)).trans (hm b o (fun z => hb (List.mem_cons_of_mem _ z)) e))
end
namespace F
theorem sub_tuple_set : isSubtype (.type "tuple") (.type "set") = pure false := by rw [isSubtype_type]; kernel_rfl
theorem sub_tuple_frozenset : isSubtype (.type "tuple") (.type "frozenset") = pure false := by rw [isSubtype_type]; kernel_rfl
end F
section
variable {prog : Program} {w : World} {A : Around} {E : Value → Shared → Prop} {s : Shared}
theorem Kn.walks (k : Kn) (hh : A.handled = none) (I ax : Addr) (hne : ax ≠ I) (items : Array Value) : Walks prog w A I [I, ax] [I] items.size (fun i v => items[i]? = some v) (fun i h => k.it h I ax i ∧ k.seq h ax items) := by
  cases k
  · exact Walks.list hh I ax hne items
  · exact Walks.tuple hh I ax hne items
/-- a new set's object -/
def sob (led : Bool) : Obj := { cls := .type "set", dict := none, data := .set #[] 0 (.fresh 0 0 led) }
end
end L2

namespace L2
open PySem PySem.Spec PyProof.Rows
open PySem.W (Dat kqdP kqdOk)
theorem bb_set : bootBuiltins "set" = some (.type "set") := by decide +kernel
end L2

namespace L2
open PySem PySem.Spec PyProof.Rows
def Ite (K : PySem.W.Frag) (a : Addr) : It :=
  ⟨fun i H => ∃ xs, SqL K H a xs ∧ i < xs.length, fun i H v H' => ∃ T x, H T = none ∧ v = .ref T ∧ H' = upd H T (.tup [.int i, x]) ∧ ∀ xs, SqL K H a xs → xs[i]? = some x, fun i H => ∃ xs, SqL K H a xs ∧ xs.length ≤ i⟩
theorem turn_enum {P : Program} {w : World} {K : PySem.W.Frag} {elts : List Expr} {x1} {pos : Pos} {a e it : Addr} (n1 : e ≠ it) (n2 : a ≠ it) :
    Turn P w K (.Tuple elts x1 pos) (Ite K a) [e, it] e (fun i h => (∃ old, IsEnum h e it (i : Int) old) ∧ h.IsListIter it a i) where
  mem := by simp
  obj := fun i h ⟨⟨old, he⟩, t⟩ c hc => by
    simp only [List.mem_cons, List.not_mem_nil, or_false] at hc
    rcases hc with rfl | rfl
    · exact ⟨_, he, fun v q => by cases (show Data.fields _ = Data.cell v from q)⟩
    · obtain ⟨o, ho, _, d⟩ := t; exact ⟨o, ho, fun v q => by rw [d] at q; cases q⟩
  keep := fun i h h' ⟨⟨old, he⟩, t⟩ kp => ⟨⟨old, kp e (by simp) _ he⟩, t.at fun o z => kp it (by simp) o z⟩
  item := by
    intro X hP hw hK hc i pins s σ H E I hf ⟨⟨old, he⟩, t⟩ hg
    subst hP hw hK
    obtain ⟨xs, q1, l1⟩ := hg
    obtain ⟨its, r1, p, _⟩ := I.list q1
    obtain ⟨u1, e1, ru1⟩ := r1.get (List.getElem?_eq_getElem l1)
    refine wpAny_pyNext_enum_item he t p.isList (x := u1) (by simpa using e1) n1 fun h' he' t' hT sz all => ⟨_, rfl, ?_⟩
    refine wpAny_letOwnedTupleGo_enum (s := { s with heap := h', toks := s.toks + 1 }) he' fun h2 he2 sb => ?_
    have hfr : H s.heap.objs.size = none := I.hok.fresh (Nat.le_refl _)
    have nT : ∀ c ∈ [e, it], c ≠ s.heap.objs.size := fun c hc' => by
      simp only [List.mem_cons, List.not_mem_nil, or_false] at hc'
      rcases hc' with rfl | rfl
      · exact Nat.ne_of_lt (Heap.lt_size he)
      · obtain ⟨o, ho, _⟩ := t; exact Nat.ne_of_lt (Heap.lt_size ho)
    have I1 : Inv X pins σ (upd H s.heap.objs.size (.tup [.int i, xs[i]])) { s with heap := s.heap.push { cls := .type "tuple", data := .seq #[.int i s.toks, u1] } } :=
      I.laid (t' := s.toks) (fun b u z => Heap.get?_push_of_some _ z) (Nat.le_refl _) ⟨by show 2 ≤ sizeLine; decide, [.int i s.toks, u1], .cons ⟨_, rfl⟩ (.cons ru1 .nil), ⟨_, Heap.get?_push_size _ rfl, rfl, _, rfl⟩⟩
    have I2 : Inv X pins σ (upd H s.heap.objs.size (.tup [.int i, xs[i]])) { s with heap := h2, toks := s.toks + 1 } := Inv.turnedL (s := { s with heap := s.heap.push { cls := .type "tuple", data := .seq #[.int i s.toks, u1] } }) (t' := s.toks + 1) (fp := [e, it]) I1 (fun c o hc' z => by
      have c1 : c ≠ e := fun x => hc' (by simp [x])
      have c2 : c ≠ it := fun x => hc' (by simp [x])
      rcases Heap.get?_push_cases z with ⟨ec, eo⟩ | z
      · rw [ec, eo]; exact sb.extBut _ _ (nT e (by simp)).symm hT
      · exact sb.extBut _ _ c1 (all c o c1 c2 z)) fun c hc' => ⟨by rw [upd_ne (nT c hc')]; exact (hf c hc').1, (hf c hc').2⟩
    exact ⟨.ref s.heap.objs.size, _, I2, rfl, ⟨s.heap.objs.size, xs[i], hfr, rfl, rfl, fun zs hz => by rw [I.list_inj hz q1, List.getElem?_eq_getElem l1]⟩, ⟨⟨_, he2⟩, t'.at fun o z => sb.extBut _ _ n1.symm z⟩, fun c hc' => by rw [upd_ne (nT c hc')]; exact (hf c hc').1⟩
  done := by
    intro X hP hw hK hc i pins s σ H E I hf ⟨⟨old, he⟩, t⟩ hg
    subst hP hw hK
    obtain ⟨xs, q1, le⟩ := hg
    obtain ⟨its, r1, p, _⟩ := I.list q1
    have e1 := r1.length
    exact wpAny_pyNext_enum_end (I.ok.hd hc) he t p.isList (by simp; walk_at "om") fun h' all => ⟨rfl, I.turnedL (t' := s.toks) (fun c o hc' z => all c o (fun x => hc' (by simp [x])) z) hf⟩
  self := fun _ _ _ _ _ st q => let ⟨⟨_, he⟩, _⟩ := st; wpAny_pyIter_enum he q
def iEnum (K : PySem.W.Frag) (ta : TA) : TI := fun σ H R => ta σ H fun vs H1 => ∃ a xs, vs = [.ref a] ∧ SqL K H1 a xs ∧ R (Ite K a) H1
theorem bb_enumerate : bootBuiltins "enumerate" = some (.type "enumerate") := by decide +kernel
section
variable {X : Cx}
theorem pi_enum {x : Expr} {ta : TA} {elts : List Expr} {x1} {p pos tp : Pos} (hg : Gl X "enumerate") (hm : X.mg "enumerate" = none) (ha : PA X [x] ta) (hs : starEach [x] X.env = [(false, eval x X.env)] := by rfl) :
    PI X (.Tuple elts x1 tp) (.Call (.Name "enumerate" p) [x] [] pos) (iEnum X.K ta) := by
  intro pins s σ H R I h
  refine Call_ (ld_blt I hg hm bb_enumerate (PyProof.Rows.callWith_type1 (thn (ha pos pins s σ H _ I h) fun us s1 ⟨vs, H1, I1, r1, q1⟩ => ?_) (by rw [hs]; rfl) (by rfl)))
  obtain ⟨a, xs, e, sq, q⟩ := q1
  subst e
  obtain ⟨u1, rfl, ra⟩ := vals1 r1
  cases ra
  obtain ⟨its, rv, p1, _⟩ := I1.list sq
  have lt : a < s1.heap.objs.size := by obtain ⟨_, z, _⟩ := p1.isList; exact Heap.lt_size z
  refine call_enumerate_list p1.isList fun h' he t sz kp => ?_
  refine wpAny_pyIter_enum (s := { s1 with heap := h' }) he ?_
  refine ⟨s1.heap.objs.size + 1, [s1.heap.objs.size + 1, s1.heap.objs.size], _, _, H1, rfl, I1.kept (t' := s1.toks) kp, turn_enum (Nat.succ_ne_self _) (Nat.ne_of_lt lt), ⟨⟨_, he⟩, t⟩, fun c hc => ?_, q⟩
  have le2 : s1.heap.objs.size ≤ c := by
    simp only [List.mem_cons, List.not_mem_nil, or_false] at hc
    rcases hc with rfl | rfl
    · exact Nat.le_succ _
    · exact Nat.le_refl _
  exact I1.fpOk le2 (I1.hok.fresh le2)
end
section
variable {K : PySem.W.Frag} {te : TE} {tc : TT} {σ : St} {Q : VK} {H : Hp} {D : Ends}
theorem k_enum {ta : TA} {R : It → Hp → Prop} (h : ta σ H fun vs H1 => ∃ a xs, vs = [.ref a] ∧ SqL K H1 a xs ∧ R (Ite K a) H1) : iEnum K ta σ H R := h
theorem fat_enum {a : Addr} {xs : List V} {g : TG} {tb : TS} (Pv : Nat → St → Hp → Prop) (h0 : Pv 0 σ H) (hl : ∀ i σ H, i ≤ xs.length → Pv i σ H → SqL K H a xs)
    (hs : ∀ i x σ H T, xs[i]? = some x → Pv i σ H → H T = none → g (.ref T) σ (upd H T (.tup [.int i, x])) fun σ2 H2 => tb { D with nx := Pv (i + 1), ct := Pv (i + 1), bk := D.nx } σ2 H2) (hd : ∀ σ H, Pv xs.length σ H → D.nx σ H) : FAt (Ite K a) g tb D σ H := by
  refine ⟨fun i m σ H => m = xs.length - i ∧ i ≤ xs.length ∧ Pv i σ H, ⟨_, rfl, Nat.zero_le _, h0⟩, ?_⟩
  rintro i m σ H ⟨rfl, hi, p⟩
  have q := hl i σ H hi p
  by_cases hlt : i < xs.length
  · refine .inr ⟨⟨xs, q, hlt⟩, Pv (i + 1), fun σ' H' p' => ⟨xs.length - (i + 1), by walk_at "om", rfl, hlt, p'⟩, fun v H' y => ?_⟩
    obtain ⟨T, x, nT, rfl, rfl, z⟩ := y
    exact hs i x σ H T (z xs q) p nT
  · have e : i = xs.length := by walk_at "om"
    subst e
    exact .inl ⟨⟨xs, q, Nat.le_refl _⟩, hd σ H p⟩
end
end L2

namespace L2
open PySem PySem.Spec PyProof.Rows
def rRepS : R2 := fun x y H Q => ∃ z i, x = .str z ∧ y = .int i ∧ (i = 0 ∨ i = 1) ∧ Q (.str (if i = 0 then Str.empty else z)) H
section
variable {X : Cx}
theorem op_repS : OpR X (binaryOp .Mult) rRepS := by
  intro pins s σ H x y v u Q I rx ry h
  obtain ⟨z, i, rfl, rfl, hi, q⟩ := h
  obtain ⟨t, rfl⟩ := rx
  obtain ⟨t', rfl⟩ := ry
  rcases hi with rfl | rfl
  · exact P.mul_str_none (by decide) (by decide) ⟨.str Str.empty, H, I.tok _, ⟨_, rfl⟩, q⟩
  · refine P.mul_str (by decide) (fun _ e => by simp at e) (fun _ e => by simp at e) ?_
    rw [if_neg (by decide), if_pos (by simp)]
    exact ⟨.str z, H, I, ⟨_, rfl⟩, q⟩
theorem k_repS {H : Hp} {Q : VK} {z : Str} {i : Int} (hi : i = 0 ∨ i = 1) (q : Q (.str (if i = 0 then Str.empty else z)) H) : rRepS (.str z) (.int i) H Q := ⟨z, i, rfl, rfl, hi, q⟩
end
section
variable {prog : Program} {w : World} {A : Around} {E : Value → Shared → Prop} {s : Shared}
end
section
variable {X : Cx} {tg : Expr}
end
section
variable {K : PySem.W.Frag} {σ : St} {Q : VK} {H : Hp} {D : Ends}
end
open PySem.W (Dat kqdOk kqdP kqdPs)
/-- xs.index(y): y stands there, first at j -/
def rIndex (K : PySem.W.Frag) : V → List V → Hp → VK → Prop := fun x xs H Q => ∃ (a : Addr) (y : V) (ds : List Dat) (d : Dat) (j : Nat), x = .ref a ∧ xs = [y] ∧ Rep K H y d ∧ Rep K H (.ref a) (.list ds) ∧ (∀ e ∈ ds, kqdOk 8 e = true) ∧ kqdOk 8 d = true ∧ ds[j]? = some d ∧ (∀ m, m < j → ds[m]? ≠ some d) ∧ ds.length ≤ 1000 ∧ Q (.int j) H
open Classical in
theorem eqv_dec2 {d e : Dat} (he : kqdOk 8 e = true) (hd : kqdOk 8 d = true) : PyData.eqv (kqdP e) (kqdP d) = decide (d = e) := by
  have h := any_dec (ds := [e]) (d := d) (fun x hx => by rw [List.mem_singleton.mp hx]; exact he) hd
  rw [kqdPs, kqdPs, List.any_cons, List.any_nil, Bool.or_false] at h
  rw [h]
  by_cases z : d = e
  · simp [z]
  · simp [z]
theorem kqdPs_get : ∀ {ds : List Dat} {i : Nat}, (kqdPs ds)[i]? = (ds[i]?).map kqdP
  | [], i => by rw [kqdPs]; simp
  | d :: ds, 0 => by rw [kqdPs]; rfl
  | d :: ds, i + 1 => by rw [kqdPs, List.getElem?_cons_succ, List.getElem?_cons_succ, kqdPs_get]
theorem kqdPs_len : ∀ ds : List Dat, (kqdPs ds).length = ds.length
  | [] => by rw [kqdPs]; rfl
  | d :: ds => by rw [kqdPs, List.length_cons, List.length_cons, kqdPs_len]
open Classical in
theorem mt_index {X : Cx} (hu : X.A.units + 64 < cLine) : MtR X "list.index" (rIndex X.K) := by
  intro pins s σ H x xs v us Q I rx rv h
  obtain ⟨a, y, ds, d, j, rfl, rfl, hd, he, ka, kd, e1, e2, ln, q⟩ := h
  obtain ⟨u, rfl, ru⟩ := vals1 rv
  obtain ⟨as, ra⟩ := Rep.reads I hd ru
  obtain ⟨bs, rb⟩ := Rep.reads I he rx
  rw [kqdP] at rb
  cases rx
  generalize hp : kqdPs ds = ps at rb
  cases rb with
  | @list _ o its n _ _ h1 h2 h3 h4 =>
    obtain ⟨c, dct, dt, sl⟩ := o
    replace h2 : c = .type "list" := h2
    replace h3 : dt = .seq its n := h3
    subst h2 h3
    have hxs : PyData.canLayAll0 ps = true := by rw [← hp]; exact (PySem.W.kqd_layL ka).1
    have hmap := SeqAt.readsAll_map ps _ _ hxs h4
    have lj : j < ds.length := (List.getElem?_eq_some_iff.mp e1).1
    have at_ : ∀ m (hm : m < its.size), PyData.eqv (SeqAt.readOf s.heap its[m]) (kqdP d) = decide (ds[m]? = some d) := by
      intro m hm
      have g : (its.toList.map (SeqAt.readOf s.heap))[m]? = some (SeqAt.readOf s.heap its[m]) := by rw [List.getElem?_map, Array.getElem?_toList, Array.getElem?_eq_getElem hm]; rfl
      rw [hmap, ← hp, kqdPs_get] at g
      obtain ⟨e, ge, gp⟩ := Option.map_eq_some_iff.mp g
      rw [← gp, eqv_dec2 (ka e (List.mem_of_getElem? ge)) kd, ge]
      by_cases z : d = e
      · simp [z]
      · have : e ≠ d := fun w => z w.symm
        simp [z, this]
    have szl : its.size = ds.length := by
      have := congrArg List.length hmap
      rw [List.length_map, Array.length_toList, ← hp] at this
      rw [this, kqdPs_len]
    have hm : wpAny (model X.prog X.w) X.A (call (.builtin "list.index") [.ref a, u]) (EP X pins σ Q) X.xe s := by
      refine call_meets F.slot_list_index ⟨_, h1, rfl⟩ F.entry_list_index (F.args_list_index_2 _ _) (SeqAt.list_indexAt a its n dct sl u (fun y => PyData.eqv (SeqAt.readOf s.heap y) (kqdP d)) j (by walk_at "om") (by walk_at "om") ?_ ?_) ⟨h1, SeqAt.items_eqAt h4 ra hxs (PySem.W.kqd_lay 8 d kd).1 ?_, ⟨.int j, H, I.tok _, ⟨_, rfl⟩, q⟩⟩
      · rw [at_ j (by walk_at "om"), e1]; simp
      · intro m hm hmj
        rw [at_ m hm]
        exact decide_eq_false (e2 m hmj)
      · have l := (PySem.W.kqd_lay 8 d kd).2
        have := Nat.min_le_right (PyData.depthAll ps) (kqdP d).depth
        walk_at "om"
    exact hm
theorem k_index {K : PySem.W.Frag} {H : Hp} {Q : VK} {a : Addr} {y : V} {ds : List Dat} {d : Dat} {j : Nat} (hd : Rep K H y d) (he : Rep K H (.ref a) (.list ds)) (ka : ∀ e ∈ ds, kqdOk 8 e = true) (kd : kqdOk 8 d = true) (e1 : ds[j]? = some d) (e2 : ∀ m, m < j → ds[m]? ≠ some d) (l : ds.length ≤ 1000) (q : Q (.int j) H) : rIndex K (.ref a) [y] H Q :=
  ⟨a, y, ds, d, j, rfl, rfl, hd, he, ka, kd, e1, e2, l, q⟩
section
variable {K : PySem.W.Frag} {σ : St} {Q : VK} {H : Hp} {td ty : TE} {D : Ends}
theorem k_dget (h : td σ H fun x H1 => ty σ H1 fun y H2 => ∃ a v, x = .ref a ∧ DGet H2 a y (some v) ∧ Q v H2) : tDGet td ty σ H Q := h
end
end L2

namespace L2
open PySem PySem.Spec PyProof.Rows
open PySem.W (Dat kqdOk kqdP kqdPs)
section
variable {K : PySem.W.Frag} {te : TE} {tc : TT} {σ : St} {Q : VK} {H : Hp}
/-- [elt for tg in xs], the target of more names than one -/
theorem comp_listG {a : Addr} {xs : List V} {n : Nat} {g : TG} (h : ∀ D, H D = none → ∃ Pv : Nat → Hp → Prop, Pv 0 (upd H D (.lst [])) ∧ (∀ i H2, i ≤ xs.length → Pv i H2 → SqL K H2 a xs) ∧ (∀ i x H2, xs[i]? = some x → Pv i H2 → EltG g n te σ x H2 D xs.length i Pv) ∧ ∀ H2, Pv xs.length H2 → Q (.ref D) H2) : CompG (Itl K a) n g te σ Q H := by
  intro D nD
  obtain ⟨Pv, h0, hl, hs, hd⟩ := h D nD
  refine ⟨fun i m H => m = xs.length - i ∧ i ≤ xs.length ∧ Pv i H, ⟨_, rfl, Nat.zero_le _, h0⟩, ?_⟩
  rintro i m H ⟨rfl, hi, p⟩
  have q := hl i H hi p
  by_cases hlt : i < xs.length
  · refine .inr ⟨⟨xs, xs[i], q, List.getElem?_eq_getElem hlt⟩, fun v H' y us hu => ?_⟩
    obtain ⟨rfl, z⟩ := y
    exact hs i v _ (z xs q) p us hu
  · have e : i = xs.length := by walk_at "om"
    subst e
    exact .inl ⟨⟨xs, q, Nat.le_refl _⟩, hd H p⟩
/-- [elt for tg in xs if c] -/
theorem compF_list {a : Addr} {xs : List V} {n : Nat} {g : TG} (h : ∀ D, H D = none → ∃ Pv : Nat → Hp → Prop, Pv 0 (upd H D (.lst [])) ∧ (∀ i H2, i ≤ xs.length → Pv i H2 → SqL K H2 a xs) ∧ (∀ i x H2, xs[i]? = some x → Pv i H2 → EltF g n tc te σ x H2 D xs.length i Pv) ∧ ∀ H2, Pv xs.length H2 → Q (.ref D) H2) : CompF (Itl K a) n g tc te σ Q H := by
  intro D nD
  obtain ⟨Pv, h0, hl, hs, hd⟩ := h D nD
  refine ⟨fun i m H => m = xs.length - i ∧ i ≤ xs.length ∧ Pv i H, ⟨_, rfl, Nat.zero_le _, h0⟩, ?_⟩
  rintro i m H ⟨rfl, hi, p⟩
  have q := hl i H hi p
  by_cases hlt : i < xs.length
  · refine .inr ⟨⟨xs, xs[i], q, List.getElem?_eq_getElem hlt⟩, fun v H' y us hu => ?_⟩
    obtain ⟨rfl, z⟩ := y
    exact hs i v _ (z xs q) p us hu
  · have e : i = xs.length := by walk_at "om"
    subst e
    exact .inl ⟨⟨xs, q, Nat.le_refl _⟩, hd H p⟩
/-- [elt for k, x in enumerate(xs) if c] -/
theorem compF_enum {a : Addr} {xs : List V} {n : Nat} {g : TG} (h : ∀ D, H D = none → ∃ Pv : Nat → Hp → Prop, Pv 0 (upd H D (.lst [])) ∧ (∀ i H2, i ≤ xs.length → Pv i H2 → SqL K H2 a xs) ∧
    (∀ i x H2 T, xs[i]? = some x → Pv i H2 → H2 T = none → EltF g n tc te σ (.ref T) (upd H2 T (.tup [.int i, x])) D xs.length i Pv) ∧ ∀ H2, Pv xs.length H2 → Q (.ref D) H2) : CompF (Ite K a) n g tc te σ Q H := by
  intro D nD
  obtain ⟨Pv, h0, hl, hs, hd⟩ := h D nD
  refine ⟨fun i m H => m = xs.length - i ∧ i ≤ xs.length ∧ Pv i H, ⟨_, rfl, Nat.zero_le _, h0⟩, ?_⟩
  rintro i m H ⟨rfl, hi, p⟩
  have q := hl i H hi p
  by_cases hlt : i < xs.length
  · refine .inr ⟨⟨xs, q, hlt⟩, fun v H' y us hu => ?_⟩
    obtain ⟨T, x, nT, rfl, rfl, z⟩ := y
    exact hs i x H T (z xs q) p nT us hu
  · have e : i = xs.length := by walk_at "om"
    subst e
    exact .inl ⟨⟨xs, q, Nat.le_refl _⟩, hd H p⟩
end
section
variable {X : Cx}
theorem bb_max : bootBuiltins "max" = some (.builtin "max") := by decide +kernel
end
end L2

namespace L2
open PySem PySem.Spec PyProof.Rows
section
variable {X : Cx} {ys M : List Str} {scope : Scope} {C : Addr} {s : Shared} {H : Hp} {fp : List Addr} {pins : List (Addr × Obj)} {σ : St}
end
end L2

namespace Rk
end Rk

namespace Dn
open Rk
end Dn

namespace L2
open PySem PySem.Spec PyProof.Rows
open PySem.W (Dat KasT kas_sort kas_ask KatLex KatTups)
section
variable {prog : Program} {w : World} {A : Around} {E : Value → Shared → Prop} {s : Shared}
end
section
variable {X : Cx}
theorem bb_sorted : bootBuiltins "sorted" = some (.builtin "sorted") := by decide +kernel
end
end L2

namespace L2
open PySem PySem.Spec PyProof.Rows
section
variable {prog : Program} {w : World} {A : Around} {E : Value → Shared → Prop} {s : Shared} {z TI TO i1 i2 i3 l1 l2 l3 : Addr} {xs ys zs : Array Value} {S1 S2 S3 : Nat → Heap → Prop} {k : Nat}
end
section
variable {X : Cx}
end
section
variable {K : PySem.W.Frag} {te : TE} {σ : St} {Q : VK} {H : Hp}
end
end L2

namespace Rk
end Rk

namespace L2
open PySem PySem.Spec PyProof.Rows
/-- what adding does to the entries and the table -/
def addP (es : Array (Int × Value)) (t : SetTable) (h : Int) (x : Value) (i : Int) : Array (Int × Value) × SetTable :=
  match es.toList.findIdx? (fun e => Value.isInt i e.2) with
  | some _ => (es, t)
  | none => if (!(layNew t es h x).2.2.1 && (layNew t es h x).2.1.tooFull) = true then ((relayAll (layNew t es h x).2.1 (layNew t es h x).1 (SetTable.grown (layNew t es h x).1.size)).1, (relayAll (layNew t es h x).2.1 (layNew t es h x).1 (SetTable.grown (layNew t es h x).1.size)).2.1)
    else ((layNew t es h x).1, (layNew t es h x).2.1)
section
variable {prog : Program} {w : World} {A : Around} {E : Value → Shared → Prop} {s : Shared}
theorem add_raw {a : Addr} {es : Array (Int × Value)} {ep : Nat} {t : SetTable} {i : Int} {u : Tok} {Q : Bool → Shared → Prop} (ho : s.heap.get? a = some { cls := .type "set", dict := none, data := .set es ep t, slots := #[] }) (hf : t.fits es.size = true) (hel : ElemsOf (intKind prog w) es.toList) (hb : es.size + 2 < scanBound)
    (h : ∀ h' ep' r tk, Heap.SameBut a s.heap h' → h'.get? a = some { cls := .type "set", dict := none, data := .set (addP es t (hashInt i) (.int i u) i).1 ep' (addP es t (hashInt i) (.int i u) i).2, slots := #[] } → Q r { s with heap := h', toks := tk }) :
    wpAny (model prog w) A (setAdd a (.int i u)) Q E s := by
  unfold setAdd
  refine wpAny_holding (wpAny_bind (wpAny_pyHash_int ?_))
  unfold setAddHashed setAddHashedIn; refine wpAny_holding (wpAny_bind (wpAny_setState_of ho rfl hf ?_)); dsimp only
  rw [byScan_of (knd := intKind prog w) (show Value.scannable (.int i u) = true from rfl) (by walk_at "om") hel]; simp only [↓reduceIte]
  unfold setAddByScan; refine wpAny_bind (wpAny_bind (wpAny_rule (wpAny_bind (wpAny_setScan_of (knd := intKind prog w) (k := i) (show Value.isInt i (.int i u) = true by simp [Value.isInt]) ho rfl hf hel ?_))))
  unfold addP at h
  cases hr : es.toList.findIdx? (fun e => Value.isInt i e.2) with
  | some j =>
    rw [hr] at h
    rw [show (es.toList.findIdx? fun e => (intKind prog w).is i e.2) = some j from hr]
    dsimp only
    refine wpAny_pure (wpAny_pure ?_)
    exact h s.heap ep _ _ (Heap.SameBut.refl a s.heap) ho
  | none =>
    rw [hr] at h
    rw [show (es.toList.findIdx? fun e => (intKind prog w).is i e.2) = none from hr]
    dsimp only
    have sz : (layNew t es (hashInt i) (.int i u)).1.size = es.size + 1 := by
      have := (layNew_perm t es (hashInt i) (.int i u)).length_eq
      rw [Array.length_toList, Array.length_toList, Array.size_push] at this
      exact this
    generalize layNew t es (hashInt i) (.int i u) = L at h sz ⊢
    obtain ⟨es1, t1, wd, gv⟩ := L
    dsimp only at h sz ⊢
    have gw : ∀ (b : Bool) (s₁ : Shared) (R : Unit → Shared → Prop) (m : Bool → Sem Unit), m = (fun b => match b with | true => rule "set.scan.the-table-gave-way" | false => pure ()) → R () s₁ → wpAny (model prog w) A (m b) R E s₁ := by
      rintro b s₁ R m rfl hq
      cases b <;> first | exact wpAny_pure hq | exact wpAny_rule hq
    have fin : ∀ (s' : Shared), (∃ tk, s' = { s with heap := s.heap, toks := tk }) → wpAny (model prog w) A (do
        storeSet a es1 t1
        if (!wd && t1.tooFull) = true then do
            (match (relayAll t1 es1 (SetTable.grown es1.size)).2.2 with | true => rule "set.scan.the-table-gave-way" | false => pure ())
            storeSet a (relayAll t1 es1 (SetTable.grown es1.size)).1 (relayAll t1 es1 (SetTable.grown es1.size)).2.1
            pure (some true)
          else pure (some true)) (fun r s'' => wpAny (model prog w) A (match r with | some added => pure added | none => setAddHashedIn a (.int i u) (hashInt i) 99999) Q E s'') E s' := by
      rintro s' ⟨tk, rfl⟩
      have e1 : (s.heap.update a (Obj.putSet es1 t1)).get? a = some { cls := .type "set", dict := none, data := .set es1 (ep + 1) t1, slots := #[] } := by
        have := Heap.get?_update_self (Obj.putSet es1 t1) ho (by rw [putSet_of es1 t1 rfl]; rfl)
        rw [putSet_of es1 t1 rfl] at this; exact this
      refine wpAny_bind (wpAny_storeSet_of (s := { s with heap := s.heap, toks := tk }) ho rfl ?_ (fits_of_scanBound (by walk_at "om")))
      by_cases c : (!wd && t1.tooFull) = true
      · rw [if_pos c] at h ⊢
        have sz2 : (relayAll t1 es1 (SetTable.grown es1.size)).1.size = es1.size := by
          have := (relayAll_perm t1 es1 (SetTable.grown es1.size)).length_eq
          rw [Array.length_toList, Array.length_toList] at this
          exact this
        generalize relayAll t1 es1 (SetTable.grown es1.size) = Rl at h sz2 ⊢
        obtain ⟨es2, t2, gv2⟩ := Rl
        dsimp only at h sz2 ⊢
        have e2 : ((s.heap.update a (Obj.putSet es1 t1)).update a (Obj.putSet es2 t2)).get? a = some { cls := .type "set", dict := none, data := .set es2 (ep + 1 + 1) t2, slots := #[] } := by
          have := Heap.get?_update_self (Obj.putSet es2 t2) e1 (by rw [putSet_of es2 t2 rfl]; rfl)
          rw [putSet_of es2 t2 rfl] at this; exact this
        refine wpAny_bind (gw gv2 _ _ _ rfl ?_)
        refine wpAny_bind (wpAny_storeSet_of (s := { s with heap := s.heap.update a (Obj.putSet es1 t1), toks := tk }) e1 rfl ?_ (fits_of_scanBound (by walk_at "om")))
        exact wpAny_pure (wpAny_pure (h _ _ _ _ ((Heap.SameBut.update ..).trans (Heap.SameBut.update ..)) e2))
      · rw [if_neg c] at h ⊢
        exact wpAny_pure (wpAny_pure (h _ _ _ _ (Heap.SameBut.update ..) e1))
    refine wpAny_bind (gw gv _ _ _ rfl ?_)
    split
    · refine wpAny_bind ?_
      rw [hashByValue_scannable 8 (show Value.scannable (.int i u) = true from rfl)]
      refine wpAny_pure ?_
      exact fin _ ⟨_, rfl⟩
    · refine wpAny_bind (wpAny_pure ?_)
      exact fin _ ⟨_, rfl⟩
end
def lst8 (b : Nat) : List Nat := (List.range 8).filter fun k => b.testBit k
def ins8 (b k : Nat) : Nat := if (lst8 b).contains k then b else b + 2 ^ k
theorem lst8_len : ∀ b < 256, (lst8 b).length ≤ 8 := by decide +kernel
theorem ins8_lt : ∀ b < 256, ∀ k < 8, ins8 b k < 256 := by decide +kernel
theorem ins8_has : ∀ b < 256, ∀ k < 8, ∀ j < 8, (lst8 (ins8 b k)).contains j = ((lst8 b).contains j || j == k) := by decide +kernel
def pu8 (b k : Nat) : Bool := (lst8 b).contains k || ((lst8 b).take (SetTable.below (lst8 b).toArray k) ++ k :: (lst8 b).drop (SetTable.below (lst8 b).toArray k) == lst8 (b + 2 ^ k) && SetTable.below (lst8 b).toArray k ≤ (lst8 b).length)
theorem pu8_ok : ∀ b < 256, ∀ k < 8, pu8 b k = true := by decide +kernel
def ly8 (b : Nat) : Bool := match SetTable.layClean 31 ((lst8 b).map fun k : Nat => (k : Int)).toArray with
  | some o => ((List.range 32).filterMap fun j => (o.getD j none).map (j, ·)) == (lst8 b).zipIdx
  | none => false
theorem ly8_ok : ∀ b < 256, ly8 b = true := by decide +kernel
theorem hash8 : ∀ k < 8, hashInt ((k : Nat) : Int) = (k : Int) := by decide +kernel
theorem bits8 : ∀ k < 8, SetTable.bits ((k : Nat) : Int) % 8 = k ∧ SetTable.bits ((k : Nat) : Int) % 32 = k := by decide +kernel
def ER (es : Array (Int × Value)) (l : List Nat) : Prop := es.size = l.length ∧ ∀ (i k : Nat), l[i]? = some k → ∃ tk, es[i]? = some ((k : Int), .int (k : Int) tk)
structure TR (led : Bool) (t : SetTable) (b : Nat) : Prop where
  place : t.place = (lst8 b).toArray
  dum : t.dummies = #[]
  led : t.led = led
  plain : t.plain = true
  mask : (t.mask = 7 ∧ (lst8 b).length ≤ 4) ∨ t.mask = 31
theorem TR.fill {led : Bool} {t : SetTable} {b : Nat} (T : TR led t b) : t.fill = (lst8 b).length := by
  unfold SetTable.fill
  rw [T.place, T.dum]
  simp
theorem TR.fits {led : Bool} {t : SetTable} {b n : Nat} (T : TR led t b) (hb : b < 256) (hn : n = (lst8 b).length) : t.fits n = true := by
  have l8 := lst8_len b hb
  unfold SetTable.fits
  rw [T.fill, T.place]
  simp only [List.size_toArray, Bool.and_eq_true, beq_iff_eq, decide_eq_true_eq]
  rcases T.mask with ⟨m, l⟩ | m <;> rw [m] <;> walk_at "om"
theorem ER.elems {prog : Program} {w : World} {es : Array (Int × Value)} {b : Nat} (R : ER es (lst8 b)) (h8 : ∀ k ∈ lst8 b, k < 8) : ElemsOf (intKind prog w) es.toList := by
  intro e he
  obtain ⟨i, li, ei⟩ := List.mem_iff_getElem.mp he
  have l2 : i < (lst8 b).length := by rw [← R.1]; simpa using li
  obtain ⟨tk, et⟩ := R.2 i _ (List.getElem?_eq_getElem l2)
  have e2 : es.toList[i]? = some e := by rw [List.getElem?_eq_getElem li, ei]
  rw [Array.getElem?_toList] at e2
  rw [et] at e2
  cases e2
  refine ⟨⟨((lst8 b)[i] : Int), by simp [intKind, Value.isInt], ?_⟩, rfl⟩
  exact (hash8 _ (h8 _ (List.getElem_mem l2))).symm
theorem lst8_lt (b : Nat) : ∀ k ∈ lst8 b, k < 8 := fun k hk => by
  unfold lst8 at hk
  exact List.mem_range.mp (List.mem_filter.mp hk).1
theorem idx_none {es : Array (Int × Value)} {l : List Nat} {k : Nat} (R : ER es l) (h : k ∉ l) : es.toList.findIdx? (fun e => Value.isInt (k : Int) e.2) = none := by
  rw [List.findIdx?_eq_none_iff]
  intro e he
  obtain ⟨i, li, ei⟩ := List.mem_iff_getElem.mp he
  have l2 : i < l.length := by rw [← R.1]; simpa using li
  obtain ⟨tk, et⟩ := R.2 i _ (List.getElem?_eq_getElem l2)
  have e2 : es.toList[i]? = some e := by rw [List.getElem?_eq_getElem li, ei]
  rw [Array.getElem?_toList, et] at e2
  cases e2
  have ne : l[i] ≠ k := fun z => h (z ▸ List.getElem_mem l2)
  have : ¬ ((l[i] : Int) = (k : Int)) := by walk_at "om"
  simp [Value.isInt, this]
theorem idx_some {es : Array (Int × Value)} {l : List Nat} {k : Nat} (R : ER es l) (h : k ∈ l) : ∃ j, es.toList.findIdx? (fun e => Value.isInt (k : Int) e.2) = some j := by
  cases e : es.toList.findIdx? (fun e => Value.isInt (k : Int) e.2) with
  | some j => exact ⟨j, rfl⟩
  | none =>
    rw [List.findIdx?_eq_none_iff] at e
    obtain ⟨i, li, ei⟩ := List.mem_iff_getElem.mp h
    obtain ⟨tk, et⟩ := R.2 i k (by rw [List.getElem?_eq_getElem li, ei])
    have := e ((k : Int), .int (k : Int) tk) (List.mem_of_getElem? (by rw [Array.getElem?_toList]; exact et))
    simp [Value.isInt] at this
theorem free8 {led : Bool} {t : SetTable} {b k : Nat} (T : TR led t b) (hk : k < 8) (h : k ∉ lst8 b) : t.freeSlot (k : Int) = some (k, false) := by
  have ej : (t.probeStart (k : Int)).j = k := by
    show SetTable.bits (k : Int) % (t.mask + 1) = k
    rcases T.mask with ⟨m, _⟩ | m <;> rw [m]
    · exact (bits8 k hk).1
    · exact (bits8 k hk).2
  have sl := slot_empty T.place T.dum h
  obtain ⟨n, hn⟩ : ∃ n, 10 * SetTable.turns t.mask = n + 1 := ⟨10 * SetTable.turns t.mask - 1, by unfold SetTable.turns; walk_at "om"⟩
  unfold SetTable.freeSlot SetTable.probe
  rw [hn]
  unfold SetTable.probe.go
  rw [ej, sl]
  rfl
theorem range_list {α : Type} : ∀ l : List α, (List.range l.length).filterMap (fun i => l[i]?) = l
  | [] => rfl
  | x :: l => by
    rw [List.length_cons, List.range_succ_eq_map, List.filterMap_cons]
    show x :: (List.map Nat.succ (List.range l.length)).filterMap (fun i => (x :: l)[i]?) = x :: l
    rw [List.filterMap_map]
    congr 1
    exact range_list l
theorem range_all {α : Type} (a : Array α) : (List.range a.size).toArray.filterMap (fun x => a[x]?) = a := by
  obtain ⟨l⟩ := a
  apply Array.toList_inj.mp
  rw [Array.toList_filterMap]
  simpa using range_list l
theorem zip_fst (l : List Nat) : l.zipIdx.map (·.1) = l := by simp
theorem zip_snd (l : List Nat) : l.zipIdx.map (·.2) = List.range l.length := by simp [List.range_eq_range']
theorem addP_ok {led : Bool} {es : Array (Int × Value)} {t : SetTable} {b k : Nat} {u : Tok} (hb : b < 256) (hk : k < 8) (R : ER es (lst8 b)) (T : TR led t b) :
    ER (addP es t (hashInt (k : Int)) (.int (k : Int) u) (k : Int)).1 (lst8 (ins8 b k)) ∧ TR led (addP es t (hashInt (k : Int)) (.int (k : Int) u) (k : Int)).2 (ins8 b k) := by
  rw [hash8 k hk]
  have l8 := lst8_len b hb
  by_cases h : k ∈ lst8 b
  · obtain ⟨j, e⟩ := idx_some R h
    have ei : ins8 b k = b := by unfold ins8; rw [if_pos (by simpa using h)]
    unfold addP
    rw [e, ei]
    exact ⟨R, T⟩
  · have ei : ins8 b k = b + 2 ^ k := by unfold ins8; rw [if_neg (by simpa using h)]
    have pk := pu8_ok b hb k hk
    unfold pu8 at pk
    rw [show (lst8 b).contains k = false by simpa using h, Bool.false_or, Bool.and_eq_true, beq_iff_eq, decide_eq_true_eq] at pk
    obtain ⟨p1, p2⟩ := pk
    have l8' := lst8_len (ins8 b k) (ins8_lt b hb k hk)
    rw [← ei] at p1
    have ll : (lst8 (ins8 b k)).length = (lst8 b).length + 1 := by
      rw [← p1, List.length_append, List.length_cons, List.length_take, List.length_drop]
      walk_at "om"
    generalize hp : SetTable.below (lst8 b).toArray k = p at p1 p2
    have put : t.put k = ({ t with place := (lst8 (ins8 b k)).toArray, dummies := #[] }, p) := by
      unfold SetTable.put
      rw [T.place, T.dum, hp]
      dsimp only
      rw [insertAt_list _ _ _ p2, p1, if_neg (by simp [SetTable.has, SetTable.below, SetTable.below.go])]
    have esl : SetTable.insertAt es p ((k : Int), .int (k : Int) u) = (es.toList.take p ++ ((k : Int), Value.int (k : Int) u) :: es.toList.drop p).toArray := by
      have := insertAt_list es.toList p ((k : Int), Value.int (k : Int) u) (by rw [Array.length_toList, R.1]; exact p2)
      simpa using this
    have R1 : ER (SetTable.insertAt es p ((k : Int), .int (k : Int) u)) (lst8 (ins8 b k)) := by
      refine ⟨?_, fun i j hj => ?_⟩
      · rw [esl, ll, ← R.1]
        simp
        walk_at "om"
      · rw [esl]
        rw [← p1, get_ins p2] at hj
        rw [List.getElem?_toArray, get_ins (by rw [Array.length_toList, R.1]; exact p2)]
        split at hj
        · rename_i c
          rw [if_pos c, Array.getElem?_toList]
          exact R.2 i j hj
        · rename_i c
          rw [if_neg c]
          split at hj
          · rename_i c2
            cases hj
            rw [if_pos c2]
            exact ⟨u, rfl⟩
          · rename_i c2
            rw [if_neg c2, Array.getElem?_toList]
            exact R.2 _ j hj
    have sz1 : (SetTable.insertAt es p ((k : Int), .int (k : Int) u)).size = (lst8 (ins8 b k)).length := R1.1
    have ft : ({ t with place := (lst8 (ins8 b k)).toArray, dummies := #[] } : SetTable).fits (SetTable.insertAt es p ((k : Int), .int (k : Int) u)).size = true := by
      unfold SetTable.fits SetTable.fill
      rw [sz1]
      simp only [List.size_toArray, Bool.and_eq_true, beq_iff_eq, decide_eq_true_eq]
      refine ⟨trivial, ?_⟩
      show (lst8 (ins8 b k)).length + 0 ≤ t.mask
      rcases T.mask with ⟨m, l⟩ | m <;> rw [m] <;> walk_at "om"
    have lay : layNew t es (k : Int) (.int (k : Int) u) = (SetTable.insertAt es p ((k : Int), .int (k : Int) u), { t with place := (lst8 (ins8 b k)).toArray, dummies := #[] }, false, false) := by
      unfold layNew
      rw [free8 T hk h]
      dsimp only
      rw [put]
      dsimp only
      unfold SetTable.orStandIn
      rw [ft]
      rfl
    unfold addP
    rw [idx_none R h, lay]
    dsimp only
    generalize SetTable.insertAt es p ((k : Int), .int (k : Int) u) = es1 at R1 sz1 ft
    have hs : es1.map (·.1) = ((lst8 (ins8 b k)).map fun k : Nat => (k : Int)).toArray := by
      apply Array.ext_getElem?
      intro i
      simp only [Array.getElem?_map, List.getElem?_toArray, List.getElem?_map]
      by_cases li : i < (lst8 (ins8 b k)).length
      · obtain ⟨tk, et⟩ := R1.2 i _ (List.getElem?_eq_getElem li)
        rw [et, List.getElem?_eq_getElem li]
        rfl
      · rw [Array.getElem?_eq_none (by walk_at "om"), List.getElem?_eq_none (by walk_at "om")]
        rfl
    by_cases c : (!false && ({ t with place := (lst8 (ins8 b k)).toArray, dummies := #[] } : SetTable).tooFull) = true
    · rw [if_pos c]
      have c2 : ((lst8 (ins8 b k)).length + 0) * 5 ≥ t.mask * 3 := by
        have c1 : ({ t with place := (lst8 (ins8 b k)).toArray, dummies := #[] } : SetTable).tooFull = true := by simpa using c
        unfold SetTable.tooFull SetTable.fill at c1
        simpa using c1
      have n5 : (lst8 (ins8 b k)).length = 5 := by
        rcases T.mask with ⟨m, l⟩ | m <;> rw [m] at c2 <;> walk_at "om"
      have g20 : SetTable.sizeAbove (SetTable.grown es1.size) - 1 = 31 := by rw [sz1, n5]; decide
      have lk := ly8_ok (ins8 b k) (ins8_lt b hb k hk)
      unfold ly8 at lk
      have rel : ∃ mv, relayAll ({ t with place := (lst8 (ins8 b k)).toArray, dummies := #[] } : SetTable) es1 (SetTable.grown es1.size) = (es1, { mask := 31, place := (lst8 (ins8 b k)).toArray, dummies := #[], finger := t.finger, led := t.led, moves := mv, plain := t.plain }, false) := by
        cases lc : SetTable.layClean 31 ((lst8 (ins8 b k)).map fun k : Nat => (k : Int)).toArray with
        | none => rw [lc] at lk; cases lk
        | some o =>
          rw [lc] at lk
          have lz : ((List.range 32).filterMap fun j => (o.getD j none).map (j, ·)) = (lst8 (ins8 b k)).zipIdx := by simpa using lk
          refine ⟨({ t with place := (lst8 (ins8 b k)).toArray, dummies := #[] } : SetTable).movedTo 31, ?_⟩
          unfold relayAll SetTable.relaid SetTable.laid
          rw [hs, g20, lc]
          simp only [Option.bind_eq_bind, Option.bind_some, lz, zip_fst, zip_snd]
          dsimp only [Option.pure_def]
          have ef : (List.range (lst8 (ins8 b k)).length).toArray.filterMap (fun x => es1[x]?) = es1 := by rw [← sz1]; exact range_all es1
          rw [ef]
          have cv : coversAll (List.range (lst8 (ins8 b k)).length).toArray es1.size = true := by
            unfold coversAll
            rw [sz1, n5]
            rfl
          have ft2 : ({ mask := 31, place := (lst8 (ins8 b k)).toArray, dummies := #[], finger := t.finger, led := t.led, moves := ({ t with place := (lst8 (ins8 b k)).toArray, dummies := #[] } : SetTable).movedTo 31, plain := t.plain } : SetTable).fits es1.size = true := by
            unfold SetTable.fits SetTable.fill
            rw [sz1]
            simp
            walk_at "om"
          rw [cv, ft2]
          rfl
      obtain ⟨mv, rel⟩ := rel
      rw [rel]
      exact ⟨R1, rfl, rfl, T.led, T.plain, .inr rfl⟩
    · rw [if_neg c]
      have c2 : ¬ ((lst8 (ins8 b k)).length + 0) * 5 ≥ t.mask * 3 := fun z => c (by
        show (true && ({ t with place := (lst8 (ins8 b k)).toArray, dummies := #[] } : SetTable).tooFull) = true
        unfold SetTable.tooFull SetTable.fill
        simpa using z)
      refine ⟨R1, rfl, rfl, T.led, T.plain, ?_⟩
      rcases T.mask with ⟨m, l⟩ | m
      · refine .inl ⟨m, ?_⟩
        rw [m] at c2
        walk_at "om"
      · exact .inr m
/-- the set of the numbers of b lies at a -/
structure SmSet (led : Bool) (h : Heap) (a : Addr) (b : Nat) : Prop where
  b8 : b < 256
  at_ : ∃ es ep t, h.get? a = some { cls := .type "set", dict := none, data := .set es ep t, slots := #[] } ∧ ER es (lst8 b) ∧ TR led t b
theorem SmSet.keep {led : Bool} {h h' : Heap} {a : Addr} {b : Nat} (S : SmSet led h a b) (k : ∀ o, h.get? a = some o → h'.get? a = some o) : SmSet led h' a b := by
  obtain ⟨es, ep, t, e, r⟩ := S.at_
  exact ⟨S.b8, es, ep, t, k _ e, r⟩
section
variable {prog : Program} {w : World} {A : Around} {E : Value → Shared → Prop} {s : Shared}
theorem sm_add {led : Bool} {a : Addr} {b k : Nat} {u : Tok} {Q : Bool → Shared → Prop} (S : SmSet led s.heap a b) (hk : k < 8) (h : ∀ h' r tk, Heap.SameBut a s.heap h' → SmSet led h' a (ins8 b k) → Q r { s with heap := h', toks := tk }) :
    wpAny (model prog w) A (setAdd a (.int (k : Int) u)) Q E s := by
  obtain ⟨es, ep, t, e, R, T⟩ := S.at_
  have l8 := lst8_len b S.b8
  have sb : scanBound = 4096 := rfl
  refine add_raw e (T.fits S.b8 R.1) (R.elems (lst8_lt b)) (by rw [R.1, sb]; walk_at "om") fun h' ep' r tk sm e' => ?_
  obtain ⟨R', T'⟩ := addP_ok (u := u) S.b8 hk R T
  exact h h' r tk sm ⟨ins8_lt b S.b8 k hk, _, ep', _, e', R', T'⟩
def byTx (w : World) : Bool := w.params.followText "set-order"
set_option maxRecDepth 100000 in
theorem set_new_led (a : Value) {Q₁ : Value → Shared → Prop} (h : Q₁ (.ref s.heap.objs.size) { s with heap := s.heap.push (sob (!byTx w)) }) :
    codeAny (model prog w) A (.call (.builtin "set.__new__") ⟨[.type "set", a], []⟩) (wants Q₁ E) s := by
  refine codeAny_of_tree (show wpAny _ A.in1 (do checkBuiltinCall "set.__new__" ⟨[.type "set", a], []⟩; again (.builtin "set.__new__" ⟨[.type "set", a], []⟩)) _ _ s from ?_)
  refine wpAny_bind (wpAny_of_eq (F.newCall_set_1 a) (wpAny_pure ⟨plainId_quiet F.plain_set_new _, codeAny_builtin F.entry_set_new ?_⟩)); rw [Around.under_plainId F.plain_set_new _]; unfold Builtin.«set.__new__» Builtin.Frozenset.newClass
  have hsub := sub_set_self; obtain ⟨hp, g, d, tk, os⟩ := s; dsimp only; wp_walk
  refine wpAny_askSetting (wpAny_pure ?_); dsimp only; simp only [newObj]; refine wpAny_bind (wpAny_alloc (wpAny_pure (wpAny_pure ?_)))
  exact h
end
end L2

namespace L2
open PySem PySem.Spec PyProof.Rows
section
variable {prog : Program} {w : World} {A : Around} {E : Value → Shared → Prop} {s : Shared}
set_option maxRecDepth 100000 in
set_option maxHeartbeats 3200000 in
theorem set_callL (k : Kn) {l : Addr} {items : Array Value} {Q : Value → Shared → Prop} (hh : A.handled = none) (hl : k.seq s.heap l items) (Z : Nat → Heap → Prop)
    (z0 : ∀ h, h.get? s.heap.objs.size = some (sob (!byTx w)) → (∀ b o, s.heap.get? b = some o → h.get? b = some o) → Z 0 h) (zk : ∀ i h h', Z i h → (∀ b o, b ≠ s.heap.objs.size + 1 → h.get? b = some o → h'.get? b = some o) → Z i h')
    (za : ∀ (A' : Around) i v (s' : Shared) (Q : Bool → Shared → Prop) (E : Value → Shared → Prop), A'.units ≤ A.units + 8 → i < items.size → items[i]? = some v → Z i s'.heap → (∀ r h' tk, Z (i + 1) h' → (∀ b, b ≠ s.heap.objs.size → h'.get? b = s'.heap.get? b) → Q r { s' with heap := h', toks := tk }) → wpAny (model prog w) A' (setAdd s.heap.objs.size v) Q E s')
    (q : ∀ h' tk, Z items.size h' → (∀ b o, b < s.heap.objs.size → s.heap.get? b = some o → h'.get? b = some o) → Q (.ref s.heap.objs.size) { s with heap := h', toks := tk }) : wpAny (model prog w) A (call (.type "set") [.ref l]) Q E s := by
  obtain ⟨c, tl, hmro⟩ := F.called_set.mro; have hmade := F.called_set.made; have hsub := F.called_set.sub
  refine wpAny_call (codeAny_of_tree ?_); show wpAny _ _ (callAny (.type "set") _) _ _ _
  refine wpAny_pure ⟨Code.quiet_builtin _ (by decide +kernel), codeAny_builtin F.entry_type_call ?_⟩; rw [Around.under_plain (weight_type_call_type "set" [.ref l] []) rfl]
  have h1 := F.called_set.notType; have h2 := F.called_set.canCreate; have hct := F.typeCall_set_1 (.ref l)
  repeat (any_goals (first | assumption | wp_step))
  refine codeAny_mono (set_new_led (.ref l) (E := E) (Q₁ := fun obj s₁ => ∃ led : Bool, led = !byTx w ∧ obj = .ref s.heap.objs.size ∧ s₁ = { s with heap := s.heap.push (sob led) }) ⟨_, rfl, rfl, rfl⟩) fun r s₁ hr => ?_
  cases r with
  | error e => exact hr
  | ok fl =>
    cases fl with
    | ret obj =>
      obtain ⟨led, hled, rfl, rfl⟩ := hr
      have hS : (s.heap.push (sob led)).get? s.heap.objs.size = some (sob led) := Heap.get?_push_size _ rfl
      have hT : Shared.TypeIs { s with heap := s.heap.push (sob led) } (.ref s.heap.objs.size) "set" := ⟨_, hS, rfl⟩
      have hli := F.called_set.init.lookup; have hbi := F.called_set.init.bind (.ref s.heap.objs.size)
      repeat (any_goals (first | assumption | wp_step))
      refine codeAny_mono (codeAny_call_builtin (R := wants (fun r s₂ => r = .none ∧ ∃ h' tk, s₂ = { s with heap := h', toks := tk } ∧ Z items.size h' ∧ (∀ b o, b < s.heap.objs.size → s.heap.get? b = some o → h'.get? b = some o)) E) F.called_set.init.plain F.entry_set_init (check_set_init_1 hT ?_)) fun r₂ s₂ hr₂ => ?_
      · have hlt : l < s.heap.objs.size := k.lt hl
        have hl1 : k.seq (s.heap.push (sob led)) l items := k.seqAt hl fun o e => Heap.get?_push_of_some _ e
        have nI : l ≠ (s.heap.push (sob led)).objs.size := by rw [Heap.size_push]; exact Nat.ne_of_lt (Nat.lt_succ_of_lt hlt)
        have nS : s.heap.objs.size ∉ [(s.heap.push (sob led)).objs.size, l] := by
          rw [Heap.size_push]; simp only [List.mem_cons, List.not_mem_nil, or_false, not_or]; exact ⟨Nat.ne_of_lt (Nat.lt_succ_self _), Nat.ne_of_gt hlt⟩
        have fin : ∀ (A' : Around) (R' : Result → Shared → Prop), A'.in1.handled = none → A'.in1.units ≤ A.units + 8 → (∀ h' tk, Z items.size h' → (∀ b o, b < s.heap.objs.size → s.heap.get? b = some o → h'.get? b = some o) → R' (.ok (.ret .none)) { s with heap := h', toks := tk }) →
            codeAny (model prog w) A' (.builtin "set.update.loop" ⟨[.ref s.heap.objs.size, .ref (s.heap.push (sob led)).objs.size], []⟩) R' { s with heap := (s.heap.push (sob led)).push (k.obj l) } := by
          intro A' R' ha hu hR
          refine set_loop (k.walks ha _ l nI items) s.heap.objs.size nS Z (fun i h h' z kp => zk i h h' z fun b o hb e => kp b o (by rw [Heap.size_push]; simpa using hb) e) (fun i v s' Q' E' hi hv hz hq => za _ i v s' Q' E' hu hi hv hz hq) (items.size - 0) 0 _ rfl (Nat.zero_le _) ⟨k.it0 _ l, k.seqAt hl1 fun o e => Heap.get?_push_of_some _ e⟩ (z0 _ (hled ▸ Heap.get?_push_of_some _ hS) fun b o e => Heap.get?_push_of_some _ (Heap.get?_push_of_some _ e)) fun h' tk z kp => hR h' tk z fun b o hb e => kp b o ?_ (Heap.get?_push_of_some _ (Heap.get?_push_of_some _ e))
          rw [Heap.size_push]; simp only [List.mem_cons, List.not_mem_nil, or_false, not_or]; exact ⟨Nat.ne_of_lt hb, Nat.ne_of_lt (Nat.lt_succ_of_lt hb)⟩
        cases k
        · have hl2 : (s.heap.push (sob led)).IsList l items := hl1
          obtain ⟨ol, hol, hcl, nl, hdl⟩ := hl1; obtain ⟨ocls, odict, odata, oslots⟩ := ol
          simp only at hcl hdl; subst hcl; subst hdl
          have hsls := F.sub_list_set; have hslf := F.sub_list_frozenset; have hne : (Value.type "list" == Value.type "dict") = false := by decide
          unfold Builtin.«set.__init__» noKeywords Builtin.Frozenset.updateFrom; generalize hPI : pyIter = PI; wp_walk; subst hPI
          refine Kn.iter .L hl2 (wpAny_bind (wpAny_runValue (fin _ _ (by simp [hh]) (by simp) fun h' tk z kp => ?_)))
          refine (show wpAny _ _ _ _ _ _ from wpAny_pure (show wpAny _ _ (ret Value.none) _ _ _ from wpAny_pure ⟨rfl, h', tk, rfl, z, kp⟩))
        · have hl2 : (s.heap.push (sob led)).IsTuple l items := hl1
          obtain ⟨ol, hol, hcl, nl, hdl⟩ := hl1; obtain ⟨ocls, odict, odata, oslots⟩ := ol
          simp only at hcl hdl; subst hcl; subst hdl
          have hsls := F.sub_tuple_set; have hslf := F.sub_tuple_frozenset; have hne : (Value.type "tuple" == Value.type "dict") = false := by decide
          unfold Builtin.«set.__init__» noKeywords Builtin.Frozenset.updateFrom; generalize hPI : pyIter = PI; wp_walk; subst hPI
          refine Kn.iter .T hl2 (wpAny_bind (wpAny_runValue (fin _ _ (by simp [hh]) (by simp) fun h' tk z kp => ?_)))
          refine (show wpAny _ _ _ _ _ _ from wpAny_pure (show wpAny _ _ (ret Value.none) _ _ _ from wpAny_pure ⟨rfl, h', tk, rfl, z, kp⟩))
      · cases r₂ with
        | error e => exact hr₂
        | ok fl₂ =>
          cases fl₂ with
          | ret r =>
            obtain ⟨rfl, h', tk, rfl, hz, hk'⟩ := hr₂
            repeat (any_goals (first | assumption | wp_step))
            exact q _ _ hz hk'
          | _ => exact hr₂.elim
    | _ => exact hr.elim
/-- the set of the first numbers -/
def setOf8 : List Nat → Nat → Nat
  | [], b => b
  | k :: l, b => setOf8 l (ins8 b k)
theorem setOf8_app : ∀ (l : List Nat) (k b : Nat), setOf8 (l ++ [k]) b = ins8 (setOf8 l b) k
  | [], _, _ => rfl
  | j :: l, k, b => setOf8_app l k (ins8 b j)
theorem lst8_zero : lst8 0 = [] := by decide
theorem sm_fresh (led : Bool) (h : Heap) (a : Addr) (e : h.get? a = some (sob led)) : SmSet led h a 0 := by
  refine ⟨by decide, #[], 0, _, e, ⟨by rw [lst8_zero]; rfl, fun i k hk => by rw [lst8_zero] at hk; cases hk⟩, ?_⟩
  exact ⟨by rw [lst8_zero]; rfl, rfl, rfl, rfl, .inl ⟨rfl, by rw [lst8_zero]; decide⟩⟩
theorem sm_call {l : Addr} {items : List Value} {ks : List Nat} {Q : Value → Shared → Prop} (hh : A.handled = none) (hl : s.heap.IsList l items.toArray) (hi : IntsAre items (ks.map fun k : Nat => (k : Int))) (h8 : ∀ k ∈ ks, k < 8)
    (q : ∀ h' tk, SmSet (!byTx w) h' s.heap.objs.size (setOf8 ks 0) → (∀ b o, b < s.heap.objs.size → s.heap.get? b = some o → h'.get? b = some o) → Q (.ref s.heap.objs.size) { s with heap := h', toks := tk }) : wpAny (model prog w) A (call (.type "set") [.ref l]) Q E s := by
  have li : items.length = ks.length := by have := IntsAre.length hi; rw [List.length_map] at this; exact this
  refine set_callL .L (items := items.toArray) hh hl (fun i h => SmSet (!byTx w) h s.heap.objs.size (setOf8 (ks.take i) 0)) (fun h e _ => by simpa [setOf8] using sm_fresh _ h _ e) (fun i h h' z k => z.keep fun o e => k _ o (Nat.ne_of_lt (Nat.lt_succ_self _)) e) (fun A' i v s' Q' E' _ hlt hv z hq => ?_) (fun h' tk z k => q h' tk (by simpa [li] using z) k)
  have lt : i < ks.length := by rw [← li]; simpa using hlt
  have hk := h8 _ (List.getElem_mem lt)
  obtain ⟨u, rfl⟩ : ∃ u, v = .int ((ks[i] : Nat) : Int) u := by
    have : ∀ {vs : List Value} {ns : List Int} (i : Nat), IntsAre vs ns → ∀ v, vs[i]? = some v → ∃ n u, ns[i]? = some n ∧ v = .int n u := by
      intro vs ns i h
      induction h generalizing i with
      | nil => intro v e; cases e
      | cons n t r ih =>
        intro v e
        cases i with
        | zero => cases e; exact ⟨n, t, rfl, rfl⟩
        | succ i => exact ih i v e
    obtain ⟨n, u, e1, e2⟩ := this i hi v (by simpa using hv)
    rw [List.getElem?_map, List.getElem?_eq_getElem lt] at e1
    cases e1
    exact ⟨u, e2⟩
  refine sm_add z hk fun h' r tk sm z' => ?_
  refine hq r h' tk ?_ fun b hb => ?_
  · show SmSet _ h' _ (setOf8 (ks.take (i + 1)) 0)
    rw [List.take_add_one, List.getElem?_eq_getElem lt]
    show SmSet _ h' _ (setOf8 (ks.take i ++ [ks[i]]) 0)
    rw [setOf8_app]
    exact z'
  · exact sm.2 b hb
end
end L2

namespace L2
open PySem PySem.Spec PyProof.Rows
namespace F7
theorem entry_set_iter : entryFor table "set.__iter__" = some Builtin.«frozenset.__iter__» := entryFor_alias (id' := "frozenset.__iter__") (by kernel_rfl) (by first | rfl | decide +kernel | (unfold String.splitOn; simp +decide [String.splitOnAux])) (by decide +kernel) (by kernel_rfl)
theorem slot_next : Slot "set_iterator" "__next__" "set_iterator.__next__" := .of (owner := "set_iterator") (n := "__next__") (by rw [typeLookup_type, builtinLookup_eq_fast]; kernel_rfl) (by decide +kernel) (by decide +kernel) (by decide +kernel) (by first | exact .inl (by decide +kernel) | exact .inr (by decide +kernel)) (by rw [isSubtype_type]; kernel_rfl)
theorem entry_next : entryFor table "set_iterator.__next__" = some Builtin.«set_iterator.__next__» := entryFor_of_tree (by kernel_rfl)
theorem args_next (a : Value) : argsOk "set_iterator.__next__" ⟨[a], []⟩ := by unfold argsOk; kernel_rfl
theorem slot_iter : Slot "set_iterator" "__iter__" "set_iterator.__iter__" := .of (owner := "set_iterator") (n := "__iter__") (by rw [typeLookup_type, builtinLookup_eq_fast]; kernel_rfl) (by decide +kernel) (by decide +kernel) (by decide +kernel) (by first | exact .inl (by decide +kernel) | exact .inr (by decide +kernel)) (by rw [isSubtype_type]; kernel_rfl)
theorem entry_iter : entryFor table "set_iterator.__iter__" = some Builtin.«dict_keyiterator.__iter__» := entryFor_alias (id' := "dict_keyiterator.__iter__") (by kernel_rfl) (by first | rfl | decide +kernel | (unfold String.splitOn; simp +decide [String.splitOnAux])) (by decide +kernel) (by kernel_rfl)
theorem args_iter (a : Value) : argsOk "set_iterator.__iter__" ⟨[a], []⟩ := by unfold argsOk; kernel_rfl
end F7
def SIt (h : Heap) (I S : Addr) (sl i n ep : Nat) : Prop := ∃ o, h.get? I = some o ∧ o.cls = .type "set_iterator" ∧ o.data = .fields #[.int (sl : Int) 0, .int (i : Int) 0, .ref S, .int (n : Int) 0, .int (ep : Int) 0]
def SRaw (h : Heap) (S : Addr) (es : Array (Int × Value)) (ep : Nat) (t : SetTable) : Prop := h.get? S = some { cls := .type "set", dict := none, data := .set es ep t, slots := #[] }
section
variable {prog : Program} {w : World} {A : Around} {E : Value → Shared → Prop} {s : Shared} {S I : Addr} {es : Array (Int × Value)} {ep : Nat} {t : SetTable}
theorem sm_iter {Q : Value → Shared → Prop} (m : SRaw s.heap S es ep t) (hf : t.fits es.size = true) (pl : t.plain = true) (q : Q (.ref s.heap.objs.size) { s with heap := s.heap.push { cls := .type "set_iterator", data := .fields #[.int 0 0, .int 0 0, .ref S, .int (es.size : Int) 0, .int (ep : Int) 0] } }) :
    wpAny (model prog w) A (pyIter (.ref S)) Q E s := by
  have ty : s.TypeIs (.ref S) "set" := ⟨_, m, rfl⟩
  refine wpAny_pyIter_slot ty F.slot_set_iter (wpAny_call_entry F.slot_set_iter ty F7.entry_set_iter ?_ (F.args_set_iter_1 _))
  unfold Builtin.«frozenset.__iter__»
  refine wpAny_bind (wpAny_of_eq (a := S) rfl ?_)
  unfold Builtin.Frozenset.sizeOf
  refine wpAny_bind (wpAny_bind (wpAny_setEntries_of m rfl hf (wpAny_pure ?_)))
  rw [show setDrawn S = (do let x ← setState S; let b ← setsByText; return !b && (!x.2.2.plain && decide (x.1.size > 1))) from rfl]
  refine wpAny_bind (wpAny_bind (wpAny_setState_of m rfl hf ?_))
  unfold setsByText
  refine wpAny_bind (wpAny_bind (wpAny_askSetting (wpAny_pure (wpAny_pure ?_))))
  dsimp only
  rw [pl, show (!(model prog w).w.params.followText "set-order" && (!true && decide (es.size > 1))) = false by simp, if_neg (by simp)]
  refine wpAny_bind (wpAny_pure (wpAny_bind (wpAny_setEpoch_of m rfl hf ?_)))
  refine wpAny_bind (wpAny_newObj_type (wpAny_pure ⟨_, rfl, "set_iterator", _, ⟨_, Heap.get?_push_size _ rfl, rfl⟩, F7.slot_next.lookup, ?_⟩))
  simpa [rawInt] using q
/-- the two ways of a turn -/
theorem sm_next {sl i : Nat} {Q : Option Value → Shared → Prop} (it : SIt s.heap I S sl i es.size ep) (m : SRaw s.heap S es ep t) (hf : t.fits es.size = true) :
    (∀ v nx, (∀ (R : Option (Value × Nat) → Shared → Prop) (E' : Value → Shared → Prop), R (some (v, nx)) s → wpAny (model prog w) A.in1 (setNext S sl i ep) R E' s) → (∀ h', SIt h' I S nx (i + 1) es.size ep → Heap.SameBut I s.heap h' → Q (some v) { s with heap := h' }) → wpAny (model prog w) A (pyNext (.ref I)) Q E s) ∧
    (A.handled = none → (∀ (R : Option (Value × Nat) → Shared → Prop) (E' : Value → Shared → Prop), R none s → wpAny (model prog w) A.in1 (setNext S sl i ep) R E' s) → (∀ h', Heap.ExtBut I s.heap h' → Q none { s with heap := h' }) → wpAny (model prog w) A (pyNext (.ref I)) Q E s) := by
  obtain ⟨o, ho, oc, od⟩ := id it
  have ty : s.TypeIs (.ref I) "set_iterator" := ⟨_, ho, oc⟩
  constructor
  · intro v nx hn hq
    unfold pyNext
    refine wpAny_bind (wpAny_attempt (wpAny_callSpecial?_slot (name := Str.ofString "__next__") ty F7.slot_next (wpAny_call_entry F7.slot_next ty F7.entry_next ?_ (F7.args_next _))))
    unfold Builtin.«set_iterator.__next__»
    refine wpAny_bind (wpAny_pure (wpAny_bind (wpAny_fieldsOf ho od ?_)))
    dsimp only
    refine wpAny_bind (wpAny_setEntries_of m rfl hf ?_)
    rw [if_neg (by simp)]
    simp only [Int.toNat_natCast]
    refine wpAny_bind (hn _ _ ?_)
    dsimp only
    refine wpAny_bind (wpAny_setField ho od (by simp) ?_)
    have od1 : (Obj.mapFields (·.setIfInBounds 0 (rawInt (nx : Int))) o).data = .fields #[.int (nx : Int) 0, .int (i : Int) 0, .ref S, .int (es.size : Int) 0, .int (ep : Int) 0] := by rw [Obj.data_mapFields od]; simp [rawInt]
    have ho1 : (s.heap.update I (Obj.mapFields (·.setIfInBounds 0 (rawInt (nx : Int))))).get? I = some (Obj.mapFields (·.setIfInBounds 0 (rawInt (nx : Int))) o) := Heap.get?_update_self _ ho (Obj.isFreed_of_fields (Obj.data_mapFields od _))
    refine wpAny_bind (wpAny_setField (s := { s with heap := s.heap.update I (Obj.mapFields (·.setIfInBounds 0 (rawInt (nx : Int)))) }) ho1 od1 (by simp) ?_)
    have ho2 := Heap.get?_update_self (Obj.mapFields (·.setIfInBounds 1 (rawInt ((i : Int) + 1)))) ho1 (Obj.isFreed_of_fields (Obj.data_mapFields od1 _))
    have k2 : SIt ((s.heap.update I (Obj.mapFields (·.setIfInBounds 0 (rawInt (nx : Int))))).update I (Obj.mapFields (·.setIfInBounds 1 (rawInt ((i : Int) + 1))))) I S nx (i + 1) es.size ep := ⟨_, ho2, (Obj.cls_mapFields ..).trans ((Obj.cls_mapFields ..).trans oc), by rw [Obj.data_mapFields od1]; simp [rawInt]⟩
    exact wpAny_pure ⟨_, rfl, wpAny_pure (hq _ k2 ((Heap.SameBut.update ..).trans (Heap.SameBut.update ..)))⟩
  · intro hh hn hq
    unfold pyNext
    refine wpAny_bind (wpAny_attempt (wpAny_callSpecial?_slot (name := Str.ofString "__next__") ty F7.slot_next (wpAny_call_entry F7.slot_next ty F7.entry_next ?_ (F7.args_next _))))
    unfold Builtin.«set_iterator.__next__»
    refine wpAny_bind (wpAny_pure (wpAny_bind (wpAny_fieldsOf ho od ?_)))
    dsimp only
    refine wpAny_bind (wpAny_setEntries_of m rfl hf ?_)
    rw [if_neg (by simp)]
    simp only [Int.toNat_natCast]
    refine wpAny_bind (hn _ _ ?_)
    dsimp only
    refine wpAny_bind (wpAny_setField ho od (by simp) ?_)
    show wpAny _ _ (newExc (.type "StopIteration") [] >>= _) _ _ _
    refine wpAny_bind ?_; simp only [newExc, newTuple]; refine wpAny_bind (wpAny_newObj_type ?_ (by size_fits))
    refine wpAny_bind (m := firstArgMember _ _) (wpAny_of_eq (a := Value.none) (by simp only [firstArgMember]; rfl) (wpAny_newObj_type ?_ (by size_fits))); simp only [raiseNew]; refine wpAny_bind (wpAny_handled ?_)
    rw [show A.in1.handled = none from hh]; refine wpAny_bind (wpAny_pure (wpAny_throw ?_)); refine wpAny_bind (wpAny_isInstance (T := "StopIteration") (b := true) ⟨_, Heap.get?_push_size _ rfl, rfl⟩ isSubtype_stop ?_)
    exact wpAny_pure (hq _ (((Heap.SameBut.update ..).extBut.push _).push _))
def ordE (w : World) (S : Addr) (ep : Nat) (es : Array (Int × Value)) : Array (Int × Value) := if byTx w then pickOrder (w.params.setOrder S ep) es else es
def slotAt (w : World) (l : List Nat) (i : Nat) : Nat := if byTx w then 0 else if i = 0 then 0 else l.getD (i - 1) 0 + 1
theorem below8 : ∀ b < 256, ∀ i < 9, (lst8 b).length < i ∨ SetTable.below (lst8 b).toArray (if i = 0 then 0 else (lst8 b).getD (i - 1) 0 + 1) = i := by decide +kernel
theorem erase_perm {α : Type} : ∀ (l : List α) (i : Nat) (h : i < l.length), (l[i] :: l.eraseIdx i).Perm l
  | x :: l, 0, _ => List.Perm.refl _
  | x :: l, i + 1, h => by
    have h' : i < l.length := Nat.lt_of_succ_lt_succ h
    exact (List.Perm.swap x l[i] (l.eraseIdx i)).trans ((erase_perm l i h').cons x)
theorem pick_go {α : Type} (f : Nat → Nat) : ∀ (n k : Nat) (left : List α) (out : Array α), n = left.length → (pickOrder.go f n k left out).toList.Perm (out.toList ++ left)
  | 0, k, left, out, h => by
    have : left = [] := List.length_eq_zero_iff.mp h.symm
    subst this
    show out.toList.Perm (out.toList ++ [])
    rw [List.append_nil]
  | n + 1, k, left, out, h => by
    have lt : f k % left.length < left.length := Nat.mod_lt _ (by walk_at "om")
    unfold pickOrder.go
    rw [List.getElem?_eq_getElem lt]
    refine (pick_go f n (k + 1) _ _ (by rw [List.length_eraseIdx, if_pos lt]; walk_at "om")).trans ?_
    rw [Array.toList_push, List.append_assoc]
    refine List.Perm.append_left _ ?_
    exact erase_perm left _ lt
theorem ord_perm {es : Array (Int × Value)} : (ordE w S ep es).toList.Perm es.toList := by
  unfold ordE
  split
  · have := pick_go (w.params.setOrder S ep) es.size 0 es.toList #[] (by simp)
    simpa [pickOrder] using this
  · exact List.Perm.refl _
theorem ord_size {es : Array (Int × Value)} : (ordE w S ep es).size = es.size := by
  have := (ord_perm (w := w) (S := S) (ep := ep) (es := es)).length_eq
  simpa using this
theorem set_next {b i : Nat} {R : Option (Value × Nat) → Shared → Prop} {E' : Value → Shared → Prop} (m : SRaw s.heap S es ep t) (hb : b < 256) (T : TR (!byTx w) t b) (hr : ER es (lst8 b)) (hi : i ≤ es.size) (h : R ((ordE w S ep es)[i]?.map fun e => (e.2, slotAt w (lst8 b) (i + 1))) s) :
    wpAny (model prog w) A (setNext S (slotAt w (lst8 b) i) i ep) R E' s := by
  have hf := T.fits hb hr.1
  have l8 := lst8_len b hb
  unfold setNext
  refine wpAny_bind (wpAny_setState_of m rfl hf ?_)
  dsimp only
  unfold setsByText
  refine wpAny_bind (wpAny_bind (wpAny_askSetting (wpAny_pure ?_)))
  cases bt : byTx w with
  | true =>
    have bt' : (model prog w).w.params.followText "set-order" = true := bt
    dsimp only
    rw [bt', if_pos rfl, if_neg (by simp)]
    unfold setWalk
    refine wpAny_bind (wpAny_bind (wpAny_setState_of m rfl hf ?_))
    dsimp only
    unfold setsByText
    refine wpAny_bind (wpAny_bind (wpAny_askSetting (wpAny_pure ?_)))
    dsimp only
    rw [bt', if_pos rfl]
    refine wpAny_bind (wpAny_askSetting (wpAny_pure (wpAny_pure ?_)))
    unfold ordE slotAt at h
    rw [bt] at h
    unfold slotAt
    rw [bt]
    exact h
  | false =>
    have bt' : (model prog w).w.params.followText "set-order" = false := bt
    dsimp only
    rw [bt', if_neg (by simp)]
    have sl : slotAt w (lst8 b) i = if i = 0 then 0 else (lst8 b).getD (i - 1) 0 + 1 := by unfold slotAt; rw [bt]; rfl
    have sl2 : slotAt w (lst8 b) (i + 1) = (lst8 b).getD i 0 + 1 := by unfold slotAt; rw [bt]; rfl
    have bl : SetTable.below t.place (slotAt w (lst8 b) i) = i := by
      rw [sl, T.place]
      rcases below8 b hb i (by have := hr.1; walk_at "om") with z | z
      · have := hr.1; walk_at "om"
      · exact z
    have eo : ordE w S ep es = es := by unfold ordE; rw [bt]; rfl
    rw [eo, sl2] at h
    split
    · rename_i z
      have z2 : (!t.plain && decide (es.size > 1)) = true := z
      rw [T.plain] at z2
      cases z2
    · refine wpAny_bind (show wpAny _ _ (if (!t.led && !es.isEmpty) = true then unsupported "set:maker-not-led" else pure ()) _ _ _ from ?_)
      rw [T.led, bt, if_neg (by simp)]
      refine wpAny_pure (wpAny_pure ?_)
      rw [bl, T.place]
      by_cases li : i < es.size
      · have l2 : i < (lst8 b).length := by rw [← hr.1]; exact li
        obtain ⟨tk, et⟩ := hr.2 i _ (List.getElem?_eq_getElem l2)
        rw [et] at h ⊢
        rw [List.getElem?_toArray, List.getElem?_eq_getElem l2]
        rw [List.getD_eq_getElem?_getD, List.getElem?_eq_getElem l2] at h
        exact h
      · have en : es[i]? = none := Array.getElem?_eq_none (by walk_at "om")
        rw [en] at h ⊢
        exact h
theorem sm_walks (hh : A.handled = none) (I S : Addr) (ne : S ≠ I) {b : Nat} (hb : b < 256) (T : TR (!byTx w) t b) (hr : ER es (lst8 b)) : Walks prog w A I [I, S] [I] es.size (fun i v => ∃ e, (ordE w S ep es)[i]? = some e ∧ v = e.2) (fun i h => SIt h I S (slotAt w (lst8 b) i) i es.size ep ∧ SRaw h S es ep t) where
  sub := fun b hb => by rw [List.mem_singleton.mp hb]; simp
  frame := fun _ _ _ st hk => ⟨by obtain ⟨o, e, r⟩ := st.1; exact ⟨o, hk I (by simp) o e, r⟩, hk S (by simp) _ st.2⟩
  item := fun i s Q E hi st hq => by
    have lo : (ordE w S ep es).size = es.size := ord_size
    have ei : (ordE w S ep es)[i]? = some (ordE w S ep es)[i] := by simp [lo, hi]
    refine (sm_next st.1 st.2 (T.fits hb hr.1)).1 (ordE w S ep es)[i].2 (slotAt w (lst8 b) (i + 1)) (fun R E' h => set_next st.2 hb T hr (Nat.le_of_lt hi) (by rw [ei]; exact h)) fun h' k1 k2 => ?_
    exact hq _ h' s.toks ⟨_, ei, rfl⟩ ⟨k1, k2.extBut S _ ne st.2⟩ fun b o hb e => k2.extBut b o (fun z => hb (by simp [z])) e
  done := fun s Q E st hq => (sm_next st.1 st.2 (T.fits hb hr.1)).2 hh (fun R E' h => set_next st.2 hb T hr (Nat.le_refl _) (by rw [show (ordE w S ep es)[es.size]? = none from Array.getElem?_eq_none (by rw [ord_size]; exact Nat.le_refl _)]; exact h)) fun h' k => hq h' s.toks fun b o hb e => k b o (fun z => hb (by simp [z])) e
  self := fun _ s _ _ st hq => by
    obtain ⟨o, ho, oc, od⟩ := st.1
    have ty : s.TypeIs (.ref I) "set_iterator" := ⟨_, ho, oc⟩
    refine wpAny_pyIter_slot ty F7.slot_iter (wpAny_call_entry F7.slot_iter ty F7.entry_iter (show wpAny _ _ (ret (.ref I)) _ _ s from wpAny_pure ⟨_, rfl, "set_iterator", _, ty, F7.slot_next.lookup, hq⟩) (F7.args_iter _))
theorem hint_set {r : Addr} {Q : Bool → Shared → Prop} (hT : s.TypeIs (.ref r) "set") (h : Q false s) : wpAny (model prog w) A (Builtin.List.listLengthHint (.ref r)) Q E s := by
  unfold Builtin.List.listLengthHint; refine wpAny_bind (wpAny_specialOf hT PySem.F.slot_set_len.lookup ?_); generalize hid : ("set.__len__" : String) = id0; wp_delta
  rw [show splitId id0 = some ("set", "__len__") from by subst hid; decide +kernel]; subst hid; refine wpAny_bind (wpAny_isInstance (T := "set") (b := true) hT (by rw [isSubtype_type]; kernel_rfl) ?_)
  refine wpAny_ite_split (fun hab => absurd hab (by decide)) (fun _ => ?_); refine wpAny_ite_split (fun _ => ?_) (fun hab => absurd (by decide +kernel) hab); refine wpAny_bind (wpAny_typeOf hT ?_)
  exact wpAny_pure h
theorem sm_src {b : Nat} (hb : b < 256) (T : TR (!byTx w) t b) (hr : ER es (lst8 b)) : PySem.W.KdlSrc prog w "set" S S es.size (fun i v => ∃ e, (ordE w S ep es)[i]? = some e ∧ v = e.2) (fun h => SRaw h S es ep t) where
  type := fun _ m => ⟨_, m, rfl⟩
  there := fun _ m => ⟨Heap.lt_size m, Heap.lt_size m⟩
  keep := fun _ _ m hk => hk S (.inl rfl) _ m
  notList := by decide
  notTuple := by decide
  hint := fun _ _ _ _ m q => hint_set ⟨_, m, rfl⟩ q
  iter := fun _ _ hh m => ⟨_, _, (fun _ _ q => sm_iter m (T.fits hb hr.1) T.plain q), sm_walks hh _ S (Nat.ne_of_lt (Heap.lt_size m)) hb T hr, ⟨⟨_, Heap.get?_push_size _ rfl, rfl, by unfold slotAt; simp⟩, Heap.get?_push_of_some _ m⟩⟩
theorem ints_of : ∀ {vs : List Value} {ns : List Int}, vs.length = ns.length → (∀ (j : Nat) (v : Value), vs[j]? = some v → ∃ n u, ns[j]? = some n ∧ v = Value.int n u) → IntsAre vs ns
  | [], [], _, _ => .nil
  | [], _ :: _, h, _ => by cases h
  | _ :: _, [], h, _ => by cases h
  | v :: vs, n :: ns, h, k => by
    obtain ⟨n', u, e1, rfl⟩ := k 0 v rfl
    cases e1
    exact .cons n u (ints_of (by simpa using h) fun j v hj => k (j + 1) v hj)
theorem lst8_up : ∀ b < 256, ((lst8 b).map fun k : Nat => (k : Int)).Pairwise (· < ·) := by decide +kernel
theorem sorted_same : ∀ {a b : List Int}, a.Perm b → a.Pairwise (· ≤ ·) → b.Pairwise (· < ·) → a = b
  | [], b, p, _, _ => p.nil_eq
  | x :: a, [], p, _, _ => by have := p.length_eq; cases this
  | x :: a, y :: b, p, h1, h2 => by
    obtain ⟨x1, x2⟩ := List.pairwise_cons.mp h1
    obtain ⟨y1, y2⟩ := List.pairwise_cons.mp h2
    have e : x = y := by
      have m1 : y ∈ x :: a := p.mem_iff.mpr List.mem_cons_self
      have m2 : x ∈ y :: b := p.mem_iff.mp List.mem_cons_self
      rcases List.mem_cons.mp m1 with e | m1
      · exact e.symm
      · rcases List.mem_cons.mp m2 with e | m2
        · exact e
        · have := x1 y m1
          have := y1 x m2
          walk_at "om"
    subst e
    rw [sorted_same (List.Perm.cons_inv p) x2 y2]
/-- list.sort behind sorted(set): the collected numbers stand in order -/
theorem sm_sorted {b : Nat} {Q : Value → Shared → Prop} (hh : A.handled = none) (m : SmSet (!byTx w) s.heap S b) (q : ∀ (h1 h' : Heap) (tk : Nat) (D : Addr) (vs : List Value) (c : Nat), (∀ b o, s.heap.get? b = some o → h1.get? b = some o) → (∀ b o, h1.get? b = some o → h'.get? b = some o) → h1.objs.size ≤ D → h'.get? D = some (seqObj "list" (List.toArray vs) c) → IntsAre vs ((lst8 b).map fun k : Nat => (k : Int)) → Q (.ref D) { s with heap := h', toks := tk }) :
    wpAny (model prog w) A (call (.builtin "sorted") [.ref S]) Q E s := by
  obtain ⟨es, ep, t, e, hr, T⟩ := m.at_
  have l8 := lst8_len b m.b8
  have raw : SRaw s.heap S es ep t := e
  refine Calls.call_function_entry kind_sorted plain_sorted entry_sorted (args_sorted1 _) ?_
  unfold Builtin.«sorted»
  refine wpAny_bind (m := checkCount "sorted" 1 1 _) (wpAny_pure ?_)
  refine wpAny_bind (PySem.W.kdu_collect (A := A.in1) (sm_src m.b8 T hr) hh raw (by rw [hr.1, sizeLine_eq]; walk_at "om") fun h' tk acc hk hacc => ?_)
  have la : acc.size = es.size := hacc.1
  have lo : (ordE w S ep es).size = es.size := ord_size
  have ent : ∀ e ∈ es.toList, ∃ (k : Int) (tk : Tok), e = (k, Value.int k tk) := fun e he => by
    obtain ⟨i, li, ei⟩ := List.mem_iff_getElem.mp he
    have l2 : i < (lst8 b).length := by rw [← hr.1]; simpa using li
    obtain ⟨tk, et⟩ := hr.2 i _ (List.getElem?_eq_getElem l2)
    have e2 : es.toList[i]? = some e := by rw [List.getElem?_eq_getElem li, ei]
    rw [Array.getElem?_toList, et] at e2
    cases e2
    exact ⟨_, tk, rfl⟩
  have hs : es.toList.map (·.1) = (lst8 b).map fun k : Nat => (k : Int) := by
    apply List.ext_getElem?
    intro i
    rw [List.getElem?_map, List.getElem?_map, Array.getElem?_toList]
    by_cases li : i < (lst8 b).length
    · obtain ⟨tk, et⟩ := hr.2 i _ (List.getElem?_eq_getElem li)
      rw [et, List.getElem?_eq_getElem li]
      rfl
    · rw [Array.getElem?_eq_none (by rw [hr.1]; walk_at "om"), List.getElem?_eq_none (by walk_at "om")]
      rfl
  have hI : IntsAre acc.toList ((ordE w S ep es).toList.map (·.1)) := ints_of (by rw [Array.length_toList, List.length_map, Array.length_toList, la, lo]) fun j v hj => by
    rw [Array.getElem?_toList] at hj
    obtain ⟨e, e1, e2⟩ := hacc.2 j v hj
    obtain ⟨k, tk, rfl⟩ := ent e (ord_perm.mem_iff.mp (List.mem_of_getElem? (by rw [Array.getElem?_toList]; exact e1)))
    exact ⟨_, tk, by rw [List.getElem?_map, Array.getElem?_toList, e1]; rfl, e2⟩
  have l64 : acc.toList.length < 64 := by rw [Array.length_toList, la, hr.1]; walk_at "om"
  refine wpAny_bind (wpAny_newList ?_ (by rw [sizeLine_eq]; walk_at "om"))
  have hoL : (h'.push (seqObj "list" acc.toList.toArray 0)).get? h'.objs.size = some (seqObj "list" acc.toList.toArray 0) := Heap.get?_push_size _ rfl
  refine wpAny_bind (wpAny_holding (wpAny_call_entry (s := { s with heap := h'.push (seqObj "list" acc.toList.toArray 0), toks := tk }) slot_list_sort ⟨_, hoL, rfl⟩ entry_list_sort (list_sort_tree hoL hI l64 fun out ns' i' p' pw => ⟨_, rfl, ?_⟩) (args_list_sort _)))
  have en : ns' = (lst8 b).map fun k : Nat => (k : Int) := sorted_same (p'.trans (by rw [← hs]; exact ord_perm.map _)) pw (lst8_up b m.b8)
  subst en
  have keep2 : ∀ c o, c ≠ h'.objs.size → (h'.push (seqObj "list" acc.toList.toArray 0)).get? c = some o → (sortedHeap (h'.push (seqObj "list" acc.toList.toArray 0)) h'.objs.size acc.toList out).get? c = some o := fun c o hc e2 => by
    unfold sortedHeap
    rw [Heap.get?_update_ne _ _ _ _ hc]
    exact Heap.get?_push_of_some _ (Heap.get?_push_of_some _ (by rw [Heap.get?_update_ne _ _ _ _ hc]; exact e2))
  obtain ⟨e1, ho1⟩ : ∃ e1, ((h'.push (seqObj "list" acc.toList.toArray 0)).update h'.objs.size (Obj.mapSeq fun _ => (#[] : Array Value))).get? h'.objs.size = some (seqObj "list" #[] e1) := ⟨_, get?_update_seq hoL fun _ => #[]⟩
  obtain ⟨c2, ho2⟩ : ∃ c2, (sortedHeap (h'.push (seqObj "list" acc.toList.toArray 0)) h'.objs.size acc.toList out).get? h'.objs.size = some (seqObj "list" out c2) := ⟨_, get?_update_seq (Heap.get?_push_of_some _ (Heap.get?_push_of_some _ ho1)) fun _ => out⟩
  exact wpAny_pure ⟨_, rfl, q h' _ tk h'.objs.size out.toList c2 hk (fun c o e2 => keep2 c o (Nat.ne_of_lt (Heap.lt_size e2)) (Heap.get?_push_of_some _ e2)) (Nat.le_refl _) (by simpa using ho2) i'⟩
end
end L2

namespace L2
open PySem PySem.Spec PyProof.Rows
open PySem.W (Dat)
theorem setOf8_mem : ∀ (ks : List Nat) (b : Nat), b < 256 → (∀ k ∈ ks, k < 8) → ∀ j, j ∈ lst8 (setOf8 ks b) ↔ j ∈ lst8 b ∨ j ∈ ks
  | [], b, _, _, j => by simp [setOf8]
  | k :: ks, b, h, g, j => by
    have hk := g k List.mem_cons_self
    rw [setOf8, setOf8_mem ks (ins8 b k) (ins8_lt b h k hk) (fun j hj => g j (List.mem_cons_of_mem _ hj)) j, List.mem_cons]
    have : j ∈ lst8 (ins8 b k) ↔ j ∈ lst8 b ∨ j = k := by
      by_cases j8 : j < 8
      · have := ins8_has b h k hk j j8
        rw [Bool.eq_iff_iff] at this
        simpa using this
      · exact ⟨fun z => absurd (lst8_lt _ _ z) j8, fun z => by
          rcases z with z | z
          · exact absurd (lst8_lt _ _ z) j8
          · exact absurd (z ▸ hk) j8⟩
    rw [this]
    constructor
    · rintro ((z | z) | z)
      · exact .inl z
      · exact .inr (.inl z)
      · exact .inr (.inr z)
    · rintro (z | z | z)
      · exact .inl (.inl z)
      · exact .inl (.inr z)
      · exact .inr z
/-- what is told: the numbers below 8 that lie there, in order -/
def upto8 (ks : List Nat) : List Nat := (List.range 8).filter fun k => ks.contains k
theorem setOf8_up {ks : List Nat} (g : ∀ k ∈ ks, k < 8) : lst8 (setOf8 ks 0) = upto8 ks := by
  unfold upto8
  have e := setOf8_mem ks 0 (by decide) g
  unfold lst8 at e ⊢
  refine List.filter_congr fun k hk => ?_
  have := e k
  rw [List.mem_filter] at this
  rw [Bool.eq_iff_iff, List.contains_iff_mem]
  refine ⟨fun z => ?_, fun z => (this.mpr (.inr z)).2⟩
  rcases this.mp ⟨hk, z⟩ with y | y
  · rw [List.mem_filter] at y; simp at y
  · exact y
theorem vals_is8 {vs : List Value} {ns : List Int} (h : IntsAre vs ns) : Vals (ns.map V.int) vs := by
  induction h with
  | nil => exact .nil
  | cons n t r ih => exact .cons ⟨t, rfl⟩ ih
section
variable {X : Cx}
def rSortSet (K : PySem.W.Frag) : V → Hp → VK → Prop := fun x H Q => ∃ (a : Addr) (ks : List Nat), x = .ref a ∧ SqL K H a (ks.map fun k : Nat => .int (k : Int)) ∧ (∀ k ∈ ks, k < 8) ∧ ∀ l, H l = none → Q (.ref l) (upd H l (.lst ((upto8 ks).map fun k : Nat => .int (k : Int))))
def tSortSet (K : PySem.W.Frag) (te : TE) : TE := fun σ H Q => te σ H fun x H1 => rSortSet K x H1 Q
theorem pe_sortset {e : Expr} {te : TE} {p p2 pos pos2 : Pos} (hc : X.calm = true) (hgl : Gl X "sorted") (hml : X.mg "sorted" = none) (hgs : Gl X "set") (hms : X.mg "set" = none) (he : PE X e te)
    (hs : starEach [e] X.env = [(false, eval e X.env)] := by rfl) (hs2 : starEach [Expr.Call (.Name "set" p2) [e] [] pos2] X.env = [(false, eval (.Call (.Name "set" p2) [e] [] pos2) X.env)] := by rfl) :
    PE X (.Call (.Name "sorted" p) [.Call (.Name "set" p2) [e] [] pos2] [] pos) (tSortSet X.K te) := by
  intro pins s σ H Q I h
  refine wpAny_Call_Name_kw (ld_blt I hgl hml bb_sorted ?_)
  refine PyProof.Rows.callWith_builtin1 ?_ hs2 rfl
  rw [hs2]
  refine (show wpAny _ _ (spliced ((false, eval (.Call (.Name "set" p2) [e] [] pos2) X.env) :: backTo pos [])) _ _ s from Calls.spliced_cons ?_)
  refine wpAny_Call_Name_kw (ld_blt I hgs hms bb_set ?_)
  refine PyProof.Rows.callWith_type1 ?_ hs rfl
  rw [hs]
  refine (show wpAny _ _ (spliced ((false, eval e X.env) :: backTo pos2 [])) _ _ s from Calls.spliced_cons (thn (he pins s σ H _ I h) fun u s1 ⟨x, H1, I1, r1, q1⟩ => Calls.spliced_nil ?_))
  obtain ⟨a, ks, rfl, hq, g8, q⟩ := q1
  cases r1
  obtain ⟨its, rv, pl, _⟩ := I1.list hq
  have hl : s1.heap.IsList a its.toArray := pl.isList
  have hi : IntsAre its (ks.map fun k : Nat => (k : Int)) := intsAre_of (by rw [List.map_map]; exact rv)
  have hh := I1.ok.hd hc
  refine sm_call hh hl hi g8 fun h' tk sm kp => Calls.spliced_nil ?_
  refine sm_sorted (s := { s1 with heap := h', toks := tk }) hh sm fun h1 h2 tk2 D vs c k1 k2 lD eD iD => ?_
  have keep : ∀ b o, s1.heap.get? b = some o → h2.get? b = some o := fun b o e => k2 b o (k1 b o (kp b o (Heap.lt_size e) e))
  rw [setOf8_up g8] at iD
  have l8 : (upto8 ks).length ≤ 8 := by unfold upto8; exact List.length_filter_le _ _
  have lS : s1.heap.objs.size ≤ D := by
    obtain ⟨es, ep, t, e, _⟩ := sm.at_
    have := Heap.lt_size (k1 _ _ e)
    exact Nat.le_trans (Nat.le_of_lt this) lD
  refine ⟨.ref D, _, I1.laid (t' := tk2) (o := .lst ((upto8 ks).map fun k : Nat => .int (k : Int))) keep lS ⟨?_, vs, c, ?_, eD⟩, rfl, q D (I1.hok.fresh lS)⟩
  · rw [List.length_map, sizeLine_eq]; walk_at "om"
  · have := vals_is8 iD
    rw [List.map_map] at this
    exact this
/-- list(range(e)) -/
def tListRange (te : TE) : TE := fun σ H Q => te σ H fun x H1 => ∃ n : Nat, x = .int (n : Int) ∧ n ≤ 1000 ∧ ∀ l, H1 l = none → Q (.ref l) (upd H1 l (.lst ((List.range n).map fun k : Nat => .int (k : Int))))
theorem pe_listrange {e : Expr} {te : TE} {p p2 pos pos2 : Pos} (hc : X.calm = true) (hgl : Gl X "list") (hml : X.mg "list" = none) (hgs : Gl X "range") (hms : X.mg "range" = none) (he : PE X e te)
    (hs : starEach [e] X.env = [(false, eval e X.env)] := by rfl) (hs2 : starEach [Expr.Call (.Name "range" p2) [e] [] pos2] X.env = [(false, eval (.Call (.Name "range" p2) [e] [] pos2) X.env)] := by rfl) :
    PE X (.Call (.Name "list" p) [.Call (.Name "range" p2) [e] [] pos2] [] pos) (tListRange te) := by
  intro pins s σ H Q I h
  refine wpAny_Call_Name_kw (ld_blt I hgl hml bb_list ?_)
  refine PyProof.Rows.callWith_type1 ?_ hs2 rfl
  rw [hs2]
  refine (show wpAny _ _ (spliced ((false, eval (.Call (.Name "range" p2) [e] [] pos2) X.env) :: backTo pos [])) _ _ s from Calls.spliced_cons ?_)
  refine wpAny_Call_Name_kw (ld_blt I hgs hms boot_range ?_)
  refine PyProof.Rows.callWith_type1 ?_ hs rfl
  rw [hs]
  refine (show wpAny _ _ (spliced ((false, eval e X.env) :: backTo pos2 [])) _ _ s from Calls.spliced_cons (thn (he pins s σ H _ I h) fun u s1 ⟨x, H1, I1, r1, q1⟩ => Calls.spliced_nil ?_))
  obtain ⟨n, rfl, hn, q⟩ := q1
  obtain ⟨t, rfl⟩ := r1
  refine call_range_1 (Calls.spliced_nil ?_)
  refine call_list_range (n := n) (I1.ok.hd hc) (IsRange.new ..) (small_one (by walk_at "om") (by walk_at "om") (by walk_at "om") (by walk_at "om")) (by rw [rangeSize_nat]; walk_at "om") (by walk_at "om") fun h' tk acc c kp ha hit => ?_
  have hsz : (s1.heap.push { cls := .type "range", data := .fields #[.int 0 s1.toks, .int (n : Int) t, .int 1 (s1.toks + 1)] }).objs.size = s1.heap.objs.size + 1 := size_push' _ _
  have hi : IntsAre acc.toList ((List.range n).map fun k : Nat => (k : Int)) := ints_of (by rw [Array.length_toList, List.length_map, List.length_range]; exact hit.1) fun j v hj => by
    rw [Array.getElem?_toList] at hj
    obtain ⟨u, e2⟩ := hit.2 j v hj
    have lj : j < n := by
      have := (Array.getElem?_eq_some_iff.mp hj).1
      rw [hit.1] at this
      exact this
    exact ⟨_, u, by rw [List.getElem?_map, List.getElem?_range lj]; rfl, by rw [e2]; simp⟩
  have lS : s1.heap.objs.size ≤ (s1.heap.push { cls := .type "range", data := .fields #[.int 0 s1.toks, .int (n : Int) t, .int 1 (s1.toks + 1)] }).objs.size := by rw [hsz]; exact Nat.le_succ _
  refine ⟨.ref _, _, I1.laid (t' := tk) (o := .lst ((List.range n).map fun k : Nat => .int (k : Int))) (fun b o e => kp b o (Heap.get?_push_of_some _ e)) lS ⟨?_, acc.toList, c, ?_, by rw [Array.toArray_toList]; exact ha⟩, rfl, q _ (I1.hok.fresh lS)⟩
  · rw [List.length_map, List.length_range, sizeLine_eq]; walk_at "om"
  · have := vals_is8 hi
    rw [List.map_map] at this
    exact this
def rMax2 : List V → Hp → VK → Prop := fun xs H Q => ∃ i j, xs = [.int i, .int j] ∧ Q (.int (if j > i then j else i)) H
end
end L2

namespace L2
open PySem PySem.Spec PyProof.Rows
open PySem.W (Dat)
section
variable {X : Cx}
end
end L2

namespace L2
open PySem PySem.Spec PyProof.Rows
section
variable {prog : Program} {w : World} {A : Around} {E : Value → Shared → Prop} {s : Shared} {z TI TO i1 i2 i3 l1 l2 l3 : Addr} {xs ys zs : Array Value} {S1 S2 S3 : Nat → Heap → Prop} {k : Nat}
end
section
variable {X : Cx}
end
section
variable {K : PySem.W.Frag} {te : TE} {σ : St} {Q : VK} {H : Hp}
end
end L2

namespace L2
open PySem PySem.Spec PyProof.Rows
open PySem.W (Dat)
def rLenD : List V → Hp → VK → Prop := fun xs H Q => ∃ a kvs, xs = [V.ref a] ∧ H a = some (.dK kvs) ∧ Q (.int kvs.length) H
theorem rel_key {k : Key} {v : Value} (h : keyIs k v = true) : RelV (kV k) v := by
  cases k with
  | inl i =>
    cases v <;> simp [keyIs, Value.isInt] at h
    subst h
    exact ⟨_, rfl⟩
  | inr x =>
    cases v <;> simp [keyIs, Value.isStrOf] at h
    subst h
    exact ⟨_, rfl⟩
theorem keys_vals {P : Program} {w : World} : ∀ {es : List DictEntry} {vs : List (Key × Value)}, Pairs (mixKind P w) es vs → Vals (vs.map fun kv => kV kv.1) (es.map fun e => e.key)
  | _, _, .nil => .nil
  | _, _, .cons h _ r => .cons (rel_key h) (keys_vals r)
theorem pairs_len {P : Program} {w : World} : ∀ {es : List DictEntry} {vs : List (Key × Value)}, Pairs (mixKind P w) es vs → es.length = vs.length
  | _, _, .nil => rfl
  | _, _, .cons _ _ r => congrArg (· + 1) (pairs_len r)
/-- list(d): the keys -/
def rListDK : List V → Hp → VK → Prop := fun xs H Q => ∃ a kvs, xs = [.ref a] ∧ H a = some (.dK kvs) ∧ ∀ l : Addr, H l = none → Q (.ref l) (upd H l (.lst (kvs.map fun kv => kV kv.1)))
theorem call_listDK {X : Cx} (hc : X.calm = true) : CallR X (.type "list") rListDK := by
  intro pins s σ H xs us Q I r h
  obtain ⟨a, kvs, rfl, ha, q⟩ := h
  obtain ⟨u, rfl, ru⟩ := vals1 r
  cases ru
  obtain ⟨z, lo, vs, kv, o, es, ep, ho, ex, dt, _, pr, _⟩ := dk_of I.hok ha
  have ek : (kvs.map fun kv => kV kv.1) = vs.map fun kv => kV kv.1 := by
    have := congrArg (List.map kV) kv.keys
    rw [List.map_map, List.map_map] at this
    exact this
  have lk : kvs.length = vs.length := by have := congrArg List.length ek; rwa [List.length_map, List.length_map] at this
  have sz : es.size = kvs.length := by rw [← Array.length_toList, pairs_len pr, lk]
  refine PySem.W.kdl_call (raw_src (es := es) (ep := ep) lo) (I.ok.hd hc) ⟨o, ho, ex, dt⟩ (by rw [sz]; exact z) fun h' tk acc c kp hl hit => ?_
  have acc_eq : acc.toList = es.toList.map fun e => e.key := by
    refine List.ext_getElem? fun j => ?_
    by_cases lt : j < es.size
    · have hj : j < acc.toList.length := by rw [Array.length_toList]; rw [hit.1]; exact lt
      have e1 : acc.toList[j]? = some acc.toList[j] := List.getElem?_eq_getElem hj
      obtain ⟨e, ee, ev⟩ := hit.2 j acc.toList[j] (by rw [← Array.getElem?_toList]; exact e1)
      rw [e1, ev, List.getElem?_map, Array.getElem?_toList, ee]
      rfl
    · rw [List.getElem?_eq_none (by rw [Array.length_toList, hit.1]; walk_at "om"), List.getElem?_eq_none]
      rw [List.length_map, Array.length_toList]
      walk_at "om"
  have vals : Vals (kvs.map fun kv => kV kv.1) acc.toList := by
    rw [acc_eq, ek]
    exact keys_vals pr
  refine ⟨.ref s.heap.objs.size, _, I.laid (t' := tk) kp (Nat.le_refl _) (show ObjOk X.prog X.w _ h' _ (.lst (kvs.map fun kv => kV kv.1)) from ⟨?_, acc.toList, c, vals, by rw [Array.toArray_toList]; exact hl⟩), rfl, q _ (I.hok.fresh (Nat.le_refl _))⟩
  rw [List.length_map]
  exact z
end L2

set_option Elab.async false
set_option linter.all false
set_option maxRecDepth 100000
set_option maxHeartbeats 4000000
open L2
local macro_rules | `(tactic| walk_at "side") => `(tactic| first
  | (show (0 : Int) < _; omega)
  | (unfold CDiv; omega)
  | (unfold CMul; omega)
  | exact ⟨by decide, by decide, by decide⟩)
local macro_rules | `(tactic| walk_at "rd1") => `(tactic| first
  | with_reducible refine k_seq ?_
  | with_reducible refine k_asg ?_
  | with_reducible refine k_gName ?_
  | ((with_reducible refine' k_var ?k1 ?_); (case k1 => exact rfl))
  | with_reducible refine k_c ?_
  | with_reducible refine k_op ?_
  | with_reducible refine k_rI0 ?_
  | with_reducible refine k_eqI ?_
  | with_reducible refine k_neI ?_
  | with_reducible refine k_eqS ?_
  | with_reducible refine k_eqB ?_
  | with_reducible refine k_neB ?_
  | with_reducible refine k_ifS ?_
  | with_reducible refine k_test ?_
  | with_reducible refine k_tB ?_
  | with_reducible refine k_bl ?_
  | with_reducible refine k_ret ?_
  | with_reducible refine k_next ?_
  | with_reducible refine k_drop ?_
  | with_reducible refine k_not ?_
  | with_reducible refine k_and ?_
  | with_reducible refine k_or ?_
  | with_reducible refine k_andV ?_
  | with_reducible refine k_orV ?_
  | with_reducible refine k_notV ?_
  | with_reducible refine k_if ?_
  | with_reducible refine k_chain ?_
  | with_reducible refine k_nil ?_
  | with_reducible refine k_cons ?_
  | with_reducible refine k_call ?_
  | with_reducible refine k_cB ?_
  | with_reducible refine k_tup ?_
  | with_reducible refine k_lst ?_
  | with_reducible refine k_un ?_
  | with_reducible refine k_rU ?_
  | with_reducible refine k_sl ?_
  | with_reducible refine k_noPart ?_
  | with_reducible refine k_part ?_
  | with_reducible refine k_int ?_
  | with_reducible refine k_retN ?_
  | with_reducible refine k_dput ?_
  | with_reducible refine k_revT ?_
  | with_reducible refine k_compG ?_
  | with_reducible refine k_compF ?_
  | with_reducible refine k_iStr ?_
  | with_reducible refine k_iSeq ?_
  | with_reducible refine k_isLT ?_
  | with_reducible refine k_enum ?_
  | with_reducible refine k_rev ?_
  | with_reducible refine k_dget ?_
  | with_reducible refine k_dnotIn ?_
  | with_reducible refine k_dget1 ?_
  | with_reducible refine k_par ?_
  | with_reducible refine k_fmtS ?_
  | with_reducible refine k_fmtI ?_
  | with_reducible refine k_jn ?_
  | with_reducible refine k_jn0 ?_
  | with_reducible refine k_zip ?_
  | with_reducible refine k_isN ?_
  | with_reducible refine k_notN ?_
  | with_reducible refine k_for ?_
  | with_reducible refine k_comp ?_
  | with_reducible refine k_rng1 ?_
  | with_reducible refine k_rng2 ?_
  | with_reducible refine k_iList ?_
  | with_reducible refine k_iTup ?_
  | with_reducible refine k_bm ?_
  | with_reducible refine k_bm0 ?_
  | with_reducible refine k_elt ?_
  | with_reducible refine k_gCons ?_
  | with_reducible refine k_gNil ?_
  | with_reducible refine k_break ?_
  | with_reducible refine k_cont ?_
  | with_reducible refine k_int1 ?_
  | with_reducible refine k_intB ?_
  | with_reducible refine k_abs ?_
  | with_reducible refine iteT ?_
  | with_reducible refine iteF ?_
  | with_reducible refine k_iteNT ?_
  | with_reducible refine k_iteNF ?_
  | with_reducible refine k_iteNNT ?_
  | with_reducible refine k_iteNNF ?_
  | ((with_reducible refine' k_rI ?k1 ?_); (case k1 => walk_at "side"))
  | ((with_reducible refine' k_r1F ?k1 ?_); (case k1 => (constructor <;> walk_at "om")))
  | ((with_reducible refine' k_r1C ?k1 ?_); (case k1 => (constructor <;> walk_at "om"))))
local macro_rules | `(tactic| walk_at "rd") => `(tactic| repeat walk_at "rd1")
namespace G1
open PySem L2 Fr
open PySem.W (Dat kqdOk)
abbrev ends (Q : VK) : Ends := { nx := fun _ H' => Q .non H', rt := Q }
/-- a heap's numbers -/
def HeapOk (n : Nat) (hs : List Int) : Prop := hs.length = n ∧ ∀ x ∈ hs, 0 ≤ x ∧ x ≤ 3
abbrev dI (ns : List Int) : Dat := .tuple (ns.map Dat.int)
theorem AccZ.ints {K : PySem.W.Frag} {H0 H : Hp} {l : Addr} {ns : List Int} (A : AccZ K H0 l H (ns.map Dat.int)) : H l = some (.lst (ns.map V.int)) := by
  obtain ⟨xs, h1, h2⟩ := A.at_
  rw [RpL.ints_of h2] at h1
  exact h1
theorem AccZ.strs {K : PySem.W.Frag} {H0 H : Hp} {l : Addr} {ns : List Str} (A : AccZ K H0 l H (ns.map Dat.str)) : H l = some (.lst (ns.map V.str)) := by
  obtain ⟨xs, h1, h2⟩ := A.at_
  rw [RpL.strs_of h2] at h1
  exact h1
abbrev az : Str := "abcdefghijklmnopqrstuvwxyz"
theorem az_at : ∀ j : Nat, j < 26 → az.cps.toList[j]? = some (97 + j) := by decide +kernel
theorem az_len : az.length ≤ sizeLine := by decide +kernel
theorem az_ix {i : Int} (h0 : 0 ≤ i) (h1 : i < 26) : atI az.cps.toList i = some (97 + i.toNat) := by
  have e : i = ((i.toNat : Nat) : Int) := by walk_at "om"
  have q := atI_nat (az_at i.toNat (by walk_at "om"))
  rw [← e] at q
  exact q
def Low (z : Str) : Prop := ∀ x ∈ z.cps.toList, 97 ≤ x ∧ x ≤ 122
theorem cl_len (z : Str) : z.cps.toList.length = z.length := by simp [Str.length]
theorem low_one {c : Nat} (h0 : 97 ≤ c) (h1 : c ≤ 122) : Low ⟨#[c]⟩ := fun x hx => by
  have : x = c := by simpa using hx
  walk_at "om"
theorem low_cut {z : Str} {lo hi : Option Int} (h : Low z) : Low (scut z lo hi) := fun x hx => by
  have q : x ∈ (hiL z.cps.toList hi).drop (lo.getD 0).toNat := by simpa [scut] using hx
  have q2 := List.mem_of_mem_drop q
  cases hi with
  | none => exact h x q2
  | some j => exact h x (List.mem_of_mem_take q2)
theorem scut_len (z : Str) (lo hi : Option Int) : (scut z lo hi).length = (hiL z.cps.toList hi).length - (lo.getD 0).toNat := by
  show (List.drop (lo.getD 0).toNat (hiL z.cps.toList hi)).toArray.size = _
  rw [List.size_toArray, List.length_drop]
end G1

namespace G1
open PySem L2 Fr
open PySem.W (Dat kqdOk)
def WordOk (w : Str) : Prop := 1 ≤ w.length ∧ w.length ≤ 8 ∧ Low w
def WordsOk (ws : List Str) : Prop := ws.Nodup ∧ ∀ w ∈ ws, WordOk w
theorem nodup_snoc {α : Type} {xs : List α} {x : α} (h : xs.Nodup) (n : x ∉ xs) : (xs ++ [x]).Nodup := by
  rw [List.nodup_append]
  refine ⟨h, by simp, ?_⟩
  intro a ha b hb e
  rw [List.mem_singleton.mp hb] at e
  exact n (e ▸ ha)
theorem all_snoc {α : Type} {P : α → Prop} {xs : List α} {x : α} (h : ∀ y ∈ xs, P y) (n : P x) : ∀ y ∈ xs ++ [x], P y := fun y hy => by
  rcases List.mem_append.mp hy with q | q
  · exact h y q
  · rw [List.mem_singleton.mp q]
    exact n
def PaceOk (q d : Int) : Prop := 0 < q ∧ 0 < d ∧ Gd.gd q d = 1 ∧ q ≤ 10000000000 ∧ d ≤ 10000000000
theorem ok_dI (ns : List Int) (n : Nat) : kqdOk (n + 1) (dI ns) = true := by
  show ((ns.map Dat.int).all (kqdOk n)) = true
  rw [List.all_eq_true]
  intro x hx
  obtain ⟨i, _, rfl⟩ := List.mem_map.mp hx
  cases n <;> rfl
theorem dI_inj {a b : List Int} (h : dI a = dI b) : a = b := by
  have := Dat.tuple.inj h
  exact (List.map_inj_right (fun x y e => Dat.int.inj e)).mp this
theorem mem_dI {a : List Int} {hs : List (List Int)} : dI a ∈ hs.map dI ↔ a ∈ hs := by
  rw [List.mem_map]
  constructor
  · rintro ⟨b, hb, e⟩
    rw [← dI_inj e]
    exact hb
  · intro h
    exact ⟨a, h, rfl⟩
def PoolOk (n : Nat) (hs : List (List Int)) : Prop := hs.Nodup ∧ ∀ h ∈ hs, HeapOk n h
end G1

namespace L2
open PySem PySem.W
end L2
namespace G1
open PySem L2 Fr
open PySem.W (Dat kqdOk)
structure Tn where
  fr : List Int
  to : List Int
  q : Int
  d : Int
def dT (t : Tn) : Dat := .tuple [dI t.fr, dI t.to, dI [t.q, t.d]]
def TurnOk (hs : List (List Int)) (t : Tn) : Prop := t.fr ∈ hs ∧ t.to ∈ hs ∧ t.fr ≠ t.to ∧ PaceOk t.q t.d
def ends2 (t : Tn) : List Int × List Int := (t.fr, t.to)
structure TurnsOk (hs : List (List Int)) (ts : List Tn) : Prop where
  ne : ts ≠ []
  le : ts.length ≤ 8
  nd : (ts.map ends2).Nodup
  ok : ∀ t ∈ ts, TurnOk hs t
def dP (p : Nat × Nat) : Dat := dI [(p.1 : Int), (p.2 : Int)]
theorem dP_inj {a b : Nat × Nat} (h : dP a = dP b) : a = b := by
  have e := dI_inj h
  have e1 : (a.1 : Int) = b.1 := (List.cons.inj e).1
  have e2 : (a.2 : Int) = b.2 := (List.cons.inj (List.cons.inj e).2).1
  obtain ⟨a1, a2⟩ := a
  obtain ⟨b1, b2⟩ := b
  have e1' : a1 = b1 := Int.ofNat.inj e1
  have e2' : a2 = b2 := Int.ofNat.inj e2
  rw [e1', e2']
theorem mem_dP {a : Nat × Nat} {ps : List (Nat × Nat)} : dP a ∈ ps.map dP ↔ a ∈ ps := by
  rw [List.mem_map]
  constructor
  · rintro ⟨b, hb, e⟩
    rw [← dP_inj e]
    exact hb
  · intro h
    exact ⟨a, h, rfl⟩
def PairOk (n : Nat) (p : Nat × Nat) : Prop := p.1 < n ∧ p.2 < n ∧ p.1 ≠ p.2
def two (hs : List (List Int)) (p : Nat × Nat) : List Int × List Int := (hs.getD p.1 [], hs.getD p.2 [])
structure Good (hs : List (List Int)) (ps : List (Nat × Nat)) (ts : List Tn) : Prop where
  nd : ps.Nodup
  le : ps.length ≤ 8
  eq : ts.map ends2 = ps.map (two hs)
  ok : ∀ p ∈ ps, PairOk hs.length p
  pc : ∀ t ∈ ts, PaceOk t.q t.d
theorem getD_mem {hs : List (List Int)} {i : Nat} (h : i < hs.length) : hs.getD i [] ∈ hs := by
  rw [List.getD_eq_getElem?_getD, List.getElem?_eq_getElem h]
  exact List.getElem_mem h
theorem getD_inj {hs : List (List Int)} (nd : hs.Nodup) {i j : Nat} (hi : i < hs.length) (hj : j < hs.length) (e : hs.getD i [] = hs.getD j []) : i = j := by
  rw [List.getD_eq_getElem?_getD, List.getElem?_eq_getElem hi, List.getD_eq_getElem?_getD, List.getElem?_eq_getElem hj] at e
  have e' : hs[i] = hs[j] := e
  have pw := List.pairwise_iff_getElem.mp nd
  rcases Nat.lt_trichotomy i j with z | z | z
  · exact absurd e' (pw i j hi hj z)
  · exact z
  · exact absurd e'.symm (pw j i hj hi z)
theorem nodup_map_on {α β : Type} {f : α → β} : ∀ {xs : List α}, xs.Nodup → (∀ a ∈ xs, ∀ b ∈ xs, f a = f b → a = b) → (xs.map f).Nodup
  | [], _, _ => List.nodup_nil
  | x :: xs, h, hf => by
    rw [List.map_cons, List.nodup_cons]
    refine ⟨fun hm => ?_, nodup_map_on (List.nodup_cons.mp h).2 fun a ha b hb => hf a (List.mem_cons_of_mem _ ha) b (List.mem_cons_of_mem _ hb)⟩
    obtain ⟨y, hy, e⟩ := List.mem_map.mp hm
    rw [← hf y (List.mem_cons_of_mem _ hy) x List.mem_cons_self e] at h
    exact (List.nodup_cons.mp h).1 hy
theorem Good.turns {hs : List (List Int)} {ps : List (Nat × Nat)} {ts : List Tn} (g : Good hs ps ts) (nd : hs.Nodup) (ne : ps ≠ []) : TurnsOk hs ts := by
  have len : ts.length = ps.length := by have := congrArg List.length g.eq; simpa using this
  refine ⟨fun z => ?_, by rw [len]; exact g.le, ?_, fun t ht => ?_⟩
  · rw [z] at len
    exact ne (List.length_eq_zero_iff.mp len.symm)
  · rw [g.eq]
    refine nodup_map_on g.nd fun a ha b hb e => ?_
    have oa := g.ok a ha
    have ob := g.ok b hb
    have e1 := getD_inj nd oa.1 ob.1 (congrArg Prod.fst e)
    have e2 := getD_inj nd oa.2.1 ob.2.1 (congrArg Prod.snd e)
    obtain ⟨a1, a2⟩ := a
    obtain ⟨b1, b2⟩ := b
    simp only at e1 e2
    rw [e1, e2]
  · have hm : ends2 t ∈ ps.map (two hs) := by rw [← g.eq]; exact List.mem_map.mpr ⟨t, ht, rfl⟩
    obtain ⟨p, hp, e⟩ := List.mem_map.mp hm
    have op := g.ok p hp
    have e1 : hs.getD p.1 [] = t.fr := congrArg Prod.fst e
    have e2 : hs.getD p.2 [] = t.to := congrArg Prod.snd e
    refine ⟨e1 ▸ getD_mem op.1, e2 ▸ getD_mem op.2.1, fun z => op.2.2 ?_, g.pc t ht⟩
    rw [← e1, ← e2] at z
    exact getD_inj nd op.1 op.2.1 z
structure VesOk (ws : List Str) (ts : List Tn) : Prop where
  words : WordsOk ws
  w1 : 1 ≤ ws.length
  w5 : ws.length ≤ 5
  turns : ∃ hs, PoolOk ws.length hs ∧ hs.length ≤ 8 ∧ TurnsOk hs ts
def dV (ws : List Str) (ts : List Tn) : Dat := .tuple [.tuple (ws.map Dat.str), .tuple (ts.map dT)]
end G1

namespace L2
open PySem PySem.Spec PyProof.Rows
open PySem.W (Dat kqdOk)
theorem kit_NoneType_bool {K : PySem.W.Frag} : PySem.W.kitOne K (.type "NoneType") (.type "bool") = some false := by
  show PySem.W.kitCls K (.type "NoneType") (.type "bool") = some false; unfold PySem.W.kitCls; kernel_rfl
theorem kit_NoneType_int {K : PySem.W.Frag} : PySem.W.kitOne K (.type "NoneType") (.type "int") = some false := by
  show PySem.W.kitCls K (.type "NoneType") (.type "int") = some false; unfold PySem.W.kitCls; kernel_rfl
theorem kit_NoneType_str {K : PySem.W.Frag} : PySem.W.kitOne K (.type "NoneType") (.type "str") = some false := by
  show PySem.W.kitCls K (.type "NoneType") (.type "str") = some false; unfold PySem.W.kitCls; kernel_rfl
theorem kit_NoneType_tuple {K : PySem.W.Frag} : PySem.W.kitOne K (.type "NoneType") (.type "tuple") = some false := by
  show PySem.W.kitCls K (.type "NoneType") (.type "tuple") = some false; unfold PySem.W.kitCls; kernel_rfl
theorem kit_NoneType_list {K : PySem.W.Frag} : PySem.W.kitOne K (.type "NoneType") (.type "list") = some false := by
  show PySem.W.kitCls K (.type "NoneType") (.type "list") = some false; unfold PySem.W.kitCls; kernel_rfl
theorem kit_bool_bool {K : PySem.W.Frag} : PySem.W.kitOne K (.type "bool") (.type "bool") = some true := by rfl
theorem kit_bool_int {K : PySem.W.Frag} : PySem.W.kitOne K (.type "bool") (.type "int") = some true := by
  show PySem.W.kitCls K (.type "bool") (.type "int") = some true; unfold PySem.W.kitCls; kernel_rfl
theorem kit_bool_str {K : PySem.W.Frag} : PySem.W.kitOne K (.type "bool") (.type "str") = some false := by
  show PySem.W.kitCls K (.type "bool") (.type "str") = some false; unfold PySem.W.kitCls; kernel_rfl
theorem kit_bool_tuple {K : PySem.W.Frag} : PySem.W.kitOne K (.type "bool") (.type "tuple") = some false := by
  show PySem.W.kitCls K (.type "bool") (.type "tuple") = some false; unfold PySem.W.kitCls; kernel_rfl
theorem kit_bool_list {K : PySem.W.Frag} : PySem.W.kitOne K (.type "bool") (.type "list") = some false := by
  show PySem.W.kitCls K (.type "bool") (.type "list") = some false; unfold PySem.W.kitCls; kernel_rfl
theorem kit_int_bool {K : PySem.W.Frag} : PySem.W.kitOne K (.type "int") (.type "bool") = some false := by
  show PySem.W.kitCls K (.type "int") (.type "bool") = some false; unfold PySem.W.kitCls; kernel_rfl
theorem kit_int_int {K : PySem.W.Frag} : PySem.W.kitOne K (.type "int") (.type "int") = some true := by rfl
theorem kit_int_str {K : PySem.W.Frag} : PySem.W.kitOne K (.type "int") (.type "str") = some false := by
  show PySem.W.kitCls K (.type "int") (.type "str") = some false; unfold PySem.W.kitCls; kernel_rfl
theorem kit_int_tuple {K : PySem.W.Frag} : PySem.W.kitOne K (.type "int") (.type "tuple") = some false := by
  show PySem.W.kitCls K (.type "int") (.type "tuple") = some false; unfold PySem.W.kitCls; kernel_rfl
theorem kit_int_list {K : PySem.W.Frag} : PySem.W.kitOne K (.type "int") (.type "list") = some false := by
  show PySem.W.kitCls K (.type "int") (.type "list") = some false; unfold PySem.W.kitCls; kernel_rfl
theorem kit_str_bool {K : PySem.W.Frag} : PySem.W.kitOne K (.type "str") (.type "bool") = some false := by
  show PySem.W.kitCls K (.type "str") (.type "bool") = some false; unfold PySem.W.kitCls; kernel_rfl
theorem kit_str_int {K : PySem.W.Frag} : PySem.W.kitOne K (.type "str") (.type "int") = some false := by
  show PySem.W.kitCls K (.type "str") (.type "int") = some false; unfold PySem.W.kitCls; kernel_rfl
theorem kit_str_str {K : PySem.W.Frag} : PySem.W.kitOne K (.type "str") (.type "str") = some true := by rfl
theorem kit_str_tuple {K : PySem.W.Frag} : PySem.W.kitOne K (.type "str") (.type "tuple") = some false := by
  show PySem.W.kitCls K (.type "str") (.type "tuple") = some false; unfold PySem.W.kitCls; kernel_rfl
theorem kit_str_list {K : PySem.W.Frag} : PySem.W.kitOne K (.type "str") (.type "list") = some false := by
  show PySem.W.kitCls K (.type "str") (.type "list") = some false; unfold PySem.W.kitCls; kernel_rfl
theorem kit_tuple_bool {K : PySem.W.Frag} : PySem.W.kitOne K (.type "tuple") (.type "bool") = some false := by
  show PySem.W.kitCls K (.type "tuple") (.type "bool") = some false; unfold PySem.W.kitCls; kernel_rfl
theorem kit_tuple_int {K : PySem.W.Frag} : PySem.W.kitOne K (.type "tuple") (.type "int") = some false := by
  show PySem.W.kitCls K (.type "tuple") (.type "int") = some false; unfold PySem.W.kitCls; kernel_rfl
theorem kit_tuple_str {K : PySem.W.Frag} : PySem.W.kitOne K (.type "tuple") (.type "str") = some false := by
  show PySem.W.kitCls K (.type "tuple") (.type "str") = some false; unfold PySem.W.kitCls; kernel_rfl
theorem kit_tuple_tuple {K : PySem.W.Frag} : PySem.W.kitOne K (.type "tuple") (.type "tuple") = some true := by rfl
theorem kit_tuple_list {K : PySem.W.Frag} : PySem.W.kitOne K (.type "tuple") (.type "list") = some false := by
  show PySem.W.kitCls K (.type "tuple") (.type "list") = some false; unfold PySem.W.kitCls; kernel_rfl
theorem kit_list_bool {K : PySem.W.Frag} : PySem.W.kitOne K (.type "list") (.type "bool") = some false := by
  show PySem.W.kitCls K (.type "list") (.type "bool") = some false; unfold PySem.W.kitCls; kernel_rfl
theorem kit_list_int {K : PySem.W.Frag} : PySem.W.kitOne K (.type "list") (.type "int") = some false := by
  show PySem.W.kitCls K (.type "list") (.type "int") = some false; unfold PySem.W.kitCls; kernel_rfl
theorem kit_list_str {K : PySem.W.Frag} : PySem.W.kitOne K (.type "list") (.type "str") = some false := by
  show PySem.W.kitCls K (.type "list") (.type "str") = some false; unfold PySem.W.kitCls; kernel_rfl
theorem kit_list_tuple {K : PySem.W.Frag} : PySem.W.kitOne K (.type "list") (.type "tuple") = some false := by
  show PySem.W.kitCls K (.type "list") (.type "tuple") = some false; unfold PySem.W.kitCls; kernel_rfl
theorem kit_list_list {K : PySem.W.Frag} : PySem.W.kitOne K (.type "list") (.type "list") = some true := by rfl
abbrev Ra (K : PySem.W.Frag) (H : Hp) : V → Dat → Prop := Rp K (fun _ => True) H
/-- scalars, and at most n floors of tuples and lists, none of them long -/
def okS : Nat → Dat → Bool
  | _, .none => true
  | _, .bool _ => true
  | _, .int _ => true
  | _, .str _ => true
  | n + 1, .tuple ds => decide (ds.length ≤ 1000) && ds.all (okS n)
  | n + 1, .list ds => decide (ds.length ≤ 1000) && ds.all (okS n)
  | _, _ => false
theorem k_ixQT {K : PySem.W.Frag} {H : Hp} {Q : VK} {p : Addr} {xs : List V} {i : Int} {v : V} (e : SqT K H p xs) (a : atI xs i = some v) (h : Q v H) : rIx K (.ref p) (.int i) H Q := .inr (.inl (k_ixT e a h))
theorem k_ixQL {K : PySem.W.Frag} {H : Hp} {Q : VK} {p : Addr} {xs : List V} {i : Int} {v : V} (e : SqL K H p xs) (a : atI xs i = some v) (h : Q v H) : rIx K (.ref p) (.int i) H Q := .inl (k_ixL e a h)
end L2
namespace Sm
open PySem L2 G1
open PySem.W (Dat kqdOk)
def spSame (K : PySem.W.Frag) (n : Nat) : Sp := fun vs H Q _ => ∃ (v1 v2 : V) (d1 d2 : Dat), vs = [v1, v2] ∧ Ra K H v1 d1 ∧ Ra K H v2 d2 ∧ okS n d2 = true ∧ (d1 = d2 → Q (.bl true) H) ∧ (d1 ≠ d2 → Q (.bl false) H)
theorem len_same {K : PySem.W.Frag} {n : Nat} {vs : List V} {H : Hp} {Q : VK} {E : XK} {x y : Str} (h : spSame K n vs H Q E) : vs.length = [x, y].length := by
  obtain ⟨a, b, c, d, rfl, _⟩ := h
  rfl
def t_sameS (K : PySem.W.Frag) : TS := (tSeq (tIfS (tB (tCB (rIsi K) (tCons (tVar 1) (tCons (tC (.ty "bool")) tNil))))
  (tRet (tAndV (tCB (rIsi K) (tCons (tVar 0) (tCons (tC (.ty "bool")) tNil))) (tOp rEq (tVar 0) (tVar 1))))
  tNext)
  (tSeq (tIfS (tB (tCB (rIsi K) (tCons (tVar 1) (tCons (tC (.ty "int")) tNil))))
  (tRet (tAndV (tCB (rIsi K) (tCons (tVar 0) (tCons (tC (.ty "int")) tNil))) (tAndV (tNotV (tCB (rIsi K) (tCons (tVar 0) (tCons (tC (.ty "bool")) tNil)))) (tOp rEq (tVar 0) (tVar 1)))))
  tNext)
  (tSeq (tIfS (tB (tCB (rIsi K) (tCons (tVar 1) (tCons (tC (.ty "str")) tNil))))
  (tRet (tAndV (tCB (rIsi K) (tCons (tVar 0) (tCons (tC (.ty "str")) tNil))) (tOp rEq (tVar 0) (tVar 1))))
  tNext)
  (tRet (tAndV (tOp rIsN (tVar 1) (tC .non)) (tOp rIsN (tVar 0) (tC .non)))))))
def t_same0 (K : PySem.W.Frag) : TS := (tSeq (tIfS (tOr (tB (tCB (rIsi K) (tCons (tVar 1) (tCons (tC (.ty "tuple")) tNil)))) (tB (tCB (rIsi K) (tCons (tVar 1) (tCons (tC (.ty "list")) tNil)))))
  tNever
  tNext)
  (t_sameS K))
/-- behind the two floors: scalars -/
theorem rd_scal {K : PySem.W.Frag} {H : Hp} {Q : VK} {v1 v2 : V} {d1 d2 : Dat} {u : Option V} (r1 : Ra K H v1 d1) (r2 : Ra K H v2 d2) (n1 : ∀ ds, d2 ≠ .tuple ds) (n2 : ∀ ds, d2 ≠ .list ds) (h1 : d1 = d2 → Q (.bl true) H) (h2 : d1 ≠ d2 → Q (.bl false) H) :
    t_sameS K (ends Q) [some v1, some v2, u] H := by
  have no : ∀ {a b : Dat}, (a = b → False) → d1 = a → d2 = b → Q (.bl false) H := fun q e1 e2 => h2 fun z => q (e1.symm.trans (z.trans e2))
  unfold t_sameS
  cases r2 with
  | non =>
    walk_at "rd"
    refine k_isi .non kit_NoneType_bool ?_
    walk_at "rd"
    refine k_isi .non kit_NoneType_int ?_
    walk_at "rd"
    refine k_isi .non kit_NoneType_str ?_
    walk_at "rd"
    refine k_ite (fun _ => ?_) (fun z => absurd rfl z)
    walk_at "rd"
    cases r1 with
    | non => exact h1 rfl
    | bl b => exact h2 (fun z => by cases z)
    | int b => exact h2 (fun z => by cases z)
    | str b => exact h2 (fun z => by cases z)
    | tup e r => exact h2 (fun z => by cases z)
    | lst s e r => exact h2 (fun z => by cases z)
  | bl b =>
    walk_at "rd"
    refine k_isi (.bl b) kit_bool_bool ?_
    walk_at "rd"
    cases r1 with
    | non =>
      refine k_isi .non kit_NoneType_bool ?_
      walk_at "rd"
      exact h2 (fun z => by cases z)
    | bl c =>
      refine k_isi (.bl c) kit_bool_bool ?_
      walk_at "rd"
      by_cases z : c = b
      · rw [decide_eq_true z]
        exact h1 (by rw [z])
      · rw [decide_eq_false z]
        exact h2 (fun q => z (Dat.bool.inj q))
    | int c =>
      refine k_isi (.int c) kit_int_bool ?_
      walk_at "rd"
      exact h2 (fun z => by cases z)
    | str c =>
      refine k_isi (.str c) kit_str_bool ?_
      walk_at "rd"
      exact h2 (fun z => by cases z)
    | tup e r =>
      refine k_isi (.tup e) kit_tuple_bool ?_
      walk_at "rd"
      exact h2 (fun z => by cases z)
    | lst s e r =>
      refine k_isi (.lst e) kit_list_bool ?_
      walk_at "rd"
      exact h2 (fun z => by cases z)
  | int b =>
    walk_at "rd"
    refine k_isi (.int b) kit_int_bool ?_
    walk_at "rd"
    refine k_isi (.int b) kit_int_int ?_
    walk_at "rd"
    cases r1 with
    | non =>
      refine k_isi .non kit_NoneType_int ?_
      walk_at "rd"
      exact h2 (fun z => by cases z)
    | bl c =>
      refine k_isi (.bl c) kit_bool_int ?_
      walk_at "rd"
      refine k_isi (.bl c) kit_bool_bool ?_
      walk_at "rd"
      exact h2 (fun z => by cases z)
    | int c =>
      refine k_isi (.int c) kit_int_int ?_
      walk_at "rd"
      refine k_isi (.int c) kit_int_bool ?_
      walk_at "rd"
      by_cases z : c = b
      · rw [decide_eq_true z]
        exact h1 (by rw [z])
      · rw [decide_eq_false z]
        exact h2 (fun q => z (Dat.int.inj q))
    | str c =>
      refine k_isi (.str c) kit_str_int ?_
      walk_at "rd"
      exact h2 (fun z => by cases z)
    | tup e r =>
      refine k_isi (.tup e) kit_tuple_int ?_
      walk_at "rd"
      exact h2 (fun z => by cases z)
    | lst s e r =>
      refine k_isi (.lst e) kit_list_int ?_
      walk_at "rd"
      exact h2 (fun z => by cases z)
  | str b =>
    walk_at "rd"
    refine k_isi (.str b) kit_str_bool ?_
    walk_at "rd"
    refine k_isi (.str b) kit_str_int ?_
    walk_at "rd"
    refine k_isi (.str b) kit_str_str ?_
    walk_at "rd"
    cases r1 with
    | non =>
      refine k_isi .non kit_NoneType_str ?_
      walk_at "rd"
      exact h2 (fun z => by cases z)
    | bl c =>
      refine k_isi (.bl c) kit_bool_str ?_
      walk_at "rd"
      exact h2 (fun z => by cases z)
    | int c =>
      refine k_isi (.int c) kit_int_str ?_
      walk_at "rd"
      exact h2 (fun z => by cases z)
    | str c =>
      refine k_isi (.str c) kit_str_str ?_
      walk_at "rd"
      by_cases z : c = b
      · rw [decide_eq_true z]
        exact h1 (by rw [z])
      · rw [decide_eq_false z]
        exact h2 (fun q => z (Dat.str.inj q))
    | tup e r =>
      refine k_isi (.tup e) kit_tuple_str ?_
      walk_at "rd"
      exact h2 (fun z => by cases z)
    | lst s e r =>
      refine k_isi (.lst e) kit_list_str ?_
      walk_at "rd"
      exact h2 (fun z => by cases z)
  | tup e r => exact absurd rfl (n1 _)
  | lst s e r => exact absurd rfl (n2 _)
theorem rd_same0 {K : PySem.W.Frag} {vs : List V} {H : Hp} {Q : VK} {E : XK} {N : List Str} (hN : N.length = 3) (h : spSame K 0 vs H Q E) : t_same0 K (ends Q) (L2.start N vs) H := by
  obtain ⟨v1, v2, d1, d2, rfl, r1, r2, ok, h1, h2⟩ := h
  rw [show L2.start N [v1, v2] = [some v1, some v2, none] by unfold L2.start; rw [hN]; rfl]
  have n1 : ∀ ds, d2 ≠ .tuple ds := fun ds z => by rw [z] at ok; cases ok
  have n2 : ∀ ds, d2 ≠ .list ds := fun ds z => by rw [z] at ok; cases ok
  have fin := rd_scal (u := none) r1 r2 n1 n2 h1 h2
  unfold t_same0
  cases r2 with
  | non =>
    walk_at "rd"
    refine k_isi .non kit_NoneType_tuple ?_
    walk_at "rd"
    refine k_isi .non kit_NoneType_list ?_
    walk_at "rd"
    exact fin
  | bl b =>
    walk_at "rd"
    refine k_isi (.bl b) kit_bool_tuple ?_
    walk_at "rd"
    refine k_isi (.bl b) kit_bool_list ?_
    walk_at "rd"
    exact fin
  | int b =>
    walk_at "rd"
    refine k_isi (.int b) kit_int_tuple ?_
    walk_at "rd"
    refine k_isi (.int b) kit_int_list ?_
    walk_at "rd"
    exact fin
  | str b =>
    walk_at "rd"
    refine k_isi (.str b) kit_str_tuple ?_
    walk_at "rd"
    refine k_isi (.str b) kit_str_list ?_
    walk_at "rd"
    exact fin
  | tup e r => exact absurd rfl (n1 _)
  | lst s e r => exact absurd rfl (n2 _)
end Sm

namespace Vs
open PySem L2 Fr G1 Sm
open PySem.W (Dat kqdOk)
def insH (hs : List (List Int)) (h : List Int) : List (List Int) := if h ∈ hs then hs else hs ++ [h]
def hddF (hs : List (List Int)) (ts : List Tn) : List (List Int) := ts.foldl (fun hs t => insH (insH hs t.fr) t.to) hs
def hdd (ts : List Tn) : List (List Int) := hddF [] ts
theorem insH_len (hs : List (List Int)) (h : List Int) : (insH hs h).length ≤ hs.length + 1 := by
  unfold insH
  split
  · walk_at "om"
  · simp
theorem hddF_len : ∀ (ts : List Tn) (hs : List (List Int)), (hddF hs ts).length ≤ hs.length + 2 * ts.length
  | [], hs => by simp [hddF]
  | t :: ts, hs => by
    have h1 := hddF_len ts (insH (insH hs t.fr) t.to)
    have h2 := insH_len (insH hs t.fr) t.to
    have h3 := insH_len hs t.fr
    show (hddF (insH (insH hs t.fr) t.to) ts).length ≤ _
    rw [List.length_cons]
    walk_at "om"
theorem hddF_snoc (hs : List (List Int)) (ts : List Tn) (t : Tn) : hddF hs (ts ++ [t]) = insH (insH (hddF hs ts) t.fr) t.to := by
  unfold hddF
  rw [List.foldl_append]
  rfl
def toK (h : List Int) : List Key := h.map Sum.inl
theorem toK_kV (h : List Int) : (toK h).map kV = h.map V.int := by
  unfold toK
  rw [List.map_map]
  rfl
theorem toK_inj {a b : List Int} (h : toK a = toK b) : a = b := (List.map_inj_right (fun x y e => Sum.inl.inj e)).mp h
theorem putK_keys {kvs : List (List Key × V)} {hs : List (List Int)} (e : kvs.map (·.1) = hs.map toK) (h : List Int) (v : V) : (putK kvs (toK h) v).map (·.1) = (insH hs h).map toK := by
  have any : (kvs.any fun kv => decide (kv.1 = toK h)) = decide (h ∈ hs) := by
    rw [Bool.eq_iff_iff, List.any_eq_true, decide_eq_true_iff]
    constructor
    · rintro ⟨kv, hm, q⟩
      have : kv.1 ∈ hs.map toK := by rw [← e]; exact List.mem_map.mpr ⟨kv, hm, rfl⟩
      obtain ⟨g, hg, eg⟩ := List.mem_map.mp this
      rw [of_decide_eq_true q] at eg
      rw [← toK_inj eg]
      exact hg
    · intro hm
      have : toK h ∈ kvs.map (·.1) := by rw [e]; exact List.mem_map.mpr ⟨h, hm, rfl⟩
      obtain ⟨kv, hk, ek⟩ := List.mem_map.mp this
      exact ⟨kv, hk, decide_eq_true ek⟩
  unfold putK insH
  rw [any]
  by_cases z : h ∈ hs
  · rw [if_pos z, decide_eq_true z, if_pos rfl, List.map_map, ← e]
    refine List.map_congr_left fun kv _ => ?_
    show (if kv.1 = toK h then (kv.1, v) else kv).1 = kv.1
    split <;> rfl
  · rw [if_neg z, decide_eq_false z, if_neg Bool.false_ne_true, List.map_append, List.map_append, e]
    rfl
theorem keys_rz {K : PySem.W.Frag} {H : Hp} : ∀ {kvs : List (List Key × V)} {hs : List (List Int)} {bs : List Addr}, kvs.map (·.1) = hs.map toK → Paired (fun (p : List Key × V) b => H b = some (.tup (p.1.map kV))) kvs bs → RzL K H (bs.map V.ref) (hs.map dI)
  | [], [], _, _, .nil => .nil
  | [], h :: hs, _, e, _ => by simp at e
  | kv :: kvs, [], _, e, _ => by simp at e
  | kv :: kvs, h :: hs, _, e, .cons q t => by
    have e1 : kv.1 = toK h := (List.cons.inj e).1
    have e2 := (List.cons.inj e).2
    rw [e1, toK_kV] at q
    exact .cons (.tup q (RpL.ints h)) (keys_rz e2 t)
def spHeapsOf (K : PySem.W.Frag) : Sp := fun vs H Q _ => ∃ (v : V) (ts : List Tn), vs = [v] ∧ Rz K H v (.tuple (ts.map dT)) ∧ ts.length ≤ 100 ∧ ∀ (p : Addr) (H' : Hp), AccZ K H p H' ((hdd ts).map dI) → Q (.ref p) H'
theorem len_heapsOf {K : PySem.W.Frag} {vs : List V} {H : Hp} {Q : VK} {E : XK} {x : Str} (h : spHeapsOf K vs H Q E) : vs.length = [x].length := by
  obtain ⟨a, b, rfl, _⟩ := h
  rfl
def t_heapsOf (K : PySem.W.Frag) : TS := (tSeq (tAsg tDNewT (gName 1))
  (tSeq (tFor (iTup K (tVar 0)) (gName 2)
  (tSeq (sDPut (tVar 1) (tOp (rIxT K) (tVar 2) (tC (.int 0))) (tC (.bl true)))
  (sDPut (tVar 1) (tOp (rIxT K) (tVar 2) (tC (.int 1))) (tC (.bl true)))))
  (tRet (tCB rListD (tCons (tVar 1) tNil)))))
theorem dT_at {K : PySem.W.Frag} {H : Hp} {v : V} {t : Tn} (h : Rz K H v (dT t)) : ∃ (a : Addr) (v1 v2 v3 : V), v = .ref a ∧ H a = some (.tup [v1, v2, v3]) ∧ Rz K H v1 (dI t.fr) ∧ Rz K H v2 (dI t.to) ∧ Rz K H v3 (dI [t.q, t.d]) := by
  obtain ⟨a, xs, e, ha, r⟩ := h.tup_at
  cases r with
  | cons r1 r =>
    cases r with
    | cons r2 r =>
      cases r with
      | cons r3 r =>
        cases r
        exact ⟨a, _, _, _, e, ha, r1, r2, r3⟩
theorem dI_at {K : PySem.W.Frag} {H : Hp} {v : V} {ns : List Int} (h : Rz K H v (dI ns)) : ∃ a : Addr, v = .ref a ∧ H a = some (.tup (ns.map V.int)) := by
  obtain ⟨a, xs, e, ha, r⟩ := h.tup_at
  rw [RpL.ints_of r] at ha
  exact ⟨a, e, ha⟩
theorem rd_heapsOf {K : PySem.W.Frag} {vs : List V} {H : Hp} {Q : VK} {E : XK} {N : List Str} (hN : N.length = 3) (h : spHeapsOf K vs H Q E) : t_heapsOf K (ends Q) (L2.start N vs) H := by
  obtain ⟨v, ts, rfl, rv, hl, k⟩ := h
  obtain ⟨a, xs, rfl, ha, rx⟩ := rv.tup_at
  rw [show L2.start N [.ref a] = [some (.ref a), none, none] by unfold L2.start; rw [hN]; rfl]
  have lx : xs.length = ts.length := by rw [rx.length, List.length_map]
  unfold t_heapsOf
  walk_at "rd"
  intro d nd
  walk_at "rd"
  refine k_rtF (SqT.of ((same_new nd _) _ _ ha)) ?_
  refine fat_tup (xs := xs) (fun i σ H2 => ∃ (kvs : List (List Key × V)) (u : Option V), σ = [some (.ref a), some (.ref d), u] ∧ Same H H2 ∧ H2 d = some (.dT kvs) ∧ kvs.map (·.1) = (hdd (ts.take i)).map toK) ⟨[], none, rfl, same_new nd _, upd_same, rfl⟩ ?_ ?_ ?_
  · rintro i σ H2 _ ⟨kvs, u, rfl, S, ed, ek⟩
    exact SqT.of (S _ _ ha)
  · rintro i z σ H2 hz ⟨kvs, u, rfl, S, ed, ek⟩
    obtain ⟨dd, g1, g2⟩ := rx.get hz
    rw [List.getElem?_map] at g1
    obtain ⟨t, ht, rfl⟩ := Option.map_eq_some_iff.mp g1
    obtain ⟨at_, v1, v2, v3, rfl, hat, r1, r2, _⟩ := dT_at (g2.same S)
    obtain ⟨b1, rfl, hb1⟩ := dI_at r1
    obtain ⟨b2, rfl, hb2⟩ := dI_at r2
    have ti : i < ts.length := (List.getElem?_eq_some_iff.mp ht).1
    have kl : kvs.length = (hdd (ts.take i)).length := by have := congrArg List.length ek; simpa using this
    have hl2 := hddF_len (ts.take i) []
    rw [List.length_take] at hl2
    have kl2 : kvs.length ≤ 2 * i := by rw [kl]; unfold hdd; simp only [List.length_nil] at hl2; walk_at "om"
    have e1 := putK_keys ek t.fr (.bl true)
    have e2 := putK_keys e1 t.to (.bl true)
    have le1 := length_putK kvs (toK t.fr) (.bl true)
    have n1 : b1 ≠ d := ne_of hb1 ed (by intro z; cases z)
    have n2 : b2 ≠ d := ne_of hb2 ed (by intro z; cases z)
    have n3 : at_ ≠ d := ne_of hat ed (by intro z; cases z)
    walk_at "rd"
    refine k_ixT (SqT.of hat) (v := .ref b1) rfl ?_
    refine ⟨d, _, rfl, DPut.t ed (k := toK t.fr) (by rw [toK_kV]; exact hb1) (small1000 (by walk_at "om")), ?_⟩
    walk_at "rd"
    refine k_ixT (SqT.of (by rw [upd_ne n3]; exact hat)) (v := .ref b2) rfl ?_
    refine ⟨d, _, rfl, DPut.t upd_same (k := toK t.to) (by rw [toK_kV, upd_ne n2]; exact hb2) (small1000 (by walk_at "om")), ?_⟩
    rw [upd_upd]
    refine ⟨_, _, rfl, fun b o q => ?_, upd_same, ?_⟩
    · rw [upd_ne (ne_of_none q nd)]
      exact S _ _ q
    · rw [e2]
      congr 1
      have et : ts.take (i + 1) = ts.take i ++ [t] := by rw [List.take_add_one, ht]; rfl
      rw [et]
      exact (hddF_snoc [] (ts.take i) t).symm
  · rintro σ H2 ⟨kvs, u, rfl, S, ed, ek⟩
    rw [lx, List.take_of_length_le (Nat.le_refl _)] at ek
    walk_at "rd"
    refine ⟨d, kvs, rfl, ed, fun l bs nl pr => ?_⟩
    have S2 := same_new nl (.lst (bs.map V.ref))
    exact k l _ ⟨S.trans S2, S.free nl, _, upd_same, (keys_rz ek pr).same S2⟩
def spHeaps (K : PySem.W.Frag) : Sp := fun vs H Q _ => ∃ (v : V) (ws : List Str) (ts : List Tn), vs = [v] ∧ Rz K H v (dV ws ts) ∧ ts.length ≤ 100 ∧ ∀ (p : Addr) (H' : Hp), AccZ K H p H' ((hdd ts).map dI) → Q (.ref p) H'
theorem len_heaps {K : PySem.W.Frag} {vs : List V} {H : Hp} {Q : VK} {E : XK} {x : Str} (h : spHeaps K vs H Q E) : vs.length = [x].length := by
  obtain ⟨a, b, c, rfl, _⟩ := h
  rfl
theorem dV_at {K : PySem.W.Frag} {H : Hp} {v : V} {ws : List Str} {ts : List Tn} (h : Rz K H v (dV ws ts)) : ∃ (a : Addr) (v1 v2 : V), v = .ref a ∧ H a = some (.tup [v1, v2]) ∧ Rz K H v1 (.tuple (ws.map Dat.str)) ∧ Rz K H v2 (.tuple (ts.map dT)) := by
  obtain ⟨a, xs, e, ha, r⟩ := h.tup_at
  cases r with
  | cons r1 r =>
    cases r with
    | cons r2 r =>
      cases r
      exact ⟨a, _, _, e, ha, r1, r2⟩
def t_heaps (K : PySem.W.Frag) : TS := (tRet (tCall (spHeapsOf K) [] E0 (tCons (tOp (rIxT K) (tVar 0) (tC (.int 1))) tNil)))
theorem rd_heaps {K : PySem.W.Frag} {vs : List V} {H : Hp} {Q : VK} {E : XK} {N : List Str} (hN : N.length = 1) (h : spHeaps K vs H Q E) : t_heaps K (ends Q) (L2.start N vs) H := by
  obtain ⟨v, ws, ts, rfl, rv, hl, k⟩ := h
  obtain ⟨a, v1, v2, rfl, ha, r1, r2⟩ := dV_at rv
  rw [show L2.start N [.ref a] = [some (.ref a)] by unfold L2.start; rw [hN]; rfl]
  unfold t_heaps
  walk_at "rd"
  refine k_ixT (SqT.of ha) (v := v2) rfl ?_
  exact ⟨v2, ts, rfl, r2, hl, k⟩
end Vs

namespace G2
open PySem L2 Fr G1
open PySem.W (Dat kqdOk)
def Mx2 (n : Int) : Prop := 0 ≤ n ∧ n < 2147483587
def spMix2 : Sp := fun vs H Q _ => ∃ c p : Int, vs = [.int c, .int p] ∧ 0 ≤ p ∧ p ≤ 1000 ∧ ∀ m : Int, Mx2 m → Q (.int m) H
theorem len_mix2 {vs : List V} {H : Hp} {Q : VK} {E : XK} {y z : Str} (h : spMix2 vs H Q E) : vs.length = [y, z].length := by
  obtain ⟨a, b, rfl, _⟩ := h
  rfl
def t_mix2 (K : PySem.W.Frag) : TS := (tSeq (tAsg (tOp rMod (tOp qAdd (tOp qAdd (tOp (rI CMul fun i j => .int (i * j)) (tOp rMod (tVar 0) (tC (.int 2147483629))) (tC (.int 16807))) (tOp (rI CMul fun i j => .int (i * j)) (tC (.int 69621)) (tVar 1))) (tC (.int 11))) (tC (.int 2147483629))) (gName 2))
  (tSeq (tAsg (tOp rMod (tOp qAdd (tOp qAdd (tOp (rI CMul fun i j => .int (i * j)) (tVar 2) (tVar 2)) (tOp (rI CMul fun i j => .int (i * j)) (tC (.int 48271)) (tVar 1))) (tC (.int 7))) (tC (.int 2147483629))) (gName 2))
  (tRet (tOp rMod (tOp qAdd (tOp (rI CMul fun i j => .int (i * j)) (tVar 2) (tVar 2)) (tC (.int 69621))) (tC (.int 2147483587))))))
theorem rd_mix2 {K : PySem.W.Frag} {vs : List V} {H : Hp} {Q : VK} {E : XK} {N : List Str} (hN : N.length = 3) (h : spMix2 vs H Q E) : t_mix2 K (ends Q) (L2.start N vs) H := by
  obtain ⟨c, p, rfl, h0, h1, k⟩ := h
  rw [show L2.start N [.int c, .int p] = [some (.int c), some (.int p), none] by unfold L2.start; rw [hN]; rfl]
  unfold t_mix2
  walk_at "rd"
  generalize hx : (c % 2147483629 * 16807 + 69621 * p + 11) % 2147483629 = x
  have x0 : 0 ≤ x ∧ x < 2147483629 := by walk_at "om"
  walk_at "rd"
  generalize hy : (x * x + 48271 * p + 7) % 2147483629 = y
  have y0 : 0 ≤ y ∧ y < 2147483629 := by walk_at "om"
  walk_at "rd"
  exact k _ ⟨by walk_at "om", by walk_at "om"⟩
def t_div2 (K : PySem.W.Frag) : TS := (tSeq (tWhile (tTest (tOp rNe (tVar 1) (tC (.int 0))))
  (tPar 0 1 (tCons (tVar 1) (tCons (tOp rModN (tVar 0) (tVar 1)) tNil))))
  (tRet (tCB rAbs (tCons (tVar 0) tNil))))
theorem rd_div2 {K : PySem.W.Frag} {vs : List V} {H : Hp} {Q : VK} {E : XK} {N : List Str} (hN : N.length = 2) (h : spDiv vs H Q E) : t_div2 K (ends Q) (L2.start N vs) H := by
  obtain ⟨a, b, rfl, k⟩ := h
  rw [show L2.start N [.int a, .int b] = [some (.int a), some (.int b)] by unfold L2.start; rw [hN]; rfl]
  unfold t_div2
  refine while_by (fun σ H' => H' = H ∧ ∃ i j : Int, σ = [some (.int i), some (.int j)] ∧ Gd.gd i j = Gd.gd a b)
    (fun σ _ => match σ with | [_, some (.int j)] => j.natAbs | _ => 0) ⟨rfl, a, b, rfl, rfl⟩ ?_ ?_
  · rintro σ H' ⟨rfl, i, j, rfl, e⟩
    refine ⟨_, rfl, rfl, _, rfl, iteNE (fun hj => ?_) (fun hj => ?_)⟩
    · refine ⟨_, rfl, _, rfl, _, rfl, _, _, rfl, rfl, hj, _, _, rfl, ⟨rfl, j, i.fmod j, rfl, (Gd.gd_turn i j).trans e⟩, ?_⟩
      exact Gd.gd_less hj
    · subst hj
      refine ⟨_, rfl, _, rfl, ?_⟩
      rw [Gd.gd_out, e]
      exact k
  · rintro σ H' R R' h ⟨v, e, sc, c, ec, q⟩
    exact ⟨v, e, sc, c, ec, h _ _ q⟩
def spPace2 (K : PySem.W.Frag) : Sp := fun vs H Q _ => ∃ a b : Int, vs = [.int a, .int b] ∧ ∀ (p : Addr) (q d : Int) (H' : Hp), Same H H' → PaceOk q d → Rz K H' (.ref p) (dI [q, d]) → Q (.ref p) H'
theorem len_pace2 {K : PySem.W.Frag} {vs : List V} {H : Hp} {Q : VK} {E : XK} {y z : Str} (h : spPace2 K vs H Q E) : vs.length = [y, z].length := by
  obtain ⟨a, b, rfl, _⟩ := h
  rfl
theorem p9 : (10 : Int) ^ (9 : Int).toNat = 1000000000 := by decide +kernel
theorem gd11 : Gd.gd 1 1 = 1 := by decide +kernel
def spWords2 (K : PySem.W.Frag) : Sp := fun vs H Q _ => ∃ n m : Int, vs = [.int n, .int m] ∧ 0 ≤ n ∧ 1 ≤ m ∧ m ≤ 5 ∧ ∀ (p : Addr) (H' : Hp) (ws : List Str), Same H H' → WordsOk ws → ws.length = m.toNat → Rz K H' (.ref p) (.tuple (ws.map Dat.str)) → Q (.ref p) H'
theorem len_words2 {K : PySem.W.Frag} {vs : List V} {H : Hp} {Q : VK} {E : XK} {y z : Str} (h : spWords2 K vs H Q E) : vs.length = [y, z].length := by
  obtain ⟨a, b, rfl, _⟩ := h
  rfl
theorem xyz_cut : ∀ j : Nat, j < 4 → (scut "xyz" none (some (j : Int))).length ≤ 3 ∧ Low (scut "xyz" none (some (j : Int))) := by
  intro j hj
  have sl := scut_len ("xyz" : Str) none (some (j : Int))
  have l3 : (("xyz" : Str)).length = 3 := by decide +kernel
  refine ⟨?_, low_cut ?_⟩
  · rw [sl]
    simp only [hiL, List.length_take, cl_len, l3, Option.getD]
    walk_at "om"
  · intro x hx
    have : (("xyz" : Str)).cps.toList = [120, 121, 122] := by decide +kernel
    rw [this] at hx
    simp only [List.mem_cons, List.not_mem_nil, or_false] at hx
    walk_at "om"
theorem app_list (a b : Str) : (a ++ b).cps.toList = a.cps.toList ++ b.cps.toList := by
  show (a.cps ++ b.cps).toList = _
  exact Array.toList_append
theorem low_app {a b : Str} (h1 : Low a) (h2 : Low b) : Low (a ++ b) := fun x hx => by
  rw [app_list] at hx
  rcases List.mem_append.mp hx with q | q
  · exact h1 x q
  · exact h2 x q
def t_words2 (K : PySem.W.Frag) : TS := (tSeq (tAsg (tC (.str "abcdefghijklmnopqrstuvwxyz")) (gName 2))
  (tSeq (tAsg (tLst tNil) (gName 3))
  (tSeq (tFor (iRng1 (tCons (tVar 1) tNil)) (gName 4)
  (tSeq (tAsg (tOp rIxS (tVar 2) (tOp rMod (tOp qAdd (tVar 0) (tOp (rI CMul fun i j => .int (i * j)) (tC (.int 5)) (tVar 4))) (tC (.int 26)))) (gName 5))
  (tDrop (tBM K "list" rAppend (tVar 3) (tCons (tOp rAddS (tOp rAddS (tVar 5) (tSl rSlS (tC (.str "xyz")) tNoPart (tPart (tOp rMod (tOp rDiv (tVar 0) (tC (.int 26))) (tC (.int 4)))))) (tOp rRepS (tVar 5) (tOp rMod (tOp rDiv (tVar 0) (tC (.int 104))) (tC (.int 2))))) tNil)))))
  (tRet (tCB (rTupOf K) (tCons (tVar 3) tNil))))))
theorem rd_words2 {K : PySem.W.Frag} {vs : List V} {H : Hp} {Q : VK} {E : XK} {N : List Str} (hN : N.length = 6) (h : spWords2 K vs H Q E) : t_words2 K (ends Q) (L2.start N vs) H := by
  obtain ⟨n, m, rfl, n0, m1, m5, k⟩ := h
  rw [show L2.start N [.int n, .int m] = [some (.int n), some (.int m), none, none, none, none] by unfold L2.start; rw [hN]; rfl]
  unfold t_words2
  walk_at "rd"
  refine ⟨by decide, fun l nl => ?_⟩
  walk_at "rd"
  refine fat_range (fun i σ H2 => ∃ (ws : List Str) (v4 v5 : Option V), σ = [some (.int n), some (.int m), some (.str az), some (.ref l), v4, v5] ∧ AccZ K H l H2 (ws.map Dat.str) ∧ ws.length = i ∧ WordsOk ws ∧
      ∀ (j : Nat) (w : Str), ws[j]? = some w → w.cps.toList[0]? = some (97 + ((n + 5 * (j : Int)) % 26).toNat))
    ⟨[], none, none, rfl, AccZ.start (Same.refl _) nl, rfl, ⟨List.nodup_nil, by simp⟩, by simp⟩ ?_ ?_
  · rintro i σ H2 hi ⟨ws, v4, v5, rfl, A, hl, hw, hj⟩
    have e0 : (0 : Int) + (i : Int) = (i : Int) := by walk_at "om"
    rw [e0]
    have f0 := Int.emod_nonneg (n + 5 * (i : Int)) (b := 26) (by walk_at "om")
    have f1 := Int.emod_lt_of_pos (n + 5 * (i : Int)) (b := 26) (by walk_at "om")
    walk_at "rd"
    refine k_ixS az_len (az_ix f0 f1) ?_
    have lf := low_one (c := 97 + ((n + 5 * (i : Int)) % 26).toNat) (by walk_at "om") (by walk_at "om")
    have len1 : (⟨#[97 + ((n + 5 * (i : Int)) % 26).toNat]⟩ : Str).length = 1 := rfl
    have hd1 : (⟨#[97 + ((n + 5 * (i : Int)) % 26).toNat]⟩ : Str).cps.toList[0]? = some (97 + ((n + 5 * (i : Int)) % 26).toNat) := rfl
    generalize hf : (⟨#[97 + ((n + 5 * (i : Int)) % 26).toNat]⟩ : Str) = fw at lf len1 hd1 ⊢
    walk_at "rd"
    refine ⟨A.ty, ?_⟩
    walk_at "rd"
    have j0 : 0 ≤ n / 26 % 4 := by walk_at "om"
    have ej : n / 26 % 4 = (((n / 26 % 4).toNat : Nat) : Int) := by walk_at "om"
    have xc := xyz_cut (n / 26 % 4).toNat (by walk_at "om")
    rw [← ej] at xc
    refine ⟨_, rfl, by decide +kernel, trivial, j0, ?_⟩
    generalize scut "xyz" none (some (n / 26 % 4)) = mid at xc ⊢
    refine k_addS (by rw [len1, show sizeLine = 16777216 by decide]; walk_at "om") ?_
    walk_at "rd"
    refine k_repS (by walk_at "om") ?_
    generalize he : (if n / 104 % 2 = 0 then Str.empty else fw) = tl
    have tlo : tl.length ≤ 1 ∧ Low tl := by
      rw [← he]
      split
      · exact ⟨by decide, fun x hx => by cases hx⟩
      · exact ⟨by walk_at "om", lf⟩
    have lnew : (fw ++ mid ++ tl).length = fw.length + mid.length + tl.length := by rw [strLen_append, strLen_append]
    refine k_addS (by rw [strLen_append, len1, show sizeLine = 16777216 by decide]; walk_at "om") ?_
    walk_at "rd"
    refine k_appZ A (.str _) (small1000 (by rw [List.length_map]; walk_at "om")) fun H3 A3 _ _ _ => ?_
    have hd2 : (fw ++ mid ++ tl).cps.toList[0]? = some (97 + ((n + 5 * (i : Int)) % 26).toNat) := by
      rw [app_list, app_list, List.append_assoc, List.getElem?_append_left (by rw [cl_len, len1]; walk_at "om")]
      exact hd1
    walk_at "rd"
    refine ⟨ws ++ [fw ++ mid ++ tl], _, _, rfl, by rw [List.map_append]; exact A3, by simp [hl], ⟨nodup_snoc hw.1 fun hx => ?_, all_snoc hw.2 ⟨by walk_at "om", by walk_at "om", low_app (low_app lf xc.2) tlo.2⟩⟩, fun j w e => ?_⟩
    · obtain ⟨j, hj1, hj2⟩ := List.mem_iff_getElem.mp hx
      have g := hj j _ (by rw [List.getElem?_eq_getElem hj1, hj2])
      rw [hd2] at g
      have g' := Option.some.inj g
      walk_at "om"
    · by_cases lt : j < ws.length
      · rw [List.getElem?_append_left lt] at e
        exact hj j w e
      · rw [List.getElem?_append_right (by walk_at "om")] at e
        have z : j - ws.length = 0 := by
          rcases Nat.eq_zero_or_pos (j - ws.length) with z | z
          · exact z
          · rw [List.getElem?_eq_none (by simp; walk_at "om")] at e
            cases e
        rw [z] at e
        have e' : fw ++ mid ++ tl = w := by simpa using e
        have ej2 : j = i := by walk_at "om"
        rw [← e', ej2]
        exact hd2
  · rintro σ H2 ⟨ws, v4, v5, rfl, A, hl, hw, hj⟩
    have e := AccZ.strs A
    walk_at "rd"
    refine k_tupL (SqL.of e) fun p np => ?_
    exact k p _ ws (A.same.trans (same_new np _)) hw hl (.tup upd_same (RpL.strs ws))
def spHeap2 (K : PySem.W.Frag) : Sp := fun vs H Q _ => ∃ (c k m t : Int) (pl : Bool), vs = [.int c, .int k, .int m, .int t, .bl pl] ∧ 0 ≤ k ∧ k ≤ 100 ∧ 0 ≤ m ∧ m ≤ 5 ∧ 2 ≤ t ∧ t ≤ 4 ∧ ∀ (p : Addr) (H' : Hp) (hs : List Int), Same H H' → HeapOk m.toNat hs → Rz K H' (.ref p) (dI hs) → Q (.ref p) H'
theorem len_heap2 {K : PySem.W.Frag} {vs : List V} {H : Hp} {Q : VK} {E : XK} {v w x y z : Str} (h : spHeap2 K vs H Q E) : vs.length = [v, w, x, y, z].length := by
  obtain ⟨a, b, c, d, e, rfl, _⟩ := h
  rfl
def t_heap2 (K : PySem.W.Frag) : TS := (tSeq (tAsg (tVar 0) (gName 5))
  (tSeq (tIfS (tTest (tOp rGt (tVar 1) (tC (.int 5))))
  (tAsg (tOp rDiv (tVar 0) (tC (.int 1024))) (gName 5))
  tNext)
  (tSeq (tAsg (tLst tNil) (gName 6))
  (tSeq (tFor (iRng1 (tCons (tVar 2) tNil)) (gName 7)
  (tIfS (tB (tVar 4))
  (tSeq (tDrop (tBM K "list" rAppend (tVar 6) (tCons (tOp rMod (tVar 5) (tVar 3)) tNil)))
  (tAsg (tOp rDiv (tVar 5) (tVar 3)) (gName 5)))
  (tDrop (tBM K "list" rAppend (tVar 6) (tCons (tOp rMod (tCall spMix2 [] E0 (tCons (tVar 0) (tCons (tOp qAdd (tOp (rI CMul fun i j => .int (i * j)) (tC (.int 5)) (tVar 1)) (tVar 7)) tNil))) (tVar 3)) tNil)))))
  (tRet (tCB (rTupOf K) (tCons (tVar 6) tNil)))))))
theorem rd_heap2 {K : PySem.W.Frag} {vs : List V} {H : Hp} {Q : VK} {E : XK} {N : List Str} (hN : N.length = 8) (h : spHeap2 K vs H Q E) : t_heap2 K (ends Q) (L2.start N vs) H := by
  obtain ⟨c, kk, m, t, pl, rfl, k0, k1, m0, m5, t2, t4, k⟩ := h
  rw [show L2.start N [.int c, .int kk, .int m, .int t, .bl pl] = [some (.int c), some (.int kk), some (.int m), some (.int t), some (.bl pl), none, none, none] by unfold L2.start; rw [hN]; rfl]
  unfold t_heap2
  walk_at "rd"
  -- behind the number
  have rest : ∀ z0 : Int, (tSeq (tAsg (tLst tNil) (gName 6)) (tSeq (tFor (iRng1 (tCons (tVar 2) tNil)) (gName 7)
  (tIfS (tB (tVar 4))
  (tSeq (tDrop (tBM K "list" rAppend (tVar 6) (tCons (tOp rMod (tVar 5) (tVar 3)) tNil)))
  (tAsg (tOp rDiv (tVar 5) (tVar 3)) (gName 5)))
  (tDrop (tBM K "list" rAppend (tVar 6) (tCons (tOp rMod (tCall spMix2 [] E0 (tCons (tVar 0) (tCons (tOp qAdd (tOp (rI CMul fun i j => .int (i * j)) (tC (.int 5)) (tVar 1)) (tVar 7)) tNil))) (tVar 3)) tNil)))))
  (tRet (tCB (rTupOf K) (tCons (tVar 6) tNil))))) (ends Q) [some (.int c), some (.int kk), some (.int m), some (.int t), some (.bl pl), some (.int z0), none, none] H := by
    intro z0
    walk_at "rd"
    refine ⟨by decide, fun l nl => ?_⟩
    walk_at "rd"
    refine fat_range (fun i σ H2 => ∃ (ns : List Int) (z : Int) (v : Option V), σ = [some (.int c), some (.int kk), some (.int m), some (.int t), some (.bl pl), some (.int z), some (.ref l), v] ∧ AccZ K H l H2 (ns.map Dat.int) ∧ HeapOk i ns) ⟨[], z0, none, rfl, AccZ.start (Same.refl _) nl, rfl, by simp⟩ ?_ ?_
    · rintro i σ H2 hi ⟨ns, z, v, rfl, A, hl, hb⟩
      have one : ∀ x : Int, HeapOk (i + 1) (ns ++ [x % t]) := fun x => ⟨by simp [hl], fun y hy => by
        rcases List.mem_append.mp hy with q | q
        · exact hb y q
        · rw [List.mem_singleton.mp q]
          have e1 := Int.emod_nonneg x (b := t) (by walk_at "om")
          have e2 := Int.emod_lt_of_pos x (b := t) (by walk_at "om")
          exact ⟨by walk_at "om", by walk_at "om"⟩⟩
      walk_at "rd"
      cases pl with
      | true =>
        walk_at "rd"
        refine ⟨A.ty, ?_⟩
        walk_at "rd"
        refine k_appZ A (.int _) (small1000 (by rw [List.length_map]; walk_at "om")) fun H3 A3 _ _ _ => ?_
        walk_at "rd"
        exact ⟨ns ++ [z % t], _, _, rfl, by simpa using A3, one z⟩
      | false =>
        walk_at "rd"
        refine ⟨A.ty, ?_⟩
        walk_at "rd"
        refine ⟨c, 5 * kk + (0 + (i : Int)), rfl, by walk_at "om", by walk_at "om", fun x hx => ?_⟩
        walk_at "rd"
        refine k_appZ A (.int _) (small1000 (by rw [List.length_map]; walk_at "om")) fun H3 A3 _ _ _ => ?_
        walk_at "rd"
        exact ⟨ns ++ [x % t], _, _, rfl, by simpa using A3, one x⟩
    · rintro σ H2 ⟨ns, z, v, rfl, A, hh⟩
      walk_at "rd"
      have e := AccZ.ints A
      refine k_tupL (SqL.of e) fun p np => ?_
      exact k p _ ns (A.same.trans (same_new np _)) hh (.tup upd_same (RpL.ints ns))
  refine k_ite (fun _ => ?_) (fun _ => ?_)
  · walk_at "rd1"
    walk_at "rd1"
    walk_at "rd1"
    walk_at "rd1"
    walk_at "rd1"
    walk_at "rd1"
    exact rest _
  · exact rest _
end G2

namespace G2
open PySem L2 Fr G1
open PySem.W (Dat kqdOk)
theorem acc_back {K : PySem.W.Frag} {H H3 H' : Hp} {l : Addr} {ds : List Dat} (S : Same H H3) (A : AccZ K H3 l H' ds) : AccZ K H l H' ds := ⟨S.trans A.same, S.free A.new, A.at_⟩
def spare (h1 : Int) (m : Nat) : List Int := (List.range m).map fun j => if j = 0 then (if decide (h1 = 0) = true then 1 else 0) else 0
def spPool2 (K : PySem.W.Frag) : Sp := fun vs H Q _ => ∃ (a : Addr) (ns : List Int) (t m s tp : Int) (pl : Bool), vs = [.ref a, .int t, .int m, .int s, .int tp, .bl pl] ∧ SqL K H a (ns.map V.int) ∧ 0 ≤ t ∧ 1 ≤ m ∧ m ≤ 5 ∧ 2 ≤ s ∧ s ≤ 8 ∧ 2 ≤ tp ∧ tp ≤ 4 ∧
  ∀ (p : Addr) (H' : Hp) (hs : List (List Int)), AccZ K H p H' (hs.map dI) → PoolOk m.toNat hs → 2 ≤ hs.length → hs.length ≤ 8 → Q (.ref p) H'
theorem len_pool2 {K : PySem.W.Frag} {vs : List V} {H : Hp} {Q : VK} {E : XK} {u v w x y z : Str} (h : spPool2 K vs H Q E) : vs.length = [u, v, w, x, y, z].length := by
  obtain ⟨a, b, c, d, e, f, g, rfl, _⟩ := h
  rfl
def t_pool2 (K : PySem.W.Frag) : TS := (tSeq (tAsg (tLst tNil) (gName 6))
  (tSeq (tFor (iRng1 (tCons (tVar 3) tNil)) (gName 7)
  (tSeq (tAsg (tCall (spHeap2 K) [] E0 (tCons (tCall (spCell K) [] E0 (tCons (tVar 0) (tCons (tOp qAdd (tVar 1) (tOp rMod (tVar 7) (tC (.int 6)))) tNil))) (tCons (tVar 7) (tCons (tVar 2) (tCons (tVar 4) (tCons (tVar 5) tNil)))))) (gName 8))
  (tIfS (tTest (tOp (rInD K true) (tVar 8) (tVar 6)))
  (tDrop (tBM K "list" rAppend (tVar 6) (tCons (tVar 8) tNil)))
  tNext)))
  (tSeq (tIfS (tTest (tOp rEq (tCB (rLenQ K) (tCons (tVar 6) tNil)) (tC (.int 1))))
  (tDrop (tBM K "list" rAppend (tVar 6) (tCons (tCB (rTupOf K) (tCons (tComp (iRng1 (tCons (tVar 2) tNil)) (tCB rInt1 (tCons (tAndV (tOp rEq (tVar 0) (tC (.int 0))) (tOp rEq (tOp (rIxT K) (tOp (rIxL K) (tVar 7) (tC (.int 0))) (tC (.int 0))) (tC (.int 0)))) tNil))) tNil)) tNil)))
  tNext)
  (tRet (tVar 6)))))
theorem rd_pool2 {K : PySem.W.Frag} {vs : List V} {H : Hp} {Q : VK} {E : XK} {N : List Str} (hN : N.length = 9) (h : spPool2 K vs H Q E) : t_pool2 K (ends Q) (L2.start N vs) H := by
  obtain ⟨a, ns, t, m, s, tp, pl, rfl, hS, t0, m1, m5, s2, s8, p2, p4, k⟩ := h
  rw [show L2.start N [.ref a, .int t, .int m, .int s, .int tp, .bl pl] = [some (.ref a), some (.int t), some (.int m), some (.int s), some (.int tp), some (.bl pl), none, none, none] by unfold L2.start; rw [hN]; rfl]
  unfold t_pool2
  walk_at "rd"
  refine ⟨by decide, fun l nl => ?_⟩
  walk_at "rd"
  refine fat_range (fun i σ H2 => ∃ (hs : List (List Int)) (v7 v8 : Option V), σ = [some (.ref a), some (.int t), some (.int m), some (.int s), some (.int tp), some (.bl pl), some (.ref l), v7, v8] ∧ AccZ K H l H2 (hs.map dI) ∧ hs.length ≤ i ∧ PoolOk m.toNat hs ∧ (0 < i → hs ≠ []))
    ⟨[], none, none, rfl, AccZ.start (Same.refl _) nl, Nat.le_refl _, ⟨List.nodup_nil, by simp⟩, by simp⟩ ?_ ?_
  · rintro i σ H2 hi ⟨hs, v7, v8, rfl, A, hl, hp, _⟩
    walk_at "rd"
    refine ⟨a, ns, t + (0 + (i : Int)) % 6, rfl, A.same.seq hS, by walk_at "om", ?_⟩
    generalize cellOf ns (t + (0 + (i : Int)) % 6) = c1
    walk_at "rd"
    refine ⟨c1, 0 + (i : Int), m, tp, pl, rfl, by walk_at "om", by walk_at "om", by walk_at "om", by walk_at "om", p2, p4, fun ph H4 h S4' oh rh => ?_⟩
    have A4 := A.on S4'
    walk_at "rd"
    refine k_notInD rh.rep A4.rep (fun e he => by obtain ⟨b, _, rfl⟩ := List.mem_map.mp he; exact ok_dI b 7) (ok_dI h 7) (fun nm => ?_) (fun mm => ?_)
    · walk_at "rd"
      refine ⟨A4.ty, ?_⟩
      walk_at "rd"
      refine k_appZ A4 rh (small1000 (by rw [List.length_map]; walk_at "om")) fun H5 A5 _ _ _ => ?_
      walk_at "rd"
      exact ⟨hs ++ [h], _, _, rfl, by rw [List.map_append]; exact A5, by simp; walk_at "om", ⟨nodup_snoc hp.1 fun z => nm (mem_dI.mpr z), all_snoc hp.2 oh⟩, by simp⟩
    · walk_at "rd"
      exact ⟨hs, _, _, rfl, A4, by walk_at "om", hp, fun _ z => by rw [z] at mm; cases mm⟩
  · rintro σ H2 ⟨hs, v7, v8, rfl, A, hl, hp, hne⟩
    have ne := hne (by walk_at "om")
    obtain ⟨xs, sx, lx, rx⟩ := A.sq
    rw [List.length_map] at lx
    walk_at "rd"
    refine k_lenL sx ?_
    walk_at "rd"
    refine k_ite (fun few => ?_) (fun few => ?_)
    · have l1 : hs.length = 1 := by walk_at "om"
      obtain ⟨h, rfl⟩ : ∃ x, hs = [x] := List.length_eq_one_iff.mp l1
      have oh := hp.2 h (by simp)
      obtain ⟨h1, hr, eh⟩ : ∃ h1 hr, h = h1 :: hr := List.exists_cons_of_length_pos (by have := oh.1; walk_at "om")
      obtain ⟨v, ev, rv⟩ := RpL.get' (i := 0) rx (d := dI h) rfl
      obtain ⟨ah, ys, e1, sh, rh⟩ := rv.tup_of
      cases e1
      cases RpL.ints_of rh
      walk_at "rd"
      refine ⟨A.ty, ?_⟩
      walk_at "rd"
      refine comp_range fun Dl nD => ⟨fun j H4 => AccZ K H2 Dl H4 ((spare h1 j).map Dat.int), AccZ.start (Same.refl _) nD, ?_, ?_⟩
      · intro j H4 hj B
        have put : ∀ x : Int, x = (if j = 0 then (if decide (h1 = 0) = true then 1 else 0) else 0) → EltK Dl m.toNat j (fun j H4 => AccZ K H2 Dl H4 ((spare h1 j).map Dat.int)) (.int x) H4 := by
          intro x ex
          refine pushed hj (B.pushK (.int x) (small1000 ?_) fun H5 B5 => ?_)
          · rw [List.length_map]
            unfold spare
            rw [List.length_map, List.length_range]
            walk_at "om"
          · show AccZ K H2 Dl H5 ((spare h1 (j + 1)).map Dat.int)
            unfold spare
            rw [List.range_succ, List.map_append, List.map_append, List.map_singleton, List.map_singleton, ← ex]
            exact B5
        walk_at "rd"
        refine k_ite (fun j0 => ?_) (fun j0 => ?_)
        · walk_at "rd"
          refine k_ixL (B.same.seq sx) (atI_nat (j := 0) ev) ?_
          walk_at "rd"
          refine k_ixT (B.same.seqT sh) (v := .int h1) (atI_nat (j := 0) (by rw [eh]; rfl)) ?_
          walk_at "rd"
          refine put _ ?_
          rw [if_pos (show j = 0 by walk_at "om")]
        · walk_at "rd"
          refine put _ ?_
          rw [if_neg (show ¬ j = 0 by walk_at "om")]
          rfl
      · intro H4 B
        have eB := AccZ.ints B
        walk_at "rd"
        refine k_tupL (SqL.of eB) fun p np => ?_
        walk_at "rd"
        have Sp := same_new np (.tup ((spare h1 m.toNat).map V.int))
        have A5 := (A.on B.same).on Sp
        refine k_appZ A5 (d := dI (spare h1 m.toNat)) (.tup upd_same (RpL.ints _)) (small1000 (by simp)) fun H6 A6 _ _ _ => ?_
        walk_at "rd"
        have e0 : (spare h1 m.toNat)[0]? = some (if decide (h1 = 0) = true then 1 else 0) := by
          unfold spare
          rw [List.getElem?_map, List.getElem?_range (by walk_at "om")]
          rfl
        refine k l H6 ([h] ++ [_]) (by rw [List.map_append]; exact A6) ⟨nodup_snoc hp.1 fun z => ?_, all_snoc hp.2 ⟨?_, fun x hx => ?_⟩⟩ (by simp) (by simp)
        · have z' := List.mem_singleton.mp z
          rw [z', eh] at e0
          have z2 : h1 = (if decide (h1 = 0) = true then 1 else 0) := Option.some.inj e0
          by_cases h10 : h1 = 0
          · rw [decide_eq_true h10] at z2
            simp at z2
            walk_at "om"
          · rw [decide_eq_false h10] at z2
            simp at z2
            walk_at "om"
        · unfold spare
          rw [List.length_map, List.length_range]
        · unfold spare at hx
          obtain ⟨j, _, rfl⟩ := List.mem_map.mp hx
          split
          · split <;> decide
          · decide
    · walk_at "rd"
      have : 0 < hs.length := List.length_pos_iff.mpr ne
      exact k l H2 hs A hp (by walk_at "om") (by walk_at "om")
def dI2 (p : Int × Int) : Dat := dI [p.1, p.2]
def FP (s : Int) (p : Int × Int) : Prop := 0 ≤ p.1 ∧ p.1 < s ∧ 0 ≤ p.2 ∧ p.1 ≠ p.2
def spPairs2 (K : PySem.W.Frag) : Sp := fun vs H Q _ => ∃ (a : Addr) (ns : List Int) (t s kd : Int) (pl : Bool), vs = [.ref a, .int t, .int s, .int kd, .bl pl] ∧ SqL K H a (ns.map V.int) ∧ 0 ≤ t ∧ 2 ≤ s ∧ s ≤ 8 ∧ 0 ≤ kd ∧ kd ≤ 3 ∧
  ∀ (p : Addr) (H' : Hp) (ps : List (Nat × Nat)), AccZ K H p H' (ps.map dP) → ps.Nodup → ps.length ≤ 8 → ps ≠ [] → (∀ q ∈ ps, PairOk s.toNat q) → Q (.ref p) H'
theorem len_pairs2 {K : PySem.W.Frag} {vs : List V} {H : Hp} {Q : VK} {E : XK} {v w x y z : Str} (h : spPairs2 K vs H Q E) : vs.length = [v, w, x, y, z].length := by
  obtain ⟨a, b, c, d, e, f, rfl, _⟩ := h
  rfl
def t_pairs2 (K : PySem.W.Frag) : TS := (tSeq (tAsg (tLst tNil) (gName 5))
  (tSeq (tFor (iRng1 (tCons (tVar 2) tNil)) (gName 6)
  (tSeq (tAsg (tOp rMod (tOp qAdd (tVar 6) (tC (.int 1))) (tVar 2)) (gName 7))
  (tSeq (tIfS (tAnd (tTest (tOp rEq (tVar 3) (tC (.int 3)))) (tTest (tOp rGt (tVar 2) (tC (.int 3)))))
  (tDrop (tBM K "list" rAppend (tVar 5) (tCons (tTup (tCons (tVar 6) (tCons (tOp qAdd (tOp (rI CMul fun i j => .int (i * j)) (tOp rDiv (tVar 6) (tC (.int 2))) (tC (.int 2))) (tOp rMod (tOp qAdd (tVar 6) (tC (.int 1))) (tC (.int 2)))) tNil))) tNil)))
  (tIfS (tTest (tOp rGt (tVar 3) (tC (.int 0))))
  (tDrop (tBM K "list" rAppend (tVar 5) (tCons (tTup (tCons (tVar 6) (tCons (tVar 7) tNil))) tNil)))
  tNext))
  (tIfS (tTest (tOp rEq (tVar 3) (tC (.int 2))))
  (tDrop (tBM K "list" rAppend (tVar 5) (tCons (tTup (tCons (tVar 7) (tCons (tVar 6) tNil))) tNil)))
  tNext))))
  (tSeq (tFor (iRng1 (tCons (tC (.int 8)) tNil)) (gName 6)
  (tSeq (tAsg (tCall (spCell K) [] E0 (tCons (tVar 0) (tCons (tOp qAdd (tVar 1) (tVar 6)) tNil))) (gName 8))
  (tIfS (tOr (tTest (tOp rEq (tVar 3) (tC (.int 0)))) (tTest (tOp rEq (tOp rMod (tVar 8) (tC (.int 5))) (tC (.int 1)))))
  (tSeq (tAsg (tOp rMod (tCall spMix2 [] E0 (tCons (tVar 8) (tCons (tC (.int 50)) tNil))) (tVar 2)) (gName 9))
  (tSeq (tAsg (tOp rMod (tCall spMix2 [] E0 (tCons (tVar 8) (tCons (tC (.int 51)) tNil))) (tOp qSub (tVar 2) (tC (.int 1)))) (gName 10))
  (tSeq (tIfS (tB (tVar 4))
  (tSeq (tAsg (tOp rMod (tOp rMod (tOp rDiv (tVar 8) (tC (.int 5))) (tC (.int 8))) (tVar 2)) (gName 9))
  (tAsg (tOp rMod (tOp rMod (tOp rDiv (tVar 8) (tC (.int 40))) (tC (.int 8))) (tOp qSub (tVar 2) (tC (.int 1)))) (gName 10)))
  tNext)
  (tDrop (tBM K "list" rAppend (tVar 5) (tCons (tTup (tCons (tVar 9) (tCons (tOp rMod (tOp qAdd (tOp qAdd (tVar 9) (tC (.int 1))) (tVar 10)) (tVar 2)) tNil))) tNil))))))
  tNext)))
  (tSeq (tAsg (tLst tNil) (gName 11))
  (tSeq (tFor (iList K (tVar 5)) (gTup K 2 (gCons (gName 9) (gCons (gName 12) gNil)))
  (tIfS (tAnd (tTest (tOp (rInD K true) (tTup (tCons (tVar 9) (tCons (tVar 12) tNil))) (tVar 11))) (tAnd (tTest (tOp rLt (tVar 12) (tVar 2))) (tTest (tOp rLt (tCB (rLenQ K) (tCons (tVar 11) tNil)) (tC (.int 8))))))
  (tDrop (tBM K "list" rAppend (tVar 11) (tCons (tTup (tCons (tVar 9) (tCons (tVar 12) tNil))) tNil)))
  tNext))
  (tRet (tVar 11)))))))
/-- a pair is made and joins the list -/
theorem k_pair {K : PySem.W.Frag} {H H2 : Hp} {l : Addr} {fs : List (Int × Int)} {x y : Int} {Q : VK} {σ : St} (A : AccZ K H l H2 (fs.map dI2)) (n : fs.length ≤ 100) (k : ∀ H3, AccZ K H l H3 ((fs ++ [(x, y)]).map dI2) → Q .non H3) :
    ([V.int x, .int y].length ≤ sizeLine ∧ ∀ p, H2 p = none → tNil σ (upd H2 p (.tup [.int x, .int y])) fun xs H3 => rAppend (.ref l) (.ref p :: xs) H3 Q) := by
  refine ⟨by show 2 ≤ sizeLine; decide, fun p np => ?_⟩
  have S := same_new np (.tup [V.int x, .int y])
  refine k_nil ?_
  refine k_appZ (A.on S) (d := dI2 (x, y)) (.tup upd_same (RpL.ints [x, y])) (small1000 (by rw [List.length_map]; walk_at "om")) fun H3 A3 _ _ _ => k H3 ?_
  rw [List.map_append]
  exact A3
theorem fp_snoc {s : Int} {fs : List (Int × Int)} {p : Int × Int} (h : ∀ q ∈ fs, FP s q) (n : FP s p) : ∀ q ∈ fs ++ [p], FP s q := all_snoc h n
theorem near2 {n u v : Int} (h1 : 0 ≤ u) (h2 : u < n) (h3 : 0 ≤ v) (h4 : v < n - 1) : (u + 1 + v) % n ≠ u := by
  intro e
  by_cases z : u + 1 + v < n
  · rw [Int.emod_eq_of_lt (by walk_at "om") z] at e
    walk_at "om"
  · have e2 : (u + 1 + v) % n = u + 1 + v - n := by
      rw [← Int.sub_emod_right, Int.emod_eq_of_lt (by walk_at "om") (by walk_at "om")]
    walk_at "om"
theorem ex_snoc {s : Int} {fs : List (Int × Int)} {p : Int × Int} (h : ∃ q ∈ fs, q.2 < s) : ∃ q ∈ fs ++ [p], q.2 < s := by
  obtain ⟨q, h1, h2⟩ := h
  exact ⟨q, List.mem_append_left _ h1, h2⟩
theorem ex_last {s : Int} {fs : List (Int × Int)} {p : Int × Int} (h : p.2 < s) : ∃ q ∈ fs ++ [p], q.2 < s := ⟨p, List.mem_append_right _ (List.mem_singleton.mpr rfl), h⟩
theorem rd_pairs2 {K : PySem.W.Frag} {vs : List V} {H : Hp} {Q : VK} {E : XK} {N : List Str} (hN : N.length = 13) (h : spPairs2 K vs H Q E) : t_pairs2 K (ends Q) (L2.start N vs) H := by
  obtain ⟨a, ns, t, s, kd, pl, rfl, hS, t0, s2, s8, k0, k3, k⟩ := h
  rw [show L2.start N [.ref a, .int t, .int s, .int kd, .bl pl] = [some (.ref a), some (.int t), some (.int s), some (.int kd), some (.bl pl), none, none, none, none, none, none, none, none] by unfold L2.start; rw [hN]; rfl]
  unfold t_pairs2
  walk_at "rd"
  refine ⟨by decide, fun l nl => ?_⟩
  walk_at "rd"
  refine fat_range (fun i σ H2 => ∃ (fs : List (Int × Int)) (v6 v7 : Option V), σ = [some (.ref a), some (.int t), some (.int s), some (.int kd), some (.bl pl), some (.ref l), v6, v7, none, none, none, none, none] ∧ AccZ K H l H2 (fs.map dI2) ∧ fs.length ≤ 2 * i ∧ (∀ q ∈ fs, FP s q) ∧ (0 < i → 0 < kd → ∃ q ∈ fs, q.2 < s))
    ⟨[], none, none, rfl, AccZ.start (Same.refl _) nl, Nat.le_refl _, by simp, by simp⟩ ?_ ?_
  · rintro i σ H2 hi ⟨fs, v6, v7, rfl, A, hl, hf, hx⟩
    have i8 : (i : Int) < s := by walk_at "om"
    have hm0 := Int.emod_nonneg (0 + (i : Int) + 1) (b := s) (by walk_at "om")
    have hm1 := Int.emod_lt_of_pos (0 + (i : Int) + 1) (b := s) (by walk_at "om")
    have hne : (0 + (i : Int) + 1) % s ≠ 0 + (i : Int) := by
      have z := near2 (n := s) (u := 0 + (i : Int)) (v := 0) (by walk_at "om") (by walk_at "om") (by walk_at "om") (by walk_at "om")
      rw [Int.add_zero] at z
      exact z
    -- the ring's way back
    have back : ∀ (gs : List (Int × Int)) (H3 : Hp) (D' : Ends), AccZ K H l H3 (gs.map dI2) → gs.length ≤ 2 * i + 1 → (∀ q ∈ gs, FP s q) → (0 < kd → ∃ q ∈ gs, q.2 < s) →
        (∀ σ' H', (∃ (fs : List (Int × Int)) (v6 v7 : Option V), σ' = [some (.ref a), some (.int t), some (.int s), some (.int kd), some (.bl pl), some (.ref l), v6, v7, none, none, none, none, none] ∧ AccZ K H l H' (fs.map dI2) ∧ fs.length ≤ 2 * (i + 1) ∧ (∀ q ∈ fs, FP s q) ∧ (0 < i + 1 → 0 < kd → ∃ q ∈ fs, q.2 < s)) → D'.nx σ' H') →
        (tIfS (tTest (tOp rEq (tVar 3) (tC (.int 2))))
          (tDrop (tBM K "list" rAppend (tVar 5) (tCons (tTup (tCons (tVar 7) (tCons (tVar 6) tNil))) tNil))) tNext) D' [some (.ref a), some (.int t), some (.int s), some (.int kd), some (.bl pl), some (.ref l), some (.int (0 + (i : Int))), some (.int ((0 + (i : Int) + 1) % s)), none, none, none, none, none] H3 := by
      intro gs H3 D' B lg fg xg fin
      walk_at "rd"
      refine k_ite (fun _ => ?_) (fun _ => ?_)
      · walk_at "rd"
        refine ⟨B.ty, ?_⟩
        walk_at "rd"
        refine k_pair B (by walk_at "om") fun H4 B4 => ?_
        exact fin _ _ ⟨_, _, _, rfl, B4, by simp; walk_at "om", fp_snoc fg ⟨hm0, hm1, by dsimp only; walk_at "om", fun e => hne e⟩, fun _ z => ex_snoc (xg z)⟩
      · walk_at "rd"
        exact fin _ _ ⟨gs, _, _, rfl, B, by walk_at "om", fg, fun _ z => xg z⟩
    walk_at "rd"
    refine k_ite (fun e3 => ?_) (fun e3 => ?_)
    · walk_at "rd"
      refine k_ite (fun s3 => ?_) (fun s3 => ?_)
      · walk_at "rd"
        refine ⟨A.ty, ?_⟩
        walk_at "rd"
        refine k_pair A (by walk_at "om") fun H3 B => ?_
        refine back _ _ _ B (by simp; walk_at "om") (fp_snoc hf ⟨by dsimp only; walk_at "om", by dsimp only; walk_at "om", by dsimp only; walk_at "om", by dsimp only; walk_at "om"⟩) (fun z => ?_) fun σ' H' z => z
        by_cases i0 : 0 < i
        · exact ex_snoc (hx i0 z)
        · exact ex_last (by dsimp only; walk_at "om")
      · walk_at "rd"
        refine k_ite (fun _ => ?_) (fun z => absurd z (by walk_at "om"))
        walk_at "rd"
        refine ⟨A.ty, ?_⟩
        walk_at "rd"
        refine k_pair A (by walk_at "om") fun H3 B => ?_
        exact back _ _ _ B (by simp; walk_at "om") (fp_snoc hf ⟨by dsimp only; walk_at "om", by dsimp only; walk_at "om", hm0, fun e => hne e.symm⟩) (fun z => ex_last hm1) fun σ' H' z => z
    · walk_at "rd"
      refine k_ite (fun kp => ?_) (fun kp => ?_)
      · walk_at "rd"
        refine ⟨A.ty, ?_⟩
        walk_at "rd"
        refine k_pair A (by walk_at "om") fun H3 B => ?_
        exact back _ _ _ B (by simp; walk_at "om") (fp_snoc hf ⟨by dsimp only; walk_at "om", by dsimp only; walk_at "om", hm0, fun e => hne e.symm⟩) (fun z => ex_last hm1) fun σ' H' z => z
      · exact back fs _ _ A (by walk_at "om") hf (fun z => absurd z kp) fun σ' H' z => z
  rintro σ H2 ⟨fs, v6, v7, rfl, A, hl, hf, hx⟩
  have s8' : s.toNat ≤ 8 := by walk_at "om"
  walk_at "rd"
  refine fat_range (fun i σ H3 => ∃ (gs : List (Int × Int)) (u6 u7 u8 u9 u10 : Option V), σ = [some (.ref a), some (.int t), some (.int s), some (.int kd), some (.bl pl), some (.ref l), u6, u7, u8, u9, u10, none, none] ∧ AccZ K H l H3 (gs.map dI2) ∧ gs.length ≤ 16 + i ∧ (∀ q ∈ gs, FP s q) ∧ (0 < kd ∨ 0 < i → ∃ q ∈ gs, q.2 < s))
    ⟨fs, v6, v7, none, none, none, rfl, A, by walk_at "om", hf, fun z => hx (by walk_at "om") (by walk_at "om")⟩ ?_ ?_
  · rintro i σ H3 hi ⟨gs, u6, u7, u8, u9, u10, rfl, B, lg, fg, xg⟩
    walk_at "rd"
    refine ⟨a, ns, t + (0 + (i : Int)), rfl, B.same.seq hS, by walk_at "om", ?_⟩
    generalize cellOf ns (t + (0 + (i : Int))) = c
    -- a drawn pair
    have draw : ∀ (D' : Ends), (∀ σ' H', (∃ (gs : List (Int × Int)) (u6 u7 u8 u9 u10 : Option V), σ' = [some (.ref a), some (.int t), some (.int s), some (.int kd), some (.bl pl), some (.ref l), u6, u7, u8, u9, u10, none, none] ∧ AccZ K H l H' (gs.map dI2) ∧ gs.length ≤ 16 + (i + 1) ∧ (∀ q ∈ gs, FP s q) ∧ (0 < kd ∨ 0 < i + 1 → ∃ q ∈ gs, q.2 < s)) → D'.nx σ' H') →
        (tSeq (tAsg (tOp rMod (tCall spMix2 [] E0 (tCons (tVar 8) (tCons (tC (.int 50)) tNil))) (tVar 2)) (gName 9))
        (tSeq (tAsg (tOp rMod (tCall spMix2 [] E0 (tCons (tVar 8) (tCons (tC (.int 51)) tNil))) (tOp qSub (tVar 2) (tC (.int 1)))) (gName 10))
        (tSeq (tIfS (tB (tVar 4))
        (tSeq (tAsg (tOp rMod (tOp rMod (tOp rDiv (tVar 8) (tC (.int 5))) (tC (.int 8))) (tVar 2)) (gName 9))
        (tAsg (tOp rMod (tOp rMod (tOp rDiv (tVar 8) (tC (.int 40))) (tC (.int 8))) (tOp qSub (tVar 2) (tC (.int 1)))) (gName 10)))
        tNext)
        (tDrop (tBM K "list" rAppend (tVar 5) (tCons (tTup (tCons (tVar 9) (tCons (tOp rMod (tOp qAdd (tOp qAdd (tVar 9) (tC (.int 1))) (tVar 10)) (tVar 2)) tNil))) tNil)))))) D'
          [some (.ref a), some (.int t), some (.int s), some (.int kd), some (.bl pl), some (.ref l), some (.int (0 + (i : Int))), u7, some (.int c), u9, u10, none, none] H3 := by
      intro D' fin
      have last : ∀ o st : Int, 0 ≤ o → o < s → 0 ≤ st → st < s - 1 → FP s (o, (o + 1 + st) % s) ∧ (o + 1 + st) % s < s := fun o st h1 h2 h3 h4 =>
        ⟨⟨h1, h2, Int.emod_nonneg _ (by walk_at "om"), fun e => near2 h1 h2 h3 h4 e.symm⟩, Int.emod_lt_of_pos _ (by walk_at "om")⟩
      walk_at "rd"
      refine ⟨c, 50, rfl, by decide, by decide, fun y hy => ?_⟩
      have y0 := Int.emod_nonneg y (b := s) (by walk_at "om")
      have y1 := Int.emod_lt_of_pos y (b := s) (by walk_at "om")
      walk_at "rd"
      refine ⟨c, 51, rfl, by decide, by decide, fun w hw => ?_⟩
      have w0 := Int.emod_nonneg w (b := s - 1) (by walk_at "om")
      have w1 := Int.emod_lt_of_pos w (b := s - 1) (by walk_at "om")
      walk_at "rd"
      cases pl with
      | true =>
        have z0 := Int.emod_nonneg (c / 5 % 8) (b := s) (by walk_at "om")
        have z1 := Int.emod_lt_of_pos (c / 5 % 8) (b := s) (by walk_at "om")
        have x0 := Int.emod_nonneg (c / 40 % 8) (b := s - 1) (by walk_at "om")
        have x1 := Int.emod_lt_of_pos (c / 40 % 8) (b := s - 1) (by walk_at "om")
        walk_at "rd"
        refine ⟨B.ty, ?_⟩
        walk_at "rd"
        refine k_pair B (by walk_at "om") fun H4 B4 => ?_
        obtain ⟨o1, o2⟩ := last (c / 5 % 8 % s) (c / 40 % 8 % (s - 1)) z0 z1 x0 x1
        exact fin _ _ ⟨_, _, _, _, _, _, rfl, B4, by simp; walk_at "om", fp_snoc fg o1, fun _ => ex_last o2⟩
      | false =>
        walk_at "rd"
        refine ⟨B.ty, ?_⟩
        walk_at "rd"
        refine k_pair B (by walk_at "om") fun H4 B4 => ?_
        obtain ⟨o1, o2⟩ := last (y % s) (w % (s - 1)) y0 y1 w0 w1
        exact fin _ _ ⟨_, _, _, _, _, _, rfl, B4, by simp; walk_at "om", fp_snoc fg o1, fun _ => ex_last o2⟩
    walk_at "rd"
    refine k_ite (fun z => ?_) (fun z => ?_)
    · walk_at "rd1"
      exact draw _ fun σ' H' z => z
    · walk_at "rd"
      refine k_ite (fun y => ?_) (fun y => ?_)
      · exact draw _ fun σ' H' z => z
      · walk_at "rd"
        exact ⟨gs, _, _, _, _, _, rfl, B, by walk_at "om", fg, fun _ => xg (.inl (by walk_at "om"))⟩
  rintro σ H3 ⟨gs, u6, u7, u8, u9, u10, rfl, B, lg, fg, xg⟩
  have xg' := xg (.inr (by decide))
  obtain ⟨xs, hl3, rx⟩ := B.at_
  have lx : xs.length = gs.length := by rw [rx.length, List.length_map]
  walk_at "rd"
  refine ⟨by decide, fun l2 nl2 => ?_⟩
  walk_at "rd"
  have S2 := same_new nl2 (.lst [])
  refine k_rlF (SqL.of (S2 _ _ hl3)) ?_
  refine fat_list (xs := xs) (fun i σ H4 => ∃ (ps : List (Nat × Nat)) (w6 w7 w8 w9 w10 w12 : Option V), σ = [some (.ref a), some (.int t), some (.int s), some (.int kd), some (.bl pl), some (.ref l), w6, w7, w8, w9, w10, some (.ref l2), w12] ∧ AccZ K H3 l2 H4 (ps.map dP) ∧ ps.Nodup ∧ ps.length ≤ 8 ∧ (∀ q ∈ ps, PairOk s.toNat q) ∧ ((∃ q ∈ gs.take i, q.2 < s) → ps ≠ []))
    ⟨[], u6, u7, u8, u9, u10, none, rfl, AccZ.start (Same.refl _) nl2, List.nodup_nil, by decide, by simp, by simp⟩ ?_ ?_ ?_
  · rintro i σ H4 _ ⟨ps, w6, w7, w8, w9, w10, w12, rfl, C, _⟩
    exact SqL.of (C.same _ _ hl3)
  · rintro i z σ H4 hz ⟨ps, w6, w7, w8, w9, w10, w12, rfl, C, nd, l8, okp, hne⟩
    obtain ⟨dd, g1, g2⟩ := rx.get hz
    rw [List.getElem?_map] at g1
    obtain ⟨g, eg, rfl⟩ := Option.map_eq_some_iff.mp g1
    have og := fg g (List.mem_of_getElem? eg)
    obtain ⟨tz, zs, e1, st, rt⟩ := (g2.same C.same).tup_at
    cases e1
    cases RpL.ints_of (ns := [g.1, g.2]) rt
    obtain ⟨x, y⟩ := g
    obtain ⟨o0, o1, o2, o3⟩ := og
    dsimp only at o0 o1 o2 o3
    have oo : y < s → PairOk s.toNat (x.toNat, y.toNat) := fun ys => by
      clear hne xg xg' hx
      exact ⟨by show x.toNat < s.toNat; walk_at "om", by show y.toNat < s.toNat; walk_at "om", by show x.toNat ≠ y.toNat; walk_at "om"⟩
    have tk : gs.take (i + 1) = gs.take i ++ [(x, y)] := by rw [List.take_add_one, eg]; rfl
    have old : (∃ q ∈ gs.take (i + 1), q.2 < s) → ¬ y < s → ∃ q ∈ gs.take i, q.2 < s := by
      rintro ⟨q, h1, h2⟩ ny
      rw [tk] at h1
      rcases List.mem_append.mp h1 with h | h
      · exact ⟨q, h, h2⟩
      · rw [List.mem_singleton.mp h] at h2
        exact absurd h2 ny
    have st' : H4 tz = some (.tup [.int x, .int y]) := st
    refine k_gTup (SqT.of st') rfl ?_
    walk_at "rd"
    refine ⟨by show 2 ≤ sizeLine; decide, fun p np => ?_⟩
    have S5 := same_new np (.tup [V.int x, .int y])
    have C5 := C.on S5
    have r5 : Rz K (upd H4 p (.tup [V.int x, .int y])) (.ref p) (dI [x, y]) := .tup upd_same (RpL.ints [x, y])
    have eP : dI [x, y] = dP (x.toNat, y.toNat) := by
      show dI [x, y] = dI [((x.toNat : Nat) : Int), ((y.toNat : Nat) : Int)]
      rw [Int.toNat_of_nonneg o0, Int.toNat_of_nonneg o2]
    rw [eP] at r5
    walk_at "rd"
    refine k_notInD r5.rep C5.rep (fun e he => by obtain ⟨b, _, rfl⟩ := List.mem_map.mp he; exact ok_dI _ 7) (ok_dI _ 7) (fun nm => ?_) (fun mm => ?_)
    · walk_at "rd"
      refine k_ite (fun ys => ?_) (fun ys => ?_)
      · obtain ⟨xs5, s5, n5, _⟩ := C5.sq
        rw [List.length_map] at n5
        walk_at "rd"
        refine k_lenL s5 ?_
        walk_at "rd"
        refine k_ite (fun lt => ?_) (fun ge => ?_)
        · walk_at "rd"
          refine ⟨C5.ty, ?_⟩
          walk_at "rd"
          refine ⟨by show 2 ≤ sizeLine; decide, fun p' np' => ?_⟩
          have S6 := same_new np' (.tup [V.int x, .int y])
          refine k_nil ?_
          refine k_appZ (C5.on S6) (d := dP (x.toNat, y.toNat)) (by rw [← eP]; exact .tup upd_same (RpL.ints [x, y])) (small1000 (by rw [List.length_map]; walk_at "om")) fun H6 C6 _ _ _ => ?_
          walk_at "rd"
          exact ⟨ps ++ [(x.toNat, y.toNat)], _, _, _, _, _, _, rfl, by rw [List.map_append]; exact C6, nodup_snoc nd fun z => nm (mem_dP.mpr z), by simp; walk_at "om", all_snoc okp (oo ys), by simp⟩
        · have lz : ps = [] → False := fun z => by
            have z0 : ps.length = 0 := by rw [z]; rfl
            clear hne xg xg' hx
            walk_at "om"
          walk_at "rd"
          exact ⟨ps, _, _, _, _, _, _, rfl, C5, nd, l8, okp, fun _ z => lz z⟩
      · walk_at "rd"
        exact ⟨ps, _, _, _, _, _, _, rfl, C5, nd, l8, okp, fun z => hne (old z ys)⟩
    · walk_at "rd"
      exact ⟨ps, _, _, _, _, _, _, rfl, C5, nd, l8, okp, fun _ z => by rw [z] at mm; cases mm⟩
  · rintro σ H4 ⟨ps, w6, w7, w8, w9, w10, w12, rfl, C, nd, l8, okp, hne⟩
    rw [lx, List.take_of_length_le (Nat.le_refl _)] at hne
    walk_at "rd"
    exact k l2 H4 ps (acc_back B.same C) nd l8 (hne xg') okp
end G2

namespace G2
open PySem L2 Fr G1
open PySem.W (Dat kqdOk)
def spVes2 (K : PySem.W.Frag) : Sp := fun vs H Q _ => ∃ (a : Addr) (ns : List Int) (t : Int), vs = [.ref a, .int t] ∧ SqL K H a (ns.map V.int) ∧ 0 ≤ t ∧ ∀ (p : Addr) (H' : Hp) (ws : List Str) (ts : List Tn), Same H H' → VesOk ws ts → Rz K H' (.ref p) (dV ws ts) → Q (.ref p) H'
theorem len_ves2 {K : PySem.W.Frag} {vs : List V} {H : Hp} {Q : VK} {E : XK} {x y : Str} (h : spVes2 K vs H Q E) : vs.length = [x, y].length := by
  obtain ⟨a, b, c, rfl, _⟩ := h
  rfl
def t_ves2 (K : PySem.W.Frag) : TS := (tSeq (tAsg (tCall spMix2 [] E0 (tCons (tCall (spCell K) [] E0 (tCons (tVar 0) (tCons (tVar 1) tNil))) (tCons (tC (.int 1)) tNil))) (gName 2))
  (tSeq (tAsg (tOp qAdd (tC (.int 1)) (tOp rMod (tVar 2) (tC (.int 5)))) (gName 3))
  (tSeq (tAsg (tOp qAdd (tC (.int 2)) (tOp rMod (tOp rDiv (tVar 2) (tC (.int 5))) (tC (.int 3)))) (gName 4))
  (tSeq (tAsg (tOp rEq (tOp rMod (tOp rDiv (tVar 2) (tC (.int 1260))) (tC (.int 2))) (tC (.int 1))) (gName 5))
  (tSeq (tAsg (tCall (spPool2 K) [] E0 (tCons (tVar 0) (tCons (tOp qAdd (tVar 1) (tC (.int 1))) (tCons (tVar 3) (tCons (tOp qAdd (tC (.int 2)) (tOp rMod (tOp rDiv (tVar 2) (tC (.int 15))) (tC (.int 7)))) (tCons (tVar 4) (tCons (tVar 5) tNil))))))) (gName 6))
  (tSeq (tAsg (tCall (spPairs2 K) [] E0 (tCons (tVar 0) (tCons (tOp qAdd (tVar 1) (tC (.int 7))) (tCons (tCB (rLenQ K) (tCons (tVar 6) tNil)) (tCons (tOp rMod (tOp rDiv (tVar 2) (tC (.int 105))) (tC (.int 4))) (tCons (tVar 5) tNil)))))) (gName 7))
  (tSeq (tAsg (tLst tNil) (gName 8))
  (tSeq (tFor (iRng1 (tCons (tCB (rLenQ K) (tCons (tVar 7) tNil)) tNil)) (gName 9)
  (tSeq (tAsg (tCall (spCell K) [] E0 (tCons (tVar 0) (tCons (tOp qAdd (tOp qAdd (tVar 1) (tC (.int 7))) (tVar 9)) tNil))) (gName 10))
  (tSeq (tAsg (tOp (rIxL K) (tVar 7) (tVar 9)) (gTup K 2 (gCons (gName 11) (gCons (gName 12) gNil))))
  (tDrop (tBM K "list" rAppend (tVar 8) (tCons (tTup (tCons (tOp (rIxL K) (tVar 6) (tVar 11)) (tCons (tOp (rIxL K) (tVar 6) (tVar 12)) (tCons (tCall (spPace2 K) [] E0 (tCons (tOp rDiv (tVar 10) (tC (.int 320))) (tCons (tOp rMod (tOp rDiv (tVar 2) (tC (.int 420))) (tC (.int 3))) tNil))) tNil)))) tNil))))))
  (tRet (tTup (tCons (tCall (spWords2 K) [] E0 (tCons (tOp rDiv (tVar 2) (tC (.int 2520))) (tCons (tVar 3) tNil))) (tCons (tCB (rTupOf K) (tCons (tVar 8) tNil)) tNil))))))))))))
theorem rd_ves2 {K : PySem.W.Frag} {vs : List V} {H : Hp} {Q : VK} {E : XK} {N : List Str} (hN : N.length = 13) (h : spVes2 K vs H Q E) : t_ves2 K (ends Q) (L2.start N vs) H := by
  obtain ⟨a, ns, t, rfl, hS, t0, k⟩ := h
  rw [show L2.start N [.ref a, .int t] = [some (.ref a), some (.int t), none, none, none, none, none, none, none, none, none, none, none] by unfold L2.start; rw [hN]; rfl]
  unfold t_ves2
  walk_at "rd"
  refine ⟨a, ns, t, rfl, hS, t0, ?_⟩
  generalize cellOf ns t = c
  walk_at "rd"
  refine ⟨c, 1, rfl, by decide, by decide, fun n ⟨n0, _⟩ => ?_⟩
  walk_at "rd"
  generalize decide (n / 1260 % 2 = 1) = pl
  refine ⟨a, ns, t + 1, 1 + n % 5, 2 + n / 15 % 7, 2 + n / 5 % 3, pl, rfl, hS, by walk_at "om", by walk_at "om", by walk_at "om", by walk_at "om", by walk_at "om", by walk_at "om", by walk_at "om", fun pp H1 hs A1 op h2 h8 => ?_⟩
  obtain ⟨xs, hpp, rz⟩ := A1.at_
  have lx : xs.length = hs.length := by rw [rz.length, List.length_map]
  have S1 := A1.same
  walk_at "rd"
  refine k_lenL (SqL.of hpp) ?_
  walk_at "rd"
  refine ⟨a, ns, t + 7, (xs.length : Int), n / 105 % 4, pl, rfl, S1.seq hS, by walk_at "om", by walk_at "om", by walk_at "om", by walk_at "om", by walk_at "om", fun pr H2 ps A2 nd l8 ne okp => ?_⟩
  obtain ⟨ys, hpr, ry⟩ := A2.at_
  have ly : ys.length = ps.length := by rw [ry.length, List.length_map]
  have S2 := A2.same
  have S02 := S1.trans S2
  walk_at "rd"
  refine ⟨by decide, fun l nl => ?_⟩
  walk_at "rd"
  have Sl := same_new nl (.lst [])
  refine k_lenL (SqL.of (Sl _ _ hpr)) ?_
  rw [ly]
  walk_at "rd"
  have et : ((ps.length : Nat) : Int).toNat = ps.length := by walk_at "om"
  rw [et]
  refine fat_range (fun i σ H3 => ∃ (ts : List Tn) (v9 v10 v11 v12 : Option V), σ = [some (.ref a), some (.int t), some (.int n), some (.int (1 + n % 5)), some (.int (2 + n / 5 % 3)), some (.bl pl), some (.ref pp), some (.ref pr), some (.ref l), v9, v10, v11, v12] ∧ AccZ K H2 l H3 (ts.map dT) ∧ ts.map ends2 = (ps.take i).map (two hs) ∧ ∀ t ∈ ts, PaceOk t.q t.d)
    ⟨[], none, none, none, none, rfl, AccZ.start (Same.refl _) nl, rfl, by simp⟩ ?_ ?_
  · rintro i σ H3 hi ⟨ts, v9, v10, v11, v12, rfl, A, em, pc⟩
    have S3 := A.same
    have lts : ts.length = i := by
      have := congrArg List.length em
      rw [List.length_map, List.length_map, List.length_take] at this
      walk_at "om"
    have eq1 : ps[i]? = some ps[i] := List.getElem?_eq_getElem hi
    have oq := okp _ (List.getElem_mem hi)
    generalize ps[i] = q at eq1 oq
    have oq1 : q.1 < hs.length := by have := oq.1; walk_at "om"
    have oq2 : q.2 < hs.length := by have := oq.2.1; walk_at "om"
    obtain ⟨w, ew, rw_⟩ := ry.get' (i := i) (d := dP q) (by rw [List.getElem?_map, eq1]; rfl)
    walk_at "rd"
    refine ⟨a, ns, t + 7 + (0 + (i : Int)), rfl, (S02.trans S3).seq hS, by walk_at "om", ?_⟩
    generalize cellOf ns (t + 7 + (0 + (i : Int))) = c2
    walk_at "rd"
    refine k_ixL (SqL.of (S3 _ _ hpr)) (v := w) (by rw [Int.zero_add]; exact atI_nat ew) ?_
    obtain ⟨tz, zs, rfl, st, rt⟩ := (rw_.same S3).tup_at
    cases RpL.ints_of (ns := [(q.1 : Int), (q.2 : Int)]) rt
    have st' : H3 tz = some (.tup [.int (q.1 : Int), .int (q.2 : Int)]) := st
    refine k_gTup (SqT.of st') rfl ?_
    have g1 : (hs.map dI)[q.1]? = some (dI (hs.getD q.1 [])) := by rw [List.getElem?_map, List.getD_eq_getElem?_getD, List.getElem?_eq_getElem oq1]; rfl
    have g2 : (hs.map dI)[q.2]? = some (dI (hs.getD q.2 [])) := by rw [List.getElem?_map, List.getD_eq_getElem?_getD, List.getElem?_eq_getElem oq2]; rfl
    obtain ⟨w1, ew1, rw1⟩ := rz.get' g1
    obtain ⟨w2, ew2, rw2⟩ := rz.get' g2
    have S13 := S2.trans S3
    walk_at "rd"
    refine ⟨A.ty, ?_⟩
    walk_at "rd"
    refine k_ixL (SqL.of (S13 _ _ hpp)) (atI_nat ew1) ?_
    walk_at "rd"
    refine k_ixL (SqL.of (S13 _ _ hpp)) (atI_nat ew2) ?_
    walk_at "rd"
    refine ⟨_, _, rfl, fun pa pq pd H4 S4 ok4 r4 => ?_⟩
    walk_at "rd"
    refine ⟨by show 3 ≤ sizeLine; decide, fun pt npt => ?_⟩
    have S5 := same_new npt (.tup [w1, w2, .ref pa])
    have S15 := S13.trans (S4.trans S5)
    have r5 : Rz K (upd H4 pt (.tup [w1, w2, .ref pa])) (.ref pt) (dT ⟨hs.getD q.1 [], hs.getD q.2 [], pq, pd⟩) := .tup upd_same (.cons (rw1.same S15) (.cons (rw2.same S15) (.cons (r4.same S5) .nil)))
    walk_at "rd"
    refine k_appZ (A.on (S4.trans S5)) r5 (small1000 (by rw [List.length_map]; walk_at "om")) fun H6 A6 _ _ _ => ?_
    walk_at "rd"
    refine ⟨ts ++ [_], _, _, _, _, rfl, by rw [List.map_append]; exact A6, ?_, all_snoc pc ok4⟩
    rw [List.map_append, em, List.take_add_one, eq1, List.map_append]
    rfl
  · rintro σ H3 ⟨ts, v9, v10, v11, v12, rfl, A, em, pc⟩
    rw [List.take_of_length_le (Nat.le_refl _)] at em
    have S3 := A.same
    obtain ⟨zs, hl, rzs⟩ := A.at_
    have gd : G1.Good hs ps ts := ⟨nd, l8, em, fun p hp => by have := okp p hp; have e : ((xs.length : Nat) : Int).toNat = hs.length := by walk_at "om"
                                                              rw [e] at this; exact this, pc⟩
    have tk := gd.turns op.1 ne
    walk_at "rd"
    refine ⟨n / 2520, 1 + n % 5, rfl, by walk_at "om", by walk_at "om", by walk_at "om", fun pw H4 ws S4 ow lw r4 => ?_⟩
    walk_at "rd"
    refine k_tupL (SqL.of (S4 _ _ hl)) fun p np => ?_
    have S5 := same_new np (.tup zs)
    walk_at "rd"
    refine ⟨by show 2 ≤ sizeLine; decide, fun r nr => ?_⟩
    have S6 := same_new nr (.tup [.ref pw, .ref p])
    have r5 : Rz K (upd H4 p (.tup zs)) (.ref p) (.tuple (ts.map dT)) := .tup upd_same ((rzs.same S4).same S5)
    refine k r _ ws ts (S02.trans (S3.trans (S4.trans (S5.trans S6)))) ⟨ow, by walk_at "om", by walk_at "om", hs, ?_, h8, tk⟩ (.tup upd_same (.cons ((r4.same S5).same S6) (.cons (r5.same S6) .nil)))
    rw [lw]
    exact op
end G2

namespace Ti
open PySem L2 Fr G1 Sm Vs G2
open PySem.W (Dat kqdOk)
def ix : List (List Int) → List Int → Nat
  | [], _ => 0
  | x :: xs, h => if x = h then 0 else ix xs h + 1
theorem ix_at : ∀ {hs : List (List Int)} {h : List Int}, h ∈ hs → hs[ix hs h]? = some h
  | x :: xs, h, m => by
    unfold ix
    by_cases e : x = h
    · rw [if_pos e, e]; rfl
    · rw [if_neg e, List.getElem?_cons_succ]
      exact ix_at ((List.mem_cons.mp m).resolve_left fun z => e z.symm)
theorem ix_first : ∀ {hs : List (List Int)} {h : List Int} {m : Nat}, m < ix hs h → hs[m]? ≠ some h
  | [], _, m, l => by unfold ix at l; walk_at "om"
  | x :: xs, h, m, l => by
    unfold ix at l
    by_cases e : x = h
    · rw [if_pos e] at l; walk_at "om"
    · rw [if_neg e] at l
      cases m with
      | zero => intro z; exact e (Option.some.inj z)
      | succ m => rw [List.getElem?_cons_succ]; exact ix_first (by walk_at "om")
theorem ix_of : ∀ {hs : List (List Int)} {h : List Int} {i : Nat}, hs.Nodup → hs[i]? = some h → ix hs h = i
  | x :: xs, h, 0, nd, e => by
    unfold ix
    rw [if_pos (Option.some.inj e)]
  | x :: xs, h, i + 1, nd, e => by
    rw [List.nodup_cons] at nd
    rw [List.getElem?_cons_succ] at e
    unfold ix
    rw [if_neg (show ¬ x = h from fun z => nd.1 (by rw [z]; exact List.mem_of_getElem? e)), ix_of nd.2 e]
theorem ix_lt {hs : List (List Int)} {h : List Int} (m : h ∈ hs) : ix hs h < hs.length := (List.getElem?_eq_some_iff.mp (ix_at m)).1
theorem insH_old {hs : List (List Int)} {h x : List Int} (m : x ∈ hs) : x ∈ insH hs h := by
  unfold insH
  split
  · exact m
  · exact List.mem_append_left _ m
theorem insH_new (hs : List (List Int)) (h : List Int) : h ∈ insH hs h := by
  unfold insH
  split
  · assumption
  · exact List.mem_append_right _ (List.mem_singleton.mpr rfl)
theorem hddF_old : ∀ {ts : List Tn} {hs : List (List Int)} {x : List Int}, x ∈ hs → x ∈ hddF hs ts
  | [], _, _, m => m
  | t :: ts, hs, x, m => hddF_old (ts := ts) (insH_old (insH_old m))
theorem hddF_new : ∀ {ts : List Tn} {hs : List (List Int)} {t : Tn}, t ∈ ts → t.fr ∈ hddF hs ts ∧ t.to ∈ hddF hs ts
  | u :: ts, hs, t, m => by
    rcases List.mem_cons.mp m with rfl | m
    · exact ⟨hddF_old (ts := ts) (insH_old (insH_new _ _)), hddF_old (ts := ts) (insH_new _ _)⟩
    · exact hddF_new (ts := ts) m
theorem insH_nd {hs : List (List Int)} {h : List Int} (nd : hs.Nodup) : (insH hs h).Nodup := by
  unfold insH
  split
  · exact nd
  · rename_i z
    exact nodup_snoc nd z
theorem hddF_nd : ∀ (ts : List Tn) {hs : List (List Int)}, hs.Nodup → (hddF hs ts).Nodup
  | [], _, nd => nd
  | t :: ts, _, nd => hddF_nd ts (insH_nd (insH_nd nd))
theorem hdd_nd (ts : List Tn) : (hdd ts).Nodup := hddF_nd ts List.nodup_nil
theorem hdd_len {ts : List Tn} (l : ts.length ≤ 100) : (hdd ts).length ≤ 200 := by
  have := hddF_len ts []
  unfold hdd
  simp only [List.length_nil] at this
  walk_at "om"
def endsOf (ts : List Tn) : List (Nat × Nat) := ts.map fun t => (ix (hdd ts) t.fr, ix (hdd ts) t.to)
def EOk (n : Nat) (es : List (Nat × Nat)) : Prop := ∀ e ∈ es, e.1 < n ∧ e.2 < n
theorem ends_ok (ts : List Tn) : EOk (hdd ts).length (endsOf ts) := fun e he => by
  obtain ⟨t, ht, rfl⟩ := List.mem_map.mp he
  have := hddF_new (hs := []) ht
  exact ⟨ix_lt this.1, ix_lt this.2⟩
def t_lheaps (K : PySem.W.Frag) : TS := (tSeq (tAsg (tLst tNil) (gName 1))
  (tSeq (tFor (iTup K (tOp (rIxT K) (tVar 0) (tC (.int 1)))) (gTup K 3 (gCons (gName 2) (gCons (gName 3) (gCons (gName 4) gNil))))
  (tFor (iList K (tLst (tCons (tVar 2) (tCons (tVar 3) tNil)))) (gName 5)
  (tIfS (tTest (tOp (rInD K true) (tVar 5) (tVar 1)))
  (tDrop (tBM K "list" rAppend (tVar 1) (tCons (tVar 5) tNil)))
  tNext)))
  (tRet (tVar 1))))
def part2 (hs : List (List Int)) (t : Tn) : Nat → List (List Int)
  | 0 => hs
  | 1 => insH hs t.fr
  | _ => insH (insH hs t.fr) t.to
theorem rd_lheaps {K : PySem.W.Frag} {vs : List V} {H : Hp} {Q : VK} {E : XK} {N : List Str} (hN : N.length = 6) (h : spHeaps K vs H Q E) : t_lheaps K (ends Q) (L2.start N vs) H := by
  obtain ⟨v, ws, ts, rfl, rv, hl, k⟩ := h
  obtain ⟨a0, y1, y2, rfl, ha0, _, r2⟩ := dV_at rv
  obtain ⟨a, xs, rfl, ha, rx⟩ := r2.tup_at
  rw [show L2.start N [.ref a0] = [some (.ref a0), none, none, none, none, none] by unfold L2.start; rw [hN]; rfl]
  have lx : xs.length = ts.length := by rw [rx.length, List.length_map]
  unfold t_lheaps
  walk_at "rd"
  refine ⟨by decide, fun l nl => ?_⟩
  have Sl := same_new nl (.lst [])
  walk_at "rd"
  refine k_ixT (SqT.of (Sl _ _ ha0)) (v := .ref a) rfl ?_
  refine k_rtF (SqT.of (Sl _ _ ha)) ?_
  refine fat_tup (xs := xs) (fun i σ H2 => ∃ u2 u3 u4 u5 : Option V, σ = [some (.ref a0), some (.ref l), u2, u3, u4, u5] ∧ AccZ K H l H2 ((hdd (ts.take i)).map dI)) ⟨none, none, none, none, rfl, AccZ.start (Same.refl _) nl⟩ ?_ ?_ ?_
  · rintro i σ H2 _ ⟨u2, u3, u4, u5, rfl, A⟩
    exact SqT.of (A.same _ _ ha)
  · rintro i z σ H2 hz ⟨u2, u3, u4, u5, rfl, A⟩
    obtain ⟨dd, g1, g2⟩ := rx.get hz
    rw [List.getElem?_map] at g1
    obtain ⟨t, ht, rfl⟩ := Option.map_eq_some_iff.mp g1
    obtain ⟨at_, v1, v2, v3, rfl, hat, r1, r2, _⟩ := dT_at (g2.same A.same)
    have ti : i < ts.length := (List.getElem?_eq_some_iff.mp ht).1
    refine k_gTup (SqT.of hat) rfl ?_
    walk_at "rd"
    refine ⟨by show 2 ≤ sizeLine; decide, fun pt npt => ?_⟩
    have S3 := same_new npt (.lst [v1, v2])
    have hpt : upd H2 pt (.lst [v1, v2]) pt = some (.lst [v1, v2]) := upd_same
    have A3 := A.on S3
    have q1 := r1.same S3
    have q2 := r2.same S3
    have npl : pt ≠ l := by
      obtain ⟨_, z, _⟩ := A.at_
      exact (ne_of_none z npt).symm
    generalize upd H2 pt (.lst [v1, v2]) = H3 at S3 hpt A3 q1 q2 ⊢
    refine k_rlF (SqL.of hpt) ?_
    have hl2 : (hdd (ts.take i)).length ≤ 200 := hdd_len (by rw [List.length_take]; walk_at "om")
    generalize hhs : hdd (ts.take i) = hs at A3 hl2 A ⊢
    refine fat_list (xs := [v1, v2]) (fun j σ H4 => ∃ u : Option V, σ = [some (.ref a0), some (.ref l), some v1, some v2, some v3, u] ∧ AccZ K H l H4 ((part2 hs t j).map dI) ∧ H4 pt = some (.lst [v1, v2]) ∧ Rz K H4 v1 (dI t.fr) ∧ Rz K H4 v2 (dI t.to)) ⟨_, rfl, A3, hpt, q1, q2⟩ ?_ ?_ ?_
    · rintro j σ H4 _ ⟨u, rfl, _, e, _⟩
      exact SqL.of e
    · rintro j y σ H4 hy ⟨u, rfl, B, e, p1, p2⟩
      have go : ∀ (w : V) (g : List Int) (ds : List (List Int)) (D' : Ends), Rz K H4 w (dI g) → AccZ K H l H4 (ds.map dI) → ds.length ≤ 300 → (∀ H5, AccZ K H l H5 ((insH ds g).map dI) → H5 pt = some (.lst [v1, v2]) → Rz K H5 v1 (dI t.fr) → Rz K H5 v2 (dI t.to) → D'.nx [some (.ref a0), some (.ref l), some v1, some v2, some v3, some w] H5) →
          (tIfS (tTest (tOp (rInD K true) (tVar 5) (tVar 1))) (tDrop (tBM K "list" rAppend (tVar 1) (tCons (tVar 5) tNil))) tNext) D' [some (.ref a0), some (.ref l), some v1, some v2, some v3, some w] H4 := by
        intro w g ds D' rw_ Bd ld fin
        walk_at "rd"
        refine k_notInD rw_.rep Bd.rep (fun e he => by obtain ⟨b, _, rfl⟩ := List.mem_map.mp he; exact ok_dI b 7) (ok_dI g 7) (fun nm => ?_) (fun mm => ?_)
        · walk_at "rd"
          refine ⟨Bd.ty, ?_⟩
          walk_at "rd"
          refine k_appZ Bd rw_ (small1000 (by rw [List.length_map]; walk_at "om")) fun H5 A5 keepZ keepB _ => ?_
          refine fin H5 ?_ ((keepB pt npl).trans e) (keepZ p1) (keepZ p2)
          unfold insH
          rw [if_neg (fun z => nm (mem_dI.mpr z)), List.map_append]
          exact A5
        · walk_at "rd"
          refine fin H4 ?_ e p1 p2
          unfold insH
          rw [if_pos (mem_dI.mp mm)]
          exact Bd
      match j, hy with
      | 0, hy =>
        cases Option.some.inj hy
        exact go v1 t.fr hs _ p1 B (by walk_at "om") fun H5 A5 e5 z1 z2 => ⟨_, rfl, A5, e5, z1, z2⟩
      | 1, hy =>
        cases Option.some.inj hy
        exact go v2 t.to (insH hs t.fr) _ p2 B (by have := insH_len hs t.fr; walk_at "om") fun H5 A5 e5 z1 z2 => ⟨_, rfl, A5, e5, z1, z2⟩
      | j + 2, hy => simp at hy
    · rintro σ H4 ⟨u, rfl, B, e, p1, p2⟩
      refine ⟨_, _, _, _, rfl, ?_⟩
      have et : ts.take (i + 1) = ts.take i ++ [t] := by rw [List.take_add_one, ht]; rfl
      have ep : hdd (ts.take (i + 1)) = part2 hs t 2 := by
        rw [et, ← hhs]
        exact hddF_snoc [] (ts.take i) t
      rw [ep]
      exact B
  · rintro σ H2 ⟨u2, u3, u4, u5, rfl, A⟩
    rw [lx, List.take_of_length_le (Nat.le_refl _)] at A
    walk_at "rd"
    exact k l H2 A
def spEnds (K : PySem.W.Frag) : Sp := fun vs H Q _ => ∃ (v : V) (ws : List Str) (ts : List Tn), vs = [v] ∧ Rz K H v (dV ws ts) ∧ ts.length ≤ 100 ∧ ∀ (p : Addr) (H' : Hp), AccZ K H p H' ((endsOf ts).map dP) → Q (.ref p) H'
theorem len_ends {K : PySem.W.Frag} {vs : List V} {H : Hp} {Q : VK} {E : XK} {x : Str} (h : spEnds K vs H Q E) : vs.length = [x].length := by
  obtain ⟨a, b, c, rfl, _⟩ := h
  rfl
/-- [(number of from, number of to) for each turning] -/
theorem ends_at {K : PySem.W.Frag} {H : Hp} {σ : St} {Q : VK} {te : TE} {b : Addr} {xs : List V} {ts : List Tn} (l : ts.length ≤ 100) (hb : H b = some (.tup xs)) (rx : RzL K H xs (ts.map dT))
    (ht : ∀ (H2 : Hp) (v : V) (t : Tn) (Q' : VK), t ∈ ts → Same H H2 → Rz K H2 v (dT t) → (∀ p, H2 p = none → Q' (.ref p) (upd H2 p (.tup [.int (ix (hdd ts) t.fr), .int (ix (hdd ts) t.to)]))) → te (some v :: σ) H2 Q')
    (hq : ∀ (D : Addr) (H' : Hp), AccZ K H D H' ((endsOf ts).map dP) → Q (.ref D) H') : CompAt (Itt K b) te σ Q H := by
  have lx : xs.length = ts.length := by rw [rx.length, List.length_map]
  refine comp_tup (xs := xs) fun D nD => ⟨fun i H2 => AccZ K H D H2 (((ts.take i).map fun t => (ix (hdd ts) t.fr, ix (hdd ts) t.to)).map dP), AccZ.start (Same.refl _) nD, fun i H2 _ A => SqT.of (A.same _ _ hb), ?_, ?_⟩
  · intro i z H2 hz A
    obtain ⟨dd, g1, g2⟩ := rx.get hz
    rw [List.getElem?_map] at g1
    obtain ⟨t, et, rfl⟩ := Option.map_eq_some_iff.mp g1
    have li : i < ts.length := (List.getElem?_eq_some_iff.mp et).1
    refine ht H2 z t _ (List.mem_of_getElem? et) A.same (g2.same A.same) fun p np => ?_
    have S3 := same_new np (.tup [V.int (ix (hdd ts) t.fr), .int (ix (hdd ts) t.to)])
    refine pushed (by walk_at "om") ((A.on S3).pushK (d := dP (ix (hdd ts) t.fr, ix (hdd ts) t.to)) (.tup upd_same (RpL.ints [_, _])) (small1000 ?_) fun H4 A4 => ?_)
    · rw [List.length_map, List.length_map, List.length_take]
      walk_at "om"
    · show AccZ K H D H4 (((ts.take (i + 1)).map fun t => (ix (hdd ts) t.fr, ix (hdd ts) t.to)).map dP)
      rw [List.take_add_one, et, List.map_append, List.map_append]
      exact A4
  · intro H2 A
    rw [lx, List.take_of_length_le (Nat.le_refl _)] at A
    exact hq D H2 A
def t_lends (K : PySem.W.Frag) : TS := (tSeq (tAsg (tCall (spHeaps K) [] E0 (tCons (tVar 0) tNil)) (gName 1))
  (tRet (tComp (iTup K (tOp (rIxT K) (tVar 0) (tC (.int 1)))) (tTup (tCons (tBM K "list" (rIndex K) (tVar 2) (tCons (tOp (rIxT K) (tVar 0) (tC (.int 0))) tNil)) (tCons (tBM K "list" (rIndex K) (tVar 2) (tCons (tOp (rIxT K) (tVar 0) (tC (.int 1))) tNil)) tNil))))))
theorem rd_lends {K : PySem.W.Frag} {vs : List V} {H : Hp} {Q : VK} {E : XK} {N : List Str} (hN : N.length = 2) (h : spEnds K vs H Q E) : t_lends K (ends Q) (L2.start N vs) H := by
  obtain ⟨v, ws, ts, rfl, rv, hl, k⟩ := h
  rw [show L2.start N [v] = [some v, none] by unfold L2.start; rw [hN]; rfl]
  unfold t_lends
  walk_at "rd"
  refine ⟨v, ws, ts, rfl, rv, hl, fun p H1 A1 => ?_⟩
  have S1 := A1.same
  obtain ⟨a0, y1, y2, rfl, ha0, _, r2⟩ := dV_at (rv.same S1)
  obtain ⟨a, xs, rfl, ha, rx⟩ := r2.tup_at
  have hl2 := hdd_len hl
  walk_at "rd"
  refine k_ixT (SqT.of ha0) (v := .ref a) rfl ?_
  refine k_rtC (SqT.of ha) ?_
  refine ends_at hl ha rx (fun H2 z t Q' mt S2 rz q => ?_) fun D H' A => k D H' (acc_back S1 A)
  obtain ⟨b, w1, w2, w3, rfl, hb, q1, q2, _⟩ := dT_at rz
  have mm := hddF_new (hs := []) mt
  have A2 := A1.on S2
  have okd : ∀ e ∈ (hdd ts).map dI, kqdOk 8 e = true := fun e he => by obtain ⟨b, _, rfl⟩ := List.mem_map.mp he; exact ok_dI b 7
  have first : ∀ {g : List Int} {m : Nat}, m < ix (hdd ts) g → ((hdd ts).map dI)[m]? ≠ some (dI g) := fun hm z => by
    rw [List.getElem?_map] at z
    obtain ⟨g', e1, e2⟩ := Option.map_eq_some_iff.mp z
    exact ix_first hm (by rw [e1, dI_inj e2])
  have at_ : ∀ {g : List Int}, g ∈ hdd ts → ((hdd ts).map dI)[ix (hdd ts) g]? = some (dI g) := fun m => by rw [List.getElem?_map, ix_at m]; rfl
  walk_at "rd"
  refine ⟨A2.ty, ?_⟩
  walk_at "rd"
  refine k_ixT (SqT.of hb) (v := w1) rfl ?_
  walk_at "rd"
  refine k_index q1.rep A2.rep okd (ok_dI _ 7) (at_ mm.1) (fun m hm => first hm) (by rw [List.length_map]; walk_at "om") ?_
  walk_at "rd"
  refine ⟨A2.ty, ?_⟩
  walk_at "rd"
  refine k_ixT (SqT.of hb) (v := w2) rfl ?_
  walk_at "rd"
  refine k_index q2.rep A2.rep okd (ok_dI _ 7) (at_ mm.2) (fun m hm => first hm) (by rw [List.length_map]; walk_at "om") ?_
  walk_at "rd"
  exact ⟨by show 2 ≤ sizeLine; decide, q⟩
def t_hnum (K : PySem.W.Frag) : TS := (tSeq (tAsg tDNewT (gName 1))
  (tSeq (tFor (iEnum K (tCons (tCall (spHeaps K) [] E0 (tCons (tVar 0) tNil)) tNil)) (gTup K 2 (gCons (gName 2) (gCons (gName 3) gNil)))
  (sDPut (tVar 1) (tVar 3) (tVar 2)))
  (tRet (tComp (iTup K (tOp (rIxT K) (tVar 0) (tC (.int 1)))) (tTup (tCons (tDGet (tVar 2) (tOp (rIxT K) (tVar 0) (tC (.int 0)))) (tCons (tDGet (tVar 2) (tOp (rIxT K) (tVar 0) (tC (.int 1)))) tNil)))))))
theorem rd_hnum {K : PySem.W.Frag} {vs : List V} {H : Hp} {Q : VK} {E : XK} {N : List Str} (hN : N.length = 4) (h : spEnds K vs H Q E) : t_hnum K (ends Q) (L2.start N vs) H := by
  obtain ⟨v, ws, ts, rfl, rv, hl, k⟩ := h
  rw [show L2.start N [v] = [some v, none, none, none] by unfold L2.start; rw [hN]; rfl]
  have hl2 := hdd_len hl
  have nd := hdd_nd ts
  unfold t_hnum
  walk_at "rd"
  intro d fd
  have S0 := same_new fd (.dT [])
  walk_at "rd"
  refine ⟨v, ws, ts, rfl, rv.same S0, hl, fun p H1 A1 => ?_⟩
  obtain ⟨xs, hp, rx⟩ := A1.at_
  have lx : xs.length = (hdd ts).length := by rw [rx.length, List.length_map]
  have S1 := A1.same
  have e1 : H1 d = some (.dT []) := S1 _ _ upd_same
  walk_at "rd"
  refine ⟨p, xs, rfl, SqL.of hp, ?_⟩
  refine fat_enum (xs := xs) (fun i σ H2 => ∃ (kvs : List (List Key × V)) (u2 u3 : Option V), σ = [some v, some (.ref d), u2, u3] ∧ Same H H2 ∧ (∀ b o, b ≠ d → H1 b = some o → H2 b = some o) ∧ H2 d = some (.dT kvs) ∧ kvs.length ≤ i ∧ ∀ g : List Int, g ∈ (hdd ts).take i → valV kvs (toK g) = some (.int (ix (hdd ts) g)))
    ⟨[], none, none, rfl, S0.trans S1, fun _ _ _ z => z, e1, Nat.le_refl _, by simp⟩ ?_ ?_ ?_
  · rintro i σ H2 _ ⟨kvs, u2, u3, rfl, S, kp, ed, ek, eg⟩
    exact SqL.of (kp p _ (ne_of hp e1 (by intro z; cases z)) hp)
  · rintro i z σ H2 T hz ⟨kvs, u2, u3, rfl, S, kp, ed, ek, eg⟩ nT
    obtain ⟨dd, g1, g2⟩ := rx.get hz
    rw [List.getElem?_map] at g1
    obtain ⟨g, hg, rfl⟩ := Option.map_eq_some_iff.mp g1
    have li : i < (hdd ts).length := (List.getElem?_eq_some_iff.mp hg).1
    obtain ⟨b, rfl, hb⟩ := dI_at g2
    have nbd : b ≠ d := ne_of hb e1 (by intro z; cases z)
    have S2 := same_new nT (.tup [.int (i : Int), .ref b])
    have nTd : T ≠ d := (ne_of_none ed nT).symm
    have ed2 := S2 _ _ ed
    have hb2 := S2 _ _ (kp b _ nbd hb)
    refine k_gTup (SqT.of upd_same) rfl ?_
    walk_at "rd"
    refine ⟨d, _, rfl, DPut.t ed2 (k := toK g) (by rw [toK_kV]; exact hb2) (small1000 (by walk_at "om")), ?_⟩
    have le1 := length_putK kvs (toK g) (.int (i : Int))
    refine ⟨_, _, _, rfl, fun b' o q => ?_, fun b' o n q => ?_, upd_same, by walk_at "om", fun g' mg => ?_⟩
    · rw [upd_ne (ne_of_none q fd)]
      exact S2 _ _ (S _ _ q)
    · rw [upd_ne n]
      exact S2 _ _ (kp b' o n q)
    · rw [valV_put]
      by_cases e : toK g' = toK g
      · rw [if_pos e, toK_inj e, ix_of nd hg]
      · rw [if_neg e]
        refine eg g' ?_
        rw [List.take_add_one, hg] at mg
        rcases List.mem_append.mp mg with m | m
        · exact m
        · exact absurd (by rw [List.mem_singleton.mp m]) e
  · rintro σ H2 ⟨kvs, u2, u3, rfl, S, kp, ed, ek, eg⟩
    rw [lx, List.take_of_length_le (Nat.le_refl _)] at eg
    obtain ⟨a0, y1, y2, rfl, ha0, _, r2⟩ := dV_at (rv.same S)
    obtain ⟨a, zs, rfl, ha, rz⟩ := r2.tup_at
    walk_at "rd"
    refine k_ixT (SqT.of ha0) (v := .ref a) rfl ?_
    refine k_rtC (SqT.of ha) ?_
    refine ends_at hl ha rz (fun H3 z t Q' mt S3 rt q => ?_) fun D H' A => k D H' (acc_back S A)
    obtain ⟨b, w1, w2, w3, rfl, hb, q1, q2, _⟩ := dT_at rt
    obtain ⟨b1, rfl, hb1⟩ := dI_at q1
    obtain ⟨b2, rfl, hb2⟩ := dI_at q2
    have mm := hddF_new (hs := []) mt
    walk_at "rd"
    refine k_ixT (SqT.of hb) (v := .ref b1) rfl ?_
    refine ⟨d, _, rfl, (by have := DGet.t (S3 _ _ ed) (k := toK t.fr) (b := b1) (by rw [toK_kV]; exact hb1); rw [eg t.fr mm.1] at this; exact this), ?_⟩
    walk_at "rd"
    refine k_ixT (SqT.of hb) (v := .ref b2) rfl ?_
    refine ⟨d, _, rfl, (by have := DGet.t (S3 _ _ ed) (k := toK t.to) (b := b2) (by rw [toK_kV]; exact hb2); rw [eg t.to mm.2] at this; exact this), ?_⟩
    walk_at "rd"
    exact ⟨by show 2 ≤ sizeLine; decide, q⟩
end Ti

namespace Ti
open PySem L2 Fr G1 Sm Vs G2
open PySem.W (Dat kqdOk)
theorem nodup_len {α : Type} [DecidableEq α] : ∀ {l hs : List α}, l.Nodup → (∀ x ∈ l, x ∈ hs) → l.length ≤ hs.length
  | [], _, _, _ => Nat.zero_le _
  | x :: l, hs, nd, sub => by
    rw [List.nodup_cons] at nd
    have hx := sub x List.mem_cons_self
    have h := nodup_len (l := l) (hs := hs.erase x) nd.2 fun y hy => by
      refine (List.mem_erase_of_ne ?_).mpr (sub y (List.mem_cons_of_mem _ hy))
      rintro rfl
      exact nd.1 hy
    rw [List.length_erase_of_mem hx] at h
    have := List.length_pos_of_mem hx
    rw [List.length_cons]
    walk_at "om"
theorem nodup_full {α : Type} [DecidableEq α] {l hs : List α} (nd : l.Nodup) (sub : ∀ x ∈ l, x ∈ hs) (le : hs.length ≤ l.length) : ∀ y ∈ hs, y ∈ l := fun y hy => by
  by_cases z : y ∈ l
  · exact z
  · have h := nodup_len (l := l) (hs := hs.erase y) nd fun x hx => (List.mem_erase_of_ne (by rintro rfl; exact z hx)).mpr (sub x hx)
    rw [List.length_erase_of_mem hy] at h
    have := List.length_pos_of_mem hy
    walk_at "om"
inductive Rch (es : List (Nat × Nat)) (a : Nat) : Nat → Prop
  | refl : Rch es a a
  | step {x y : Nat} : Rch es a x → (x, y) ∈ es → Rch es a y
def Cl (es : List (Nat × Nat)) (S : List Nat) : Prop := ∀ e ∈ es, e.1 ∈ S → e.2 ∈ S
theorem rch_in {es : List (Nat × Nat)} {S : List Nat} {a b : Nat} (ha : a ∈ S) (c : Cl es S) (h : Rch es a b) : b ∈ S := by
  induction h with
  | refl => exact ha
  | step _ m ih => exact c _ m ih
def dN (n : Nat) : Dat := .int (n : Int)
theorem mem_dN {x : Nat} {ns : List Nat} : dN x ∈ ns.map dN ↔ x ∈ ns := by
  rw [List.mem_map]
  constructor
  · rintro ⟨b, hb, e⟩
    have e' := Dat.int.inj e
    have : b = x := Int.ofNat.inj e'
    rw [← this]
    exact hb
  · intro h
    exact ⟨x, h, rfl⟩
theorem ok_dN (ns : List Nat) : ∀ e ∈ ns.map dN, kqdOk 8 e = true := fun e he => by
  obtain ⟨b, _, rfl⟩ := List.mem_map.mp he
  rfl
def spReach (K : PySem.W.Frag) : Sp := fun vs H Q _ => ∃ (p : Addr) (xs : List V) (es : List (Nat × Nat)) (a : Nat), vs = [.ref p, .int (a : Int)] ∧ H p = some (.lst xs) ∧ RzL K H xs (es.map dP) ∧ es.length ≤ 100 ∧
  ∀ (q : Addr) (H' : Hp) (ns : List Nat), AccZ K H q H' (ns.map dN) → ns.Nodup → (∀ x, x ∈ ns ↔ Rch es a x) → Q (.ref q) H'
theorem len_reach {K : PySem.W.Frag} {vs : List V} {H : Hp} {Q : VK} {E : XK} {x y : Str} (h : spReach K vs H Q E) : vs.length = [x, y].length := by
  obtain ⟨a, b, c, d, rfl, _⟩ := h
  rfl
theorem dP_at {K : PySem.W.Frag} {H : Hp} {v : V} {q : Nat × Nat} (h : Rz K H v (dP q)) : ∃ a : Addr, v = .ref a ∧ H a = some (.tup [.int (q.1 : Int), .int (q.2 : Int)]) := by
  obtain ⟨a, xs, e, ha, r⟩ := h.tup_at
  cases RpL.ints_of (ns := [(q.1 : Int), (q.2 : Int)]) r
  exact ⟨a, e, ha⟩
def t_reach (K : PySem.W.Frag) : TS := (tSeq (tAsg (tLst (tCons (tVar 1) tNil)) (gName 2))
  (tSeq (tFor (iRng1 (tCons (tCB (rLenQ K) (tCons (tVar 0) tNil)) tNil)) (gName 3)
  (tFor (iList K (tVar 0)) (gTup K 2 (gCons (gName 4) (gCons (gName 5) gNil)))
  (tIfS (tAnd (tTest (tOp (rInD K false) (tVar 4) (tVar 2))) (tTest (tOp (rInD K true) (tVar 5) (tVar 2))))
  (tDrop (tBM K "list" rAppend (tVar 2) (tCons (tVar 5) tNil)))
  tNext)))
  (tRet (tVar 2))))
theorem rd_reach {K : PySem.W.Frag} {vs : List V} {H : Hp} {Q : VK} {E : XK} {N : List Str} (hN : N.length = 6) (h : spReach K vs H Q E) : t_reach K (ends Q) (L2.start N vs) H := by
  obtain ⟨p, xs, es, a, rfl, hp, rx, le, k⟩ := h
  rw [show L2.start N [.ref p, .int (a : Int)] = [some (.ref p), some (.int (a : Int)), none, none, none, none] by unfold L2.start; rw [hN]; rfl]
  have lx : xs.length = es.length := by rw [rx.length, List.length_map]
  unfold t_reach
  walk_at "rd"
  refine ⟨by show 1 ≤ sizeLine; decide, fun l nl => ?_⟩
  have Sl := same_new nl (.lst [.int (a : Int)])
  have A0 : AccZ K H l (upd H l (.lst [.int (a : Int)])) ([a].map dN) := ⟨Sl, nl, [.int (a : Int)], upd_same, .cons (.int _) .nil⟩
  walk_at "rd"
  refine k_lenL (SqL.of (Sl _ _ hp)) ?_
  rw [lx]
  walk_at "rd"
  have et : ((es.length : Nat) : Int).toNat = es.length := by walk_at "om"
  rw [et]
  refine fat_range (fun i σ H2 => ∃ (ns : List Nat) (u3 u4 u5 : Option V), σ = [some (.ref p), some (.int (a : Int)), some (.ref l), u3, u4, u5] ∧ AccZ K H l H2 (ns.map dN) ∧ ns.Nodup ∧ (∀ x ∈ ns, Rch es a x) ∧ a ∈ ns ∧ (∀ x ∈ ns, x ∈ a :: es.map (·.2)) ∧ (Cl es ns ∨ i + 1 ≤ ns.length))
    ⟨[a], none, none, none, rfl, A0, by simp, fun x hx => by rw [List.mem_singleton.mp hx]; exact .refl, by simp, fun x hx => by rw [List.mem_singleton.mp hx]; exact List.mem_cons_self, .inr (Nat.le_refl _)⟩ ?_ ?_
  · rintro i σ H2 hi ⟨ns, u3, u4, u5, rfl, A, nd, rc, ma, sub, cl⟩
    walk_at "rd"
    refine k_rlF (SqL.of (A.same _ _ hp)) ?_
    refine fat_list (xs := xs) (fun j σ H3 => ∃ (ms : List Nat) (w4 w5 : Option V), σ = [some (.ref p), some (.int (a : Int)), some (.ref l), some (.int (0 + (i : Int))), w4, w5] ∧ AccZ K H l H3 (ms.map dN) ∧ ms.Nodup ∧ (∀ x ∈ ms, Rch es a x) ∧ a ∈ ms ∧ (∀ x ∈ ms, x ∈ a :: es.map (·.2)) ∧
        ((ms = ns ∧ ∀ m < j, ∀ e, es[m]? = some e → e.1 ∈ ns → e.2 ∈ ns) ∨ (ns.length < ms.length ∧ ¬ Cl es ns)))
      ⟨ns, u4, u5, rfl, A, nd, rc, ma, sub, .inl ⟨rfl, fun m hm => absurd hm (Nat.not_lt_zero _)⟩⟩ ?_ ?_ ?_
    · rintro j σ H3 _ ⟨ms, w4, w5, rfl, B, _⟩
      exact SqL.of (B.same _ _ hp)
    · rintro j z σ H3 hz ⟨ms, w4, w5, rfl, B, nd2, rc2, ma2, sub2, alt⟩
      obtain ⟨dd, g1, g2⟩ := rx.get hz
      rw [List.getElem?_map] at g1
      obtain ⟨e, he, rfl⟩ := Option.map_eq_some_iff.mp g1
      obtain ⟨x, y⟩ := e
      obtain ⟨b, rfl, hb⟩ := dP_at (g2.same B.same)
      have mem : (x, y) ∈ es := List.mem_of_getElem? he
      have lm : ms.length ≤ 101 := by
        have := nodup_len nd2 sub2
        rw [List.length_cons, List.length_map] at this
        walk_at "om"
      -- an edge that brings nothing new
      have keep : (x ∈ ms → y ∈ ms) → ((ms = ns ∧ ∀ m < j + 1, ∀ e, es[m]? = some e → e.1 ∈ ns → e.2 ∈ ns) ∨ (ns.length < ms.length ∧ ¬ Cl es ns)) := fun z => by
        rcases alt with ⟨e1, e2⟩ | q
        · refine .inl ⟨e1, fun m hm e' ge => ?_⟩
          by_cases mj : m < j
          · exact e2 m mj e' ge
          · have : m = j := by walk_at "om"
            rw [this, he] at ge
            cases Option.some.inj ge
            rw [← e1]
            exact z
        · exact .inr q
      refine k_gTup (SqT.of hb) rfl ?_
      walk_at "rd"
      refine k_inD (d := dN x) (.int _) B.rep (ok_dN ms) rfl (fun mx => ?_) (fun mx => ?_)
      · walk_at "rd"
        refine k_notInD (d := dN y) (.int _) B.rep (ok_dN ms) rfl (fun my => ?_) (fun my => ?_)
        · have ny : y ∉ ms := fun z => my (mem_dN.mpr z)
          have mx' := mem_dN.mp mx
          walk_at "rd"
          refine ⟨B.ty, ?_⟩
          walk_at "rd"
          refine k_appZ B (d := dN y) (.int _) (small1000 (by rw [List.length_map]; walk_at "om")) fun H4 B4 _ _ _ => ?_
          walk_at "rd"
          refine ⟨ms ++ [y], _, _, rfl, by rw [List.map_append]; exact B4, nodup_snoc nd2 ny, all_snoc rc2 (.step (rc2 x mx') mem), List.mem_append_left _ ma2, all_snoc sub2 (List.mem_cons_of_mem _ (List.mem_map.mpr ⟨_, mem, rfl⟩)), .inr ?_⟩
          rcases alt with ⟨e1, e2⟩ | ⟨q1, q2⟩
          · rw [← e1]
            exact ⟨by simp, fun c => ny (c _ mem mx')⟩
          · exact ⟨by simp; walk_at "om", q2⟩
        · walk_at "rd"
          exact ⟨ms, _, _, rfl, B, nd2, rc2, ma2, sub2, keep fun _ => mem_dN.mp my⟩
      · walk_at "rd"
        exact ⟨ms, _, _, rfl, B, nd2, rc2, ma2, sub2, keep fun z => absurd (mem_dN.mpr z) mx⟩
    · rintro σ H3 ⟨ms, w4, w5, rfl, B, nd2, rc2, ma2, sub2, alt⟩
      refine ⟨ms, _, _, _, rfl, B, nd2, rc2, ma2, sub2, ?_⟩
      rcases alt with ⟨e1, e2⟩ | ⟨q1, q2⟩
      · refine .inl fun e he => ?_
        obtain ⟨m, hm, ge⟩ := List.mem_iff_getElem.mp he
        rw [e1]
        exact e2 m (by walk_at "om") e (by rw [List.getElem?_eq_getElem hm, ge])
      · exact .inr (by have := cl.resolve_left q2; walk_at "om")
  · rintro σ H2 ⟨ns, u3, u4, u5, rfl, A, nd, rc, ma, sub, cl⟩
    have c : Cl es ns := by
      rcases cl with c | l1
      · exact c
      · have f := nodup_full nd sub (by rw [List.length_cons, List.length_map]; exact l1)
        exact fun e he _ => f _ (List.mem_cons_of_mem _ (List.mem_map.mpr ⟨e, he, rfl⟩))
    walk_at "rd"
    exact k l H2 ns A nd fun x => ⟨rc x, rch_in ma c⟩
end Ti

namespace L2
open PySem
open PySem.W (Dat)
end L2
namespace Sz
open PySem L2 Fr G1 Sm Vs G2 Rk
open PySem.W (Dat kqdOk)
def dL (r : List Int) : Dat := .list (r.map Dat.int)
theorem dL_at {K : PySem.W.Frag} {S : Addr → Prop} {H : Hp} {v : V} {r : List Int} (h : Rp K S H v (dL r)) : ∃ b, v = .ref b ∧ S b ∧ H b = some (.lst (r.map V.int)) := by
  obtain ⟨b, xs, rfl, s, hb, rx⟩ := Rp.lst_at h
  rw [RpL.ints_of rx] at hb
  exact ⟨b, rfl, s, hb⟩
theorem dL_of {K : PySem.W.Frag} {S : Addr → Prop} {H : Hp} {b : Addr} {r : List Int} (s : S b) (h : H b = some (.lst (r.map V.int))) : Rp K S H (.ref b) (dL r) := .lst s h (RpL.ints r)
end Sz

namespace Sf
open Rk Sz
end Sf

namespace Rw
open PySem L2 Fr G1 Sm Vs G2 Rk Sz Sf
open PySem.W (Dat kqdOk)
def ni (l : List Nat) : List Int := l.map fun i : Nat => (i : Int)
end Rw

namespace Rw
open PySem L2 Fr G1 Sm Vs G2 Rk Sz Sf
open PySem.W (Dat kqdOk)
end Rw

namespace Cl
open Rk Sz Sf
end Cl

namespace Mk
open Rk Sz Sf Cl
end Mk

namespace Rw
open PySem L2 Fr G1 Sm Vs G2 Rk Sz Sf Cl
open PySem.W (Dat kqdOk)
end Rw

namespace L2
open PySem
section
variable {K : PySem.W.Frag} {te : TE} {σ : St} {Q : VK} {H : Hp}
end
end L2
namespace Rw
open PySem L2 Fr G1 Sm Vs G2 Rk Sz Sf Cl
open PySem.W (Dat kqdOk)
def dM (M : List (List Int)) : Dat := .list (M.map dL)
end Rw

namespace Rw
open PySem L2 Fr G1 Sm Vs G2 Rk Sz Sf Cl
open PySem.W (Dat kqdOk)
end Rw

namespace L2
open PySem
end L2
namespace Dn
open PySem L2 Fr G1 Sm Vs G2 Rk Sz
open PySem.W (Dat kqdOk)
end Dn

namespace L2
open PySem
/-- [elt for tg in range(..) if c] -/
theorem compF_range {te : TE} {tc : TT} {σ : St} {Q : VK} {H : Hp} {lo : Int} {n k : Nat} {g : TG} (h : ∀ D, H D = none → ∃ Pv : Nat → Hp → Prop, Pv 0 (upd H D (.lst [])) ∧ (∀ i H2, i < n → Pv i H2 → EltF g k tc te σ (.int (lo + i)) H2 D n i Pv) ∧ ∀ H2, Pv n H2 → Q (.ref D) H2) : CompF (Itr lo n) k g tc te σ Q H := by
  intro D nD
  obtain ⟨Pv, h0, hs, hd⟩ := h D nD
  refine ⟨fun i m H => m = n - i ∧ i ≤ n ∧ Pv i H, ⟨n, by simp, Nat.zero_le _, h0⟩, ?_⟩
  rintro i m H ⟨rfl, hi, p⟩
  by_cases hlt : i < n
  · refine .inr ⟨hlt, fun v H' y us hu => ?_⟩
    obtain ⟨rfl, rfl⟩ := y
    exact hs i _ hlt p us hu
  · have e : i = n := by walk_at "om"
    subst e
    exact .inl ⟨Nat.le_refl _, hd H p⟩
end L2
namespace Dn
open PySem L2 Fr G1 Sm Vs G2 Rk Sz
open PySem.W (Dat kqdOk kas_sort)
end Dn

namespace Dn
open PySem L2 Fr G1 Sm Vs G2 Rk Sz
open PySem.W (Dat kqdOk)
end Dn

namespace Mk
open Rk Sz Sf Cl
end Mk

namespace L2
open PySem
end L2
namespace Dn
open PySem L2 Fr G1 Sm Vs G2 Rk Sz Rw
open PySem.W (Dat kqdOk)
end Dn

namespace Dn
open PySem L2 Fr G1 Sm Vs G2 Rk Sz Sf Rw Cl
end Dn

namespace Lo
open Ti
theorem Rch.trans {es : List (Nat × Nat)} {a b c : Nat} (h : Rch es a b) (k : Rch es b c) : Rch es a c := by
  induction k with
  | refl => exact h
  | step _ m ih => exact .step ih m
def both (es : List (Nat × Nat)) : List (Nat × Nat) := es ++ es.map fun e => (e.2, e.1)
theorem both_sym {es : List (Nat × Nat)} {a b : Nat} (h : (a, b) ∈ both es) : (b, a) ∈ both es := by
  unfold both at h ⊢
  rcases List.mem_append.mp h with h | h
  · exact List.mem_append_right _ (List.mem_map.mpr ⟨_, h, rfl⟩)
  · obtain ⟨e, m, z⟩ := List.mem_map.mp h
    refine List.mem_append_left _ ?_
    obtain ⟨x, y⟩ := e
    simp only [Prod.mk.injEq] at z
    rw [← z.1, ← z.2]; exact m
theorem both_rev {es : List (Nat × Nat)} {a b : Nat} (h : Rch (both es) a b) : Rch (both es) b a := by
  induction h with
  | refl => exact .refl
  | step _ m ih => exact Rch.trans (.step .refl (both_sym m)) ih
theorem both_lt {es : List (Nat × Nat)} {n a b : Nat} (ok : EOk n es) (ha : a < n) (h : Rch (both es) a b) : b < n := by
  induction h with
  | refl => exact ha
  | step _ m _ =>
    rcases List.mem_append.mp m with m | m
    · exact (ok _ m).2
    · obtain ⟨e, m, z⟩ := List.mem_map.mp m
      simp only [Prod.mk.injEq] at z
      rw [← z.2]; exact (ok _ m).1
def at_ (f : List Nat) (i : Nat) : Nat := f.getD i 0
def lsr (f : List Nat) (e : Nat × Nat) : Nat := if at_ f e.2 < at_ f e.1 then at_ f e.2 else at_ f e.1
def gtr (f : List Nat) (e : Nat × Nat) : Nat := if at_ f e.2 > at_ f e.1 then at_ f e.2 else at_ f e.1
def joinF (f : List Nat) (e : Nat × Nat) : List Nat := f.map fun x => if x = gtr f e then lsr f e else x
theorem join_at {f : List Nat} {e : Nat × Nat} {i : Nat} (h : i < f.length) : at_ (joinF f e) i = if at_ f i = gtr f e then lsr f e else at_ f i := by
  unfold joinF at_
  rw [List.getD_eq_getElem?_getD, List.getElem?_map, List.getD_eq_getElem?_getD, List.getElem?_eq_getElem h]
  rfl
theorem ls_gt (f : List Nat) (e : Nat × Nat) : (lsr f e = at_ f e.1 ∧ gtr f e = at_ f e.2 ∧ at_ f e.1 ≤ at_ f e.2) ∨ (lsr f e = at_ f e.2 ∧ gtr f e = at_ f e.1 ∧ at_ f e.2 ≤ at_ f e.1) := by
  unfold lsr gtr
  by_cases h : at_ f e.2 < at_ f e.1
  · right
    rw [if_pos h, if_neg (by walk_at "om")]
    walk_at "om"
  · left
    rw [if_neg h]
    by_cases g : at_ f e.2 > at_ f e.1
    · rw [if_pos g]; walk_at "om"
    · rw [if_neg g]; walk_at "om"
/-- firsts, when the ends `seen` have been seen -/
structure FI (n : Nat) (es seen : List (Nat × Nat)) (f : List Nat) : Prop where
  len : f.length = n
  le : ∀ i < n, at_ f i ≤ i
  fix : ∀ i < n, at_ f (at_ f i) = at_ f i
  tie : ∀ i < n, Rch (both es) i (at_ f i)
  one : ∀ e ∈ seen, at_ f e.1 = at_ f e.2
theorem FI.start (n : Nat) (es : List (Nat × Nat)) : FI n es [] (List.range n) := by
  have e : ∀ i < n, at_ (List.range n) i = i := fun i h => by
    unfold at_
    rw [List.getD_eq_getElem?_getD, List.getElem?_range h]; rfl
  exact ⟨List.length_range, fun i h => by rw [e i h]; exact Nat.le_refl _, fun i h => by rw [e i h, e i h], fun i h => by rw [e i h]; exact .refl, fun e h => by cases h⟩
theorem FI.more {n : Nat} {es seen : List (Nat × Nat)} {f : List Nat} {e : Nat × Nat} (F : FI n es seen f) (ok : EOk n es) (sub : ∀ e ∈ seen, e ∈ es) (m : e ∈ es) : FI n es (seen ++ [e]) (joinF f e) := by
  obtain ⟨l1, l2⟩ := ok e m
  have hl := F.len
  have a1 := F.le e.1 l1
  have a2 := F.le e.2 l2
  have f1 := F.fix e.1 l1
  have f2 := F.fix e.2 l2
  have eg : (e.1, e.2) ∈ both es := List.mem_append_left _ m
  have t12 : Rch (both es) (at_ f e.1) (at_ f e.2) := Rch.trans (both_rev (F.tie e.1 l1)) (Rch.trans (.step .refl eg) (F.tie e.2 l2))
  have gl : Rch (both es) (gtr f e) (lsr f e) := by
    rcases ls_gt f e with ⟨x, y, _⟩ | ⟨x, y, _⟩
    · rw [x, y]; exact both_rev t12
    · rw [x, y]; exact t12
  have hls : lsr f e < n ∧ at_ f (lsr f e) = lsr f e ∧ lsr f e ≤ gtr f e := by
    rcases ls_gt f e with ⟨x, y, z⟩ | ⟨x, y, z⟩
    · rw [x, y]; exact ⟨by walk_at "om", f1, z⟩
    · rw [x, y]; exact ⟨by walk_at "om", f2, z⟩
  refine ⟨by unfold joinF; rw [List.length_map]; exact hl, fun i h => ?_, fun i h => ?_, fun i h => ?_, fun d hd => ?_⟩
  · have := F.le i h
    rw [join_at (by walk_at "om")]
    split
    · rename_i z
      have := hls.2.2
      walk_at "om"
    · exact this
  · have li := F.le i h
    rw [join_at (e := e) (i := i) (by walk_at "om")]
    by_cases z : at_ f i = gtr f e
    · rw [if_pos z, join_at (by walk_at "om"), hls.2.1]
      split <;> rfl
    · rw [if_neg z, join_at (by walk_at "om"), F.fix i h, if_neg z]
  · rw [join_at (by walk_at "om")]
    by_cases z : at_ f i = gtr f e
    · rw [if_pos z]
      have := F.tie i h
      rw [z] at this
      exact Rch.trans this gl
    · rw [if_neg z]; exact F.tie i h
  · rcases List.mem_append.mp hd with hd | hd
    · obtain ⟨d1, d2⟩ := ok d (sub d hd)
      rw [join_at (by walk_at "om"), join_at (by walk_at "om"), F.one d hd]
    · cases List.mem_singleton.mp hd
      rw [join_at (by walk_at "om"), join_at (by walk_at "om")]
      rcases ls_gt f e with ⟨x, y, z⟩ | ⟨x, y, z⟩
      · rw [x, y, if_pos rfl]
        split <;> rfl
      · rw [x, y, if_pos rfl]
        split <;> rfl
def firstsOf (n : Nat) (es : List (Nat × Nat)) : List Nat := es.foldl joinF (List.range n)
theorem first_in {n : Nat} {es : List (Nat × Nat)} (ok : EOk n es) (i : Nat) : FI n es (es.take i) ((es.take i).foldl joinF (List.range n)) := by
  induction i with
  | zero => exact FI.start n es
  | succ i ih =>
    by_cases h : i < es.length
    · rw [List.take_add_one, List.getElem?_eq_getElem h, Option.toList_some, List.foldl_append]
      exact ih.more ok (fun e he => List.mem_of_mem_take he) (List.getElem_mem h)
    · rw [List.take_of_length_le (by walk_at "om")] at ih ⊢
      exact ih
theorem first_all {n : Nat} {es : List (Nat × Nat)} (ok : EOk n es) : FI n es es (firstsOf n es) := by
  have := first_in ok es.length
  rwa [List.take_length] at this
theorem FI.same {n : Nat} {es : List (Nat × Nat)} {f : List Nat} (F : FI n es es f) {i j : Nat} (h : Rch (both es) i j) : at_ f i = at_ f j := by
  induction h with
  | refl => rfl
  | step _ m ih =>
    rw [ih]
    rcases List.mem_append.mp m with m | m
    · exact F.one _ m
    · obtain ⟨e, m, z⟩ := List.mem_map.mp m
      simp only [Prod.mk.injEq] at z
      rw [← z.1, ← z.2]; exact (F.one e m).symm
theorem FI.tied {n : Nat} {es : List (Nat × Nat)} {f : List Nat} (F : FI n es es f) {i j : Nat} (hi : i < n) (hj : j < n) : at_ f i = at_ f j ↔ Rch (both es) i j := by
  refine ⟨fun h => ?_, F.same⟩
  have a := F.tie i hi
  have b := F.tie j hj
  rw [h] at a
  exact Rch.trans a (both_rev b)
def places (f : List Nat) (v : Nat) : List Nat := (List.range f.length).filter fun i => at_ f i = v
def lotsOf (f : List Nat) : List (List Nat) := ((List.range f.length).filter fun v => at_ f v = v).map (places f)
theorem FI.mem {n : Nat} {es seen : List (Nat × Nat)} {f : List Nat} (F : FI n es seen f) {v : Nat} : v ∈ f ↔ v < n ∧ at_ f v = v := by
  constructor
  · intro h
    obtain ⟨i, li, e⟩ := List.mem_iff_getElem.mp h
    have ea : at_ f i = v := by
      unfold at_
      rw [List.getD_eq_getElem?_getD, List.getElem?_eq_getElem li]; exact e
    rw [F.len] at li
    have := F.le i li
    have fx := F.fix i li
    rw [ea] at this fx
    exact ⟨by walk_at "om", fx⟩
  · rintro ⟨h, e⟩
    unfold at_ at e
    rw [List.getD_eq_getElem?_getD, List.getElem?_eq_getElem (by rw [F.len]; exact h)] at e
    exact List.mem_of_getElem (by exact e)
theorem up_of {n : Nat} {es seen : List (Nat × Nat)} {f : List Nat} (F : FI n es seen f) (h8 : n ≤ 8) : L2.upto8 f = (List.range f.length).filter fun v => at_ f v = v := by
  unfold L2.upto8
  have e8 : List.range 8 = List.range f.length ++ (List.range (8 - f.length)).map (f.length + ·) := by
    rw [← List.range_add]; congr 1; have := F.len; walk_at "om"
  rw [e8, List.filter_append]
  have z : ((List.range (8 - f.length)).map (f.length + ·)).filter (fun k => f.contains k) = [] := by
    rw [List.filter_eq_nil_iff]
    intro a ha
    obtain ⟨k, _, rfl⟩ := List.mem_map.mp ha
    rw [List.contains_iff_mem, F.mem]
    have := F.len
    walk_at "om"
  rw [z, List.append_nil]
  refine List.filter_congr fun v hv => ?_
  rw [List.mem_range, F.len] at hv
  rw [Bool.eq_iff_iff, List.contains_iff_mem, F.mem]
  simp [hv]
end Lo

namespace L2
open PySem
theorem bb_min : bootBuiltins "min" = some (.builtin "min") := by decide +kernel
theorem k_listRange {te : TE} {σ : St} {H : Hp} {Q : VK} (h : te σ H fun x H1 => ∃ n : Nat, x = .int (n : Int) ∧ n ≤ 1000 ∧ ∀ l, H1 l = none → Q (.ref l) (upd H1 l (.lst ((List.range n).map fun k : Nat => .int (k : Int))))) : tListRange te σ H Q := h
theorem k_sortSet {K : PySem.W.Frag} {te : TE} {σ : St} {H : Hp} {Q : VK} (h : te σ H fun x H1 => rSortSet K x H1 Q) : tSortSet K te σ H Q := h
end L2
namespace Lo
open PySem L2 Fr G1 Sm Vs G2 Ti Sz Rw
open PySem.W (Dat kqdOk)
def zN (l : List Nat) : List Int := l.map fun k : Nat => (k : Int)
theorem zN_len (l : List Nat) : (zN l).length = l.length := List.length_map _
theorem zV (l : List Nat) : (zN l).map V.int = l.map fun k : Nat => V.int (k : Int) := by unfold zN; rw [List.map_map]; rfl
theorem zN_app (l m : List Nat) : zN (l ++ m) = zN l ++ zN m := List.map_append
theorem at_get {f : List Nat} {i : Nat} (h : i < f.length) : ((zN f).map V.int)[i]? = some (.int (at_ f i : Int)) := by
  rw [zV, List.getElem?_map]
  unfold at_
  rw [List.getD_eq_getElem?_getD, List.getElem?_eq_getElem h]
  rfl
def spPlaces (K : PySem.W.Frag) : Sp := fun vs H Q _ => ∃ (a : Addr) (f : List Nat) (v : Nat), vs = [.ref a, .int (v : Int)] ∧ H a = some (.lst ((zN f).map V.int)) ∧ f.length ≤ 100 ∧ ∀ (p : Addr) (H' : Hp), AccZ K H p H' ((zN (places f v)).map Dat.int) → Q (.ref p) H'
theorem len_places {K : PySem.W.Frag} {vs : List V} {H : Hp} {Q : VK} {E : XK} {x y : Str} (h : spPlaces K vs H Q E) : vs.length = [x, y].length := by
  obtain ⟨a, b, c, rfl, _⟩ := h
  rfl
def t_places (K : PySem.W.Frag) : TS := (tRet (tCompF (iEnum K (tCons (tVar 0) tNil)) 2 (gTup K 2 (gCons (gName 0) (gCons (gName 1) gNil))) (tTest (tOp rEq (tVar 1) (tVar 3))) (tVar 0)))
theorem rd_places {K : PySem.W.Frag} {vs : List V} {H : Hp} {Q : VK} {E : XK} {N : List Str} (hN : N.length = 2) (h : spPlaces K vs H Q E) : t_places K (ends Q) (L2.start N vs) H := by
  obtain ⟨a, f, v, rfl, ha, hl, k⟩ := h
  rw [show L2.start N [.ref a, .int (v : Int)] = [some (.ref a), some (.int (v : Int))] by unfold L2.start; rw [hN]; rfl]
  unfold t_places
  walk_at "rd"
  refine ⟨a, _, rfl, SqL.of ha, ?_⟩
  have lf : ((zN f).map V.int).length = f.length := by rw [List.length_map, zN_len]
  refine compF_enum (xs := (zN f).map V.int) fun D nD => ⟨fun j H2 => AccZ K H D H2 ((zN ((List.range j).filter fun i => at_ f i = v)).map Dat.int), by simpa [zN] using AccZ.start (Same.refl _) nD, fun j H2 _ A => SqL.of (A.same _ _ ha), ?_, ?_⟩
  · intro j x H2 T hx A nT us hu
    obtain ⟨u0, u1, rfl⟩ : ∃ u w, us = [u, w] := lenE2 hu
    have lj : j < f.length := by rw [← lf]; exact (List.getElem?_eq_some_iff.mp hx).1
    rw [at_get lj] at hx
    cases hx
    have er : ((List.range (j + 1)).filter fun i => decide (at_ f i = v)) = ((List.range j).filter fun i => decide (at_ f i = v)) ++ [j].filter fun i => decide (at_ f i = v) := by rw [List.range_succ, List.filter_append]
    have lr : ((List.range j).filter fun i => decide (at_ f i = v)).length ≤ 100 := Nat.le_trans (List.length_filter_le _ _) (by rw [List.length_range]; walk_at "om")
    have S2 := same_new nT (.tup [.int (j : Int), .int (at_ f j : Int)])
    have hT : upd H2 T (.tup [.int (j : Int), .int (at_ f j : Int)]) T = some (.tup [.int (j : Int), .int (at_ f j : Int)]) := upd_same
    have A2 := A.on S2
    generalize upd H2 T (.tup [.int (j : Int), .int (at_ f j : Int)]) = H3 at hT A2 ⊢
    walk_at "rd"
    refine k_gTup (SqT.of hT) rfl ?_
    walk_at "rd"
    refine ⟨⟨[some (.int (j : Int)), some (.int (at_ f j : Int))], rfl, rfl⟩, ?_⟩
    walk_at "rd"
    refine k_ite (fun c => ?_) (fun c => ?_)
    · have c' : at_ f j = v := by
        have : (at_ f j : Int) = (v : Int) := by simpa using c
        walk_at "om"
      walk_at "rd"
      refine pushed (by rw [lf]; exact lj) ?_
      refine A2.pushK (.int (j : Int)) (small1000 (by rw [List.length_map, zN_len]; walk_at "om")) fun H4 A4 => ?_
      show AccZ K H D H4 ((zN ((List.range (j + 1)).filter fun i => decide (at_ f i = v))).map Dat.int)
      rw [er, List.filter_cons_of_pos (by simpa using c'), zN_app, List.map_append]
      exact A4
    · have c' : ¬ at_ f j = v := fun z => c (by simp [z])
      refine skipped (by rw [lf]; exact lj) ?_
      show AccZ K H D H3 ((zN ((List.range (j + 1)).filter fun i => decide (at_ f i = v))).map Dat.int)
      rw [er, List.filter_cons_of_neg (by simpa using c')]
      simpa using A2
  · intro H2 A
    rw [lf] at A
    exact k D H2 A
def lotM (ts : List Tn) : List (List Int) := (lotsOf (firstsOf (hdd ts).length (endsOf ts))).map zN
def spLots (K : PySem.W.Frag) : Sp := fun vs H Q _ => ∃ (v : V) (ws : List Str) (ts : List Tn), vs = [v] ∧ Rz K H v (dV ws ts) ∧ ts.length ≤ 8 ∧ (hdd ts).length ≤ 8 ∧ ∀ (p : Addr) (H' : Hp), Same H H' → Rp K (fun a => H a = none) H' (.ref p) (dM (lotM ts)) → Q (.ref p) H'
theorem len_lots {K : PySem.W.Frag} {vs : List V} {H : Hp} {Q : VK} {E : XK} {x : Str} (h : spLots K vs H Q E) : vs.length = [x].length := by
  obtain ⟨a, b, c, rfl, _⟩ := h
  rfl
def t_lots (K : PySem.W.Frag) : TS := (tSeq (tAsg (tListRange (tCB (rLenQ K) (tCons (tCall (spHeaps K) [] E0 (tCons (tVar 0) tNil)) tNil))) (gName 1))
  (tSeq (tFor (iList K (tCall (spEnds K) [] E0 (tCons (tVar 0) tNil))) (gTup K 2 (gCons (gName 2) (gCons (gName 3) gNil)))
  (tSeq (tAsg (tCB rMin2 (tCons (tOp (rIxL K) (tVar 1) (tVar 2)) (tCons (tOp (rIxL K) (tVar 1) (tVar 3)) tNil))) (gName 4))
  (tSeq (tAsg (tCB rMax2 (tCons (tOp (rIxL K) (tVar 1) (tVar 2)) (tCons (tOp (rIxL K) (tVar 1) (tVar 3)) tNil))) (gName 5))
  (tAsg (tComp (iList K (tVar 1)) (tIf (tTest (tOp rEq (tVar 0) (tVar 6))) (tVar 5) (tVar 0))) (gName 1)))))
  (tRet (tComp (iList K (tSortSet K (tVar 1))) (tCall (spPlaces K) [] E0 (tCons (tVar 2) (tCons (tVar 0) tNil)))))))
theorem rd_lots {K : PySem.W.Frag} {vs : List V} {H : Hp} {Q : VK} {E : XK} {N : List Str} (hN : N.length = 6) (h : spLots K vs H Q E) : t_lots K (ends Q) (L2.start N vs) H := by
  obtain ⟨v, ws, ts, rfl, rv, ht, h8, k⟩ := h
  rw [show L2.start N [v] = [some v, none, none, none, none, none] by unfold L2.start; rw [hN]; rfl]
  unfold t_lots
  walk_at "rd"
  refine k_listRange ?_
  walk_at "rd"
  refine ⟨v, ws, ts, rfl, rv, by walk_at "om", fun p H1 A1 => ?_⟩
  obtain ⟨xs, hp, rx⟩ := A1.at_
  have lx : xs.length = (hdd ts).length := by rw [rx.length, List.length_map]
  have ok := ends_ok ts
  have le : (endsOf ts).length = ts.length := by unfold endsOf; rw [List.length_map]
  unfold lotM at k
  generalize (hdd ts).length = n at lx ok h8 k
  walk_at "rd"
  refine k_lenL (SqL.of hp) ?_
  refine ⟨n, by rw [lx], by walk_at "om", fun l nl => ?_⟩
  have S2 := same_new nl (.lst ((List.range n).map fun k : Nat => .int (k : Int)))
  have hl : upd H1 l (.lst ((List.range n).map fun k : Nat => .int (k : Int))) l = some (.lst ((zN (List.range n)).map V.int)) := by rw [zV]; exact upd_same
  have S02 := A1.same.trans S2
  generalize upd H1 l (.lst ((List.range n).map fun k : Nat => .int (k : Int))) = H2 at S2 hl S02 ⊢
  walk_at "rd"
  refine ⟨v, ws, ts, rfl, rv.same S02, by walk_at "om", fun pe H3 A3 => ?_⟩
  obtain ⟨ys, hpe, ry⟩ := A3.at_
  have S03 := S02.trans A3.same
  generalize endsOf ts = es at ok le ry k A3
  have ly : ys.length = es.length := by rw [ry.length, List.length_map]
  have hl3 := A3.same _ _ hl
  walk_at "rd"
  refine k_rlF (SqL.of hpe) ?_
  refine fat_list (xs := ys) (fun j σ H4 => ∃ (l : Addr) (u2 u3 u4 u5 : Option V), σ = [some v, some (.ref l), u2, u3, u4, u5] ∧ Same H3 H4 ∧ H4 l = some (.lst ((zN ((es.take j).foldl joinF (List.range n))).map V.int))) ⟨l, none, none, none, none, rfl, Same.refl _, hl3⟩ (fun j σ H4 _ ⟨_, _, _, _, _, _, S, _⟩ => SqL.of (S _ _ hpe)) ?_ ?_
  · rintro j x σ H4 hx ⟨m, u2, u3, u4, u5, rfl, S4, hm⟩
    have lj := (List.getElem?_eq_some_iff.mp hx).1
    obtain ⟨d, g1, g2⟩ := ry.get hx
    rw [List.getElem?_map] at g1
    obtain ⟨e, he, rfl⟩ := Option.map_eq_some_iff.mp g1
    obtain ⟨b, rfl, hb⟩ := dP_at (g2.same S4)
    have FI := first_in ok j
    have et : (es.take (j + 1)).foldl joinF (List.range n) = joinF ((es.take j).foldl joinF (List.range n)) e := by rw [List.take_add_one, he, Option.toList_some, List.foldl_append]; rfl
    obtain ⟨o1, o2⟩ := ok e (List.mem_of_getElem? he)
    have lf := FI.len
    rw [et]
    generalize (es.take j).foldl joinF (List.range n) = f at hm FI lf
    refine k_gTup (SqT.of hb) rfl ?_
    walk_at "rd"
    refine k_ixL (SqL.of hm) (atI_nat (at_get (i := e.1) (by walk_at "om"))) ?_
    walk_at "rd"
    refine k_ixL (SqL.of hm) (atI_nat (at_get (i := e.2) (by walk_at "om"))) ?_
    walk_at "rd"
    refine ⟨_, _, rfl, ?_⟩
    have q1 : (if (at_ f e.2 : Int) < (at_ f e.1 : Int) then (at_ f e.2 : Int) else (at_ f e.1 : Int)) = (lsr f e : Int) := by
      unfold lsr
      by_cases c : at_ f e.2 < at_ f e.1
      · rw [if_pos c, if_pos (by walk_at "om")]
      · rw [if_neg c, if_neg (by walk_at "om")]
    have q2 : (if (at_ f e.2 : Int) > (at_ f e.1 : Int) then (at_ f e.2 : Int) else (at_ f e.1 : Int)) = (gtr f e : Int) := by
      unfold gtr
      by_cases c : at_ f e.2 > at_ f e.1
      · rw [if_pos c, if_pos (by walk_at "om")]
      · rw [if_neg c, if_neg (by walk_at "om")]
    rw [q1]
    walk_at "rd"
    refine k_ixL (SqL.of hm) (atI_nat (at_get (i := e.1) (by walk_at "om"))) ?_
    walk_at "rd"
    refine k_ixL (SqL.of hm) (atI_nat (at_get (i := e.2) (by walk_at "om"))) ?_
    walk_at "rd"
    refine ⟨_, _, rfl, ?_⟩
    rw [q2]
    walk_at "rd"
    refine k_rlC (SqL.of hm) ?_
    have lzf : ((zN f).map V.int).length = f.length := by rw [List.length_map, zN_len]
    refine comp_list (xs := (zN f).map V.int) fun D nD => ⟨fun i H5 => AccZ K H4 D H5 ((zN ((joinF f e).take i)).map Dat.int), by simpa [zN] using AccZ.start (Same.refl _) nD, fun i H5 _ A => SqL.of (A.same _ _ hm), ?_, ?_⟩
    · intro i x H5 hx A
      have li : i < f.length := by rw [← lzf]; exact (List.getElem?_eq_some_iff.mp hx).1
      rw [at_get li] at hx
      cases hx
      have ej : (joinF f e)[i]? = some (if at_ f i = gtr f e then lsr f e else at_ f i) := by
        have lj2 : i < (joinF f e).length := by unfold joinF; rw [List.length_map]; exact li
        rw [← join_at (e := e) li]
        unfold at_
        rw [List.getD_eq_getElem?_getD, List.getElem?_eq_getElem lj2]
        rfl
      have fin : ∀ (w : Nat), w = (if at_ f i = gtr f e then lsr f e else at_ f i) → EltK D ((zN f).map V.int).length i (fun i H5 => AccZ K H4 D H5 ((zN ((joinF f e).take i)).map Dat.int)) (.int (w : Int)) H5 := fun w hw => by
        refine pushed (by rw [lzf]; exact li) ?_
        refine A.pushK (.int (w : Int)) (small1000 (by rw [List.length_map, zN_len, List.length_take]; walk_at "om")) fun H6 A6 => ?_
        show AccZ K H4 D H6 ((zN ((joinF f e).take (i + 1))).map Dat.int)
        rw [List.take_add_one, ej, ← hw, Option.toList_some, zN_app, List.map_append]
        exact A6
      walk_at "rd"
      refine k_ite (fun c => ?_) (fun c => ?_)
      · have c' : at_ f i = gtr f e := by
          have : (at_ f i : Int) = (gtr f e : Int) := by simpa using c
          walk_at "om"
        walk_at "rd"
        exact fin (lsr f e) (by rw [if_pos c'])
      · have c' : ¬ at_ f i = gtr f e := fun z => c (by simp [z])
        walk_at "rd"
        exact fin (at_ f i) (by rw [if_neg c'])
    · intro H5 A
      have lJ : (joinF f e).length = f.length := by unfold joinF; rw [List.length_map]
      rw [lzf, ← lJ, List.take_length] at A
      exact ⟨D, _, _, _, _, rfl, S4.trans A.same, AccZ.ints A⟩
  · rintro σ H4 ⟨m, u2, u3, u4, u5, rfl, S4, hm⟩
    rw [ly, List.take_length] at hm
    have FI := first_all ok
    have FI' := FI
    unfold firstsOf at FI k
    generalize es.foldl joinF (List.range n) = f at hm FI k
    have lf := FI.len
    have f8 : ∀ x ∈ f, x < 8 := fun x hx => by have := (FI.mem.mp hx).1; walk_at "om"
    walk_at "rd"
    refine k_sortSet ?_
    walk_at "rd"
    refine ⟨m, f, rfl, by rw [← zV]; exact SqL.of hm, f8, fun q nq => ?_⟩
    have eu := up_of FI h8
    have el : (upto8 f).map (places f) = lotsOf f := by rw [eu]; rfl
    have S5 := same_new nq (.lst ((upto8 f).map fun k : Nat => .int (k : Int)))
    have hq : upd H4 q (.lst ((upto8 f).map fun k : Nat => .int (k : Int))) q = some (.lst ((upto8 f).map fun k : Nat => .int (k : Int))) := upd_same
    generalize upd H4 q (.lst ((upto8 f).map fun k : Nat => .int (k : Int))) = H5 at S5 hq ⊢
    have lu : ((upto8 f).map fun k : Nat => V.int (k : Int)).length = (upto8 f).length := List.length_map _
    have lu8 : (upto8 f).length ≤ 8 := by unfold upto8; exact List.length_filter_le _ _
    refine k_rlC (SqL.of hq) ?_
    refine comp_list (xs := (upto8 f).map fun k : Nat => .int (k : Int)) fun D nD => ⟨fun i H6 => Acc K H5 D H6 ((((upto8 f).take i).map fun v => zN (places f v)).map dL), by simpa using Acc.start nD, fun i H6 _ A => SqL.of (A.same _ _ hq), ?_, ?_⟩
    · intro i x H6 hx A
      have li := (List.getElem?_eq_some_iff.mp hx).1
      rw [List.getElem?_map] at hx
      obtain ⟨w, hw, rfl⟩ := Option.map_eq_some_iff.mp hx
      walk_at "rd"
      refine ⟨m, f, w, rfl, A.same _ _ (S5 _ _ hm), by walk_at "om", fun r H7 C => ?_⟩
      refine pushed li ?_
      refine A.pushK C.same (d := dL (zN (places f w))) C.ref (small1000 (by rw [List.length_map, List.length_map, List.length_take]; walk_at "om")) fun H8 A8 => ?_
      show Acc K H5 D H8 ((((upto8 f).take (i + 1)).map fun v => zN (places f v)).map dL)
      rw [List.take_add_one, hw, List.map_append, List.map_append]
      exact A8
    · intro H6 A
      rw [lu, List.take_length] at A
      have S06 := S03.trans (S4.trans S5)
      have em : ((upto8 f).map fun v => zN (places f v)) = (lotsOf f).map zN := by rw [← el, List.map_map]; rfl
      rw [em] at A
      exact k D H6 (S06.trans A.same) (A.ref.mono fun _ z => S06.free z)
end Lo

namespace Bo
end Bo

namespace Bo
end Bo

namespace Bo
end Bo

namespace L2
open PySem
end L2
namespace Br
open PySem L2 Fr G1 Sm Vs G2 Rk Sz Sf Rw
open PySem.W (Dat kqdOk)
end Br

namespace Bo
end Bo
namespace Br
open Rk Sf Rw
section
variable {R : List (List Int)} {es : List Int} {size : Nat}
end
end Br

namespace Bo
end Bo
namespace Br
open Rk Sf Rw Bo
section
variable {R : List (List Int)} {n : Nat}
end
section
variable {B : List (List Int)} {hs : List Nat} {m : Nat}
end
section
variable {R : List (List Int)} {n : Nat}
end
end Br
namespace Br
open Rk Sf Rw Bo
section
variable (R : List (List Int)) (n : Nat)
end
section
variable {R : List (List Int)} {n k : Nat} {B : List (List Int)} {hs : List Nat}
end
end Br

namespace Br
open PySem L2 Fr G1 Sm Vs G2 Rk Sz Sf Rw
open PySem.W (Dat kqdOk)
end Br

namespace Br
open Rk Sf Rw Bo
end Br

namespace L2
open PySem PySem.Spec PyProof.Rows
open PySem.W (Dat kqdP kqdPs kqdOk)
end L2
namespace Br
open PySem L2 Fr G1 Sm Vs G2 Rk Sz Sf Rw Cl
open PySem.W (Dat kqdOk)
open PyProof.Rows
end Br

namespace Br
open PySem L2 Fr G1 Sm Vs G2 Rk Sz Sf Rw Cl
open PySem.W (Dat kqdOk)
end Br

namespace Br
open PySem L2 Fr G1 Sm Vs G2 Rk Sz Sf Rw Cl
open PySem.W (Dat kqdOk)
end Br

namespace Br
open Rk Sf Rw Bo Cl
section
variable {R : List (List Int)} {n : Nat}
end
end Br

namespace Fr
theorem low_rat {t b q d : Int} (hb : b ≠ 0) (L : Gd.Low t b q d) : q = (Rat.divInt t b).num ∧ d = ((Rat.divInt t b).den : Int) := by
  obtain ⟨pos, low, worth⟩ := L
  have e : Rat.divInt t b = Rat.divInt q d := (Rat.divInt_eq_divInt_iff hb (by walk_at "om")).mpr worth.symm
  have cp : Nat.Coprime q.natAbs d.natAbs := by
    unfold Gd.gd at low
    unfold Nat.Coprime
    have : Int.gcd q d = Nat.gcd q.natAbs d.natAbs := rfl
    walk_at "om"
  have m : Rat.mk' q d.natAbs (by walk_at "om") cp = Rat.divInt q d := by
    rw [Rat.mk_eq_divInt]
    congr 1
    walk_at "om"
  rw [e, ← m]
  exact ⟨rfl, by show d = (d.natAbs : Int); walk_at "om"⟩
theorem rat_eta (x : Rat) : Rat.divInt x.num (x.den : Int) = x := Rat.num_divInt_den x
theorem rat_add (x y : Rat) : Rat.divInt (x.num * (y.den : Int) + y.num * (x.den : Int)) ((x.den : Int) * (y.den : Int)) = x + y := by
  have h1 : (x.den : Int) ≠ 0 := by have := x.den_nz; walk_at "om"
  have h2 : (y.den : Int) ≠ 0 := by have := y.den_nz; walk_at "om"
  rw [← Rat.divInt_add_divInt _ _ h1 h2, rat_eta, rat_eta]
theorem rat_mul (x y : Rat) : Rat.divInt (x.num * y.num) ((x.den : Int) * (y.den : Int)) = x * y := by
  rw [← Rat.divInt_mul_divInt, rat_eta, rat_eta]
theorem den_ne (x y : Rat) : (x.den : Int) * (y.den : Int) ≠ 0 := by
  have := x.den_nz
  have := y.den_nz
  exact Int.mul_ne_zero (by walk_at "om") (by walk_at "om")
end Fr

namespace Tr
def ls {α : Type} (l : List α) (f : α → Rat) : Rat := (l.map f).sum
theorem ls_nil {α : Type} (f : α → Rat) : ls [] f = 0 := rfl
theorem ls_cons {α : Type} (a : α) (l : List α) (f : α → Rat) : ls (a :: l) f = f a + ls l f := rfl
theorem ls_congr {α : Type} {l : List α} {f g : α → Rat} (h : ∀ x ∈ l, f x = g x) : ls l f = ls l g := by
  unfold ls
  rw [List.map_congr_left h]
theorem ls_add {α : Type} (l : List α) (f g : α → Rat) : ls l (fun x => f x + g x) = ls l f + ls l g := by
  induction l with
  | nil => exact (Rat.add_zero 0).symm
  | cons a l ih => rw [ls_cons, ls_cons, ls_cons, ih]; grind
theorem ls_zero {α : Type} {l : List α} {f : α → Rat} (h : ∀ x ∈ l, f x = 0) : ls l f = 0 := by
  induction l with
  | nil => rfl
  | cons a l ih => rw [ls_cons, h a List.mem_cons_self, ih fun x hx => h x (List.mem_cons_of_mem _ hx), Rat.add_zero]
theorem ls_swap {α β : Type} (l : List α) (m : List β) (f : α → β → Rat) : ls l (fun x => ls m (f x)) = ls m fun y => ls l fun x => f x y := by
  induction l with
  | nil => exact (ls_zero fun _ _ => rfl).symm
  | cons a l ih =>
    rw [ls_cons, ih, ← ls_add]
    rfl
section
variable (fm : Nat → List Nat)
def up (g : Nat → Nat) (h k : Nat) : Nat → Nat := fun x => if x = h then k else g x
/-- the sum over all that pick one of fm h for each h -/
def T : List Nat → ((Nat → Nat) → Rat) → Rat
  | [], F => F fun _ => 0
  | h :: hs, F => ls (fm h) fun k => T hs fun g => F (up g h k)
variable {fm}
theorem T_congr : ∀ {hs : List Nat} {F G : (Nat → Nat) → Rat}, hs.Nodup → (∀ g, (∀ h ∈ hs, g h ∈ fm h) → F g = G g) → T fm hs F = T fm hs G
  | [], F, G, _, e => e _ fun h hh => by cases hh
  | h :: hs, F, G, nd, e => ls_congr fun k hk => T_congr (List.nodup_cons.mp nd).2 fun g hg => e _ fun x hx => by
    unfold up
    by_cases q : x = h
    · rw [if_pos q, q]; exact hk
    · rw [if_neg q]
      exact hg x ((List.mem_cons.mp hx).resolve_left q)
theorem T_all {hs : List Nat} {F G : (Nat → Nat) → Rat} (e : ∀ g, F g = G g) : T fm hs F = T fm hs G := by rw [show F = G from funext e]
theorem up_up {g : Nat → Nat} {h h' k k' : Nat} (n : h ≠ h') : up (up g h k) h' k' = up (up g h' k') h k := by
  funext x
  unfold up
  by_cases a : x = h'
  · rw [if_pos a, if_neg fun e => n (e.symm.trans a), if_pos a]
  · rw [if_neg a, if_neg a]
theorem T_swap {h h' : Nat} {hs : List Nat} {F : (Nat → Nat) → Rat} (n : h ≠ h') : T fm (h :: h' :: hs) F = T fm (h' :: h :: hs) F := by
  show ls (fm h) (fun k => ls (fm h') fun k' => T fm hs fun g => F (up (up g h' k') h k)) = ls (fm h') fun k' => ls (fm h) fun k => T fm hs fun g => F (up (up g h k) h' k')
  rw [ls_swap]
  exact ls_congr fun k' _ => ls_congr fun k _ => T_all fun g => by rw [up_up n]
theorem T_perm {l l' : List Nat} (p : l.Perm l') : ∀ {F : (Nat → Nat) → Rat}, l.Nodup → T fm l F = T fm l' F := by
  induction p with
  | nil => exact fun _ => rfl
  | cons x _ ih => exact fun nd => ls_congr fun k _ => ih (List.nodup_cons.mp nd).2
  | swap x y l => exact fun nd => T_swap fun e => (List.nodup_cons.mp nd).1 (e ▸ List.mem_cons_self)
  | trans p1 _ ih1 ih2 => exact fun nd => (ih1 nd).trans (ih2 (p1.nodup_iff.mp nd))
end
def itr (f : Nat → Nat) : Nat → Nat → Nat
  | 0, x => x
  | n + 1, x => f (itr f n x)
theorem itr_add (f : Nat → Nat) (a : Nat) : ∀ (b x : Nat), itr f (b + a) x = itr f b (itr f a x)
  | 0, x => by rw [Nat.zero_add]; rfl
  | b + 1, x => by rw [Nat.add_right_comm]; exact congrArg f (itr_add f a b x)
theorem itr_in {f : Nat → Nat} {L : List Nat} (hf : ∀ h ∈ L, f h ∈ L) {x : Nat} (hx : x ∈ L) : ∀ n, itr f n x ∈ L
  | 0 => hx
  | n + 1 => hf _ (itr_in hf hx n)
def stp (s : Nat → Nat) (r : Nat) : Nat → Nat := fun x => if x = r then r else s x
/-- all of L lead to r -/
def All (s : Nat → Nat) (L : List Nat) (r : Nat) : Prop := ∀ h ∈ L, ∃ n, itr s n h = r
def Tree (s : Nat → Nat) (L : List Nat) (r : Nat) : Prop := ∀ h ∈ L, itr (stp s r) L.length h = r
theorem stp_stay (s : Nat → Nat) (r : Nat) : ∀ n, itr (stp s r) n r = r
  | 0 => rfl
  | n + 1 => by
    show stp s r (itr (stp s r) n r) = r
    rw [stp_stay s r n]
    exact if_pos rfl
theorem stp_same {s : Nat → Nat} {r h : Nat} : ∀ n, (∀ m, m < n → itr s m h ≠ r) → itr (stp s r) n h = itr s n h
  | 0, _ => rfl
  | n + 1, d => by
    show stp s r (itr (stp s r) n h) = s (itr s n h)
    rw [stp_same n fun m hm => d m (by walk_at "om")]
    exact if_neg (d n (by walk_at "om"))
theorem least {P : Nat → Prop} : ∀ n, P n → ∃ m, m ≤ n ∧ P m ∧ ∀ k, k < m → ¬ P k
  | n, h => by
    induction n using Nat.strongRecOn with
    | _ n ih =>
      by_cases q : ∃ k, k < n ∧ P k
      · obtain ⟨k, hk, pk⟩ := q
        obtain ⟨m, hm, r⟩ := ih k hk pk
        exact ⟨m, by walk_at "om", r⟩
      · exact ⟨n, Nat.le_refl _, h, fun k hk pk => q ⟨k, hk, pk⟩⟩
section
variable (es : List (Nat × Nat)) (pc : Nat → Rat)
def fro (k : Nat) : Nat := (es.getD k (0, 0)).1
def tow (k : Nat) : Nat := (es.getD k (0, 0)).2
def frm (h : Nat) : List Nat := (List.range es.length).filter fun k => fro es k == h
def oth (L : List Nat) (r : Nat) : List Nat := L.filter fun x => x != r
def prd (g : Nat → Nat) : List Nat → Rat
  | [] => 1
  | h :: hs => pc (g h) * prd g hs
open Classical in
/-- the tree weight of r in the lot L -/
noncomputable def W (L : List Nat) (r : Nat) : Rat := T (frm es) (oth L r) fun g => if Tree (fun h => tow es (g h)) L r then prd pc g (oth L r) else 0
variable {es} {pc}
theorem prd_perm {g : Nat → Nat} {l l' : List Nat} (p : l.Perm l') : prd pc g l = prd pc g l' := by
  induction p with
  | nil => rfl
  | cons x _ ih => exact congrArg (pc (g x) * ·) ih
  | swap x y l => show pc (g y) * (pc (g x) * prd pc g l) = pc (g x) * (pc (g y) * prd pc g l); grind
  | trans _ _ ih1 ih2 => exact ih1.trans ih2
theorem oth_perm {L : List Nat} (nd : L.Nodup) {i : Nat} (hi : i ∈ L) : L.Perm (i :: oth L i) := by
  have := List.perm_cons_erase hi
  rw [nd.erase_eq_filter] at this
  exact this
theorem oth_not {L : List Nat} {i : Nat} : i ∉ oth L i := fun h => by
  have := (List.mem_filter.mp h).2
  simp at this
end
end Tr

namespace Tr
open PySem L2 Fr G1 Sm Vs G2 Rk Sz Sf Rw Ti
open PySem.W (Dat kqdOk)
def dQ (x : Rat) : Dat := dI [x.num, (x.den : Int)]
/-- the fraction x stands there: a tuple of ours, or a constant of the program -/
def QV (K : PySem.W.Frag) (H : Hp) (v : V) (x : Rat) : Prop := ∃ a : Addr, v = .ref a ∧ SqT K H a [.int x.num, .int (x.den : Int)]
theorem QV.of {K : PySem.W.Frag} {H : Hp} {v : V} {x : Rat} (h : Rz K H v (dQ x)) : QV K H v x := by
  obtain ⟨a, e, ha⟩ := dI_at h
  exact ⟨a, e, SqT.of ha⟩
/-- few bits -/
def Bq (n : Nat) (x : Rat) : Prop := x.num.natAbs < 2 ^ n ∧ x.den < 2 ^ n
def spFracQ (K : PySem.W.Frag) : Sp := fun vs H Q _ => ∃ t b : Int, vs = [.int t, .int b] ∧ b ≠ 0 ∧ t.natAbs < 2 ^ 8000 ∧ b.natAbs < 2 ^ 8000 ∧ ∀ (p : Addr) (H' : Hp), Same H H' → Rz K H' (.ref p) (dQ (Rat.divInt t b)) → Q (.ref p) H'
theorem len_fracQ {K : PySem.W.Frag} {vs : List V} {H : Hp} {Q : VK} {E : XK} {x y : Str} (h : spFracQ K vs H Q E) : vs.length = [x, y].length := by
  obtain ⟨a, b, rfl, _⟩ := h
  rfl
def t_fracQ (K : PySem.W.Frag) : TS := (tSeq (tIfS (tOr (tNot (tB (tCall spWhole [] E0 (tCons (tVar 0) tNil)))) (tNot (tB (tCall spWhole [] E0 (tCons (tVar 1) tNil)))))
  tNever
  tNext)
  (tSeq (tIfS (tTest (tOp rEq (tVar 1) (tC (.int 0))))
  tNever
  tNext)
  (tSeq (tAsg (tCall spDiv [] E0 (tCons (tVar 0) (tCons (tVar 1) tNil))) (gName 2))
  (tSeq (tIfS (tTest (tOp rLt (tVar 1) (tC (.int 0))))
  (tAsg (tUn (rU fun i => .int (-i)) (tVar 2)) (gName 2))
  tNext)
  (tRet (tTup (tCons (tOp rDivW (tVar 0) (tVar 2)) (tCons (tOp rDivW (tVar 1) (tVar 2)) tNil))))))))
theorem rd_fracQ {K : PySem.W.Frag} {vs : List V} {H : Hp} {Q : VK} {E : XK} {N : List Str} (hN : N.length = 3) (h : spFracQ K vs H Q E) : t_fracQ K (ends Q) (L2.start N vs) H := by
  obtain ⟨t, b, rfl, b0, ht, hb, k⟩ := h
  rw [show L2.start N [.int t, .int b] = [some (.int t), some (.int b), none] by unfold L2.start; rw [hN]; rfl]
  unfold t_fracQ
  have p2 : (2 : Nat) ^ 8000 < 2 ^ 9000 := Nat.pow_lt_pow_right (by decide) (by decide)
  generalize (2 : Nat) ^ 8000 = P at ht hb p2
  have gp := Gd.gd_pos (a := t) b0
  have gl := Gd.gd_le (a := t) b0
  have fin : ∀ d : Int, (d = Gd.gd t b ∧ 0 < b ∨ d = - Gd.gd t b ∧ b < 0) → tRet (tTup (tCons (tOp rDivW (tVar 0) (tVar 2)) (tCons (tOp rDivW (tVar 1) (tVar 2)) tNil))) (ends Q) [some (.int t), some (.int b), some (.int d)] H := by
    intro d hd
    obtain ⟨e1, e2⟩ := low_rat b0 (Gd.low_of b0 hd)
    have dn : d ≠ 0 := by rcases hd with ⟨z, _⟩ | ⟨z, _⟩ <;> walk_at "om"
    have dw : d.natAbs < 2 ^ 9000 := by
      refine Nat.lt_of_le_of_lt ?_ (Nat.lt_trans hb p2)
      rcases hd with ⟨z, _⟩ | ⟨z, _⟩ <;> walk_at "om"
    walk_at "rd"
    refine ⟨_, _, rfl, rfl, ⟨dn, dw⟩, ?_⟩
    walk_at "rd"
    refine ⟨_, _, rfl, rfl, ⟨dn, dw⟩, ?_⟩
    walk_at "rd"
    refine ⟨by show 2 ≤ sizeLine; decide, fun p np => ?_⟩
    show Q (.ref p) (upd H p (.tup [.int (t.fdiv d), .int (b.fdiv d)]))
    rw [e1, e2]
    exact k p _ (same_new np _) (.tup upd_same (RpL.ints [_, _]))
  walk_at "rd"
  refine ⟨t, rfl, ?_⟩
  walk_at "rd"
  refine ⟨b, rfl, ?_⟩
  walk_at "rd"
  refine k_ite (fun z => absurd z b0) (fun _ => ?_)
  walk_at "rd"
  refine ⟨t, b, rfl, ?_⟩
  walk_at "rd"
  refine k_ite (fun c => ?_) (fun c => ?_)
  · obtain h2 := fin _ (.inr ⟨rfl, c⟩)
    refine k_asg ?_
    walk_at "rd1"
    refine k_var (i := 2) rfl ?_
    refine k_rU ?_
    refine k_gName ?_
    exact h2
  · exact fin _ (.inl ⟨rfl, by walk_at "om"⟩)
def spPlusQ (K : PySem.W.Frag) : Sp := fun vs H Q _ => ∃ (v u : V) (x y : Rat), vs = [v, u] ∧ QV K H v x ∧ QV K H u y ∧ Bq 3900 x ∧ Bq 3900 y ∧ ∀ (p : Addr) (H' : Hp), Same H H' → Rz K H' (.ref p) (dQ (x + y)) → Q (.ref p) H'
def spTimesQ (K : PySem.W.Frag) : Sp := fun vs H Q _ => ∃ (v u : V) (x y : Rat), vs = [v, u] ∧ QV K H v x ∧ QV K H u y ∧ Bq 3900 x ∧ Bq 3900 y ∧ ∀ (p : Addr) (H' : Hp), Same H H' → Rz K H' (.ref p) (dQ (x * y)) → Q (.ref p) H'
theorem len_plusQ {K : PySem.W.Frag} {vs : List V} {H : Hp} {Q : VK} {E : XK} {x y : Str} (h : spPlusQ K vs H Q E) : vs.length = [x, y].length := by
  obtain ⟨a, b, c, d, rfl, _⟩ := h
  rfl
theorem len_timesQ {K : PySem.W.Frag} {vs : List V} {H : Hp} {Q : VK} {E : XK} {x y : Str} (h : spTimesQ K vs H Q E) : vs.length = [x, y].length := by
  obtain ⟨a, b, c, d, rfl, _⟩ := h
  rfl
theorem dQ_at {K : PySem.W.Frag} {H : Hp} {v : V} {x : Rat} (h : Rz K H v (dQ x)) : ∃ a : Addr, v = .ref a ∧ H a = some (.tup [.int x.num, .int (x.den : Int)]) := dI_at h
theorem Bq.mul {x y : Int} (hx : x.natAbs < 2 ^ 3900) (hy : y.natAbs < 2 ^ 3900) : (x * y).natAbs < 2 ^ 7800 := by
  rw [Int.natAbs_mul]
  have := Nat.mul_lt_mul'' hx hy
  rwa [← Nat.pow_add] at this
theorem pw_lt {a b : Nat} (h : a < b) : (2 : Nat) ^ a < 2 ^ b := Nat.pow_lt_pow_right (by decide) h
theorem Bq.w {x : Int} (h : x.natAbs < 2 ^ 3900) : x.natAbs < 2 ^ 20000 := Nat.lt_trans h (pw_lt (by decide))
theorem Bq.d {x : Rat} (h : Bq 3900 x) : ((x.den : Nat) : Int).natAbs < 2 ^ 3900 := h.2
theorem Bq.sum {x y : Int} (hx : x.natAbs < 2 ^ 7800) (hy : y.natAbs < 2 ^ 7800) : (x + y).natAbs < 2 ^ 8000 := by
  refine Nat.lt_of_lt_of_le (Nat.lt_of_le_of_lt (Int.natAbs_add_le x y) (Nat.add_lt_add hx hy)) ?_
  rw [← Nat.two_mul, Nat.mul_comm, ← Nat.pow_succ]
  exact Nat.pow_le_pow_right (by decide) (by decide)
def t_plusQ (K : PySem.W.Frag) : TS := (tRet (tCall (spFracQ K) [] E0 (tCons (tOp qAdd (tOp rMulW (tOp (rIxT K) (tVar 0) (tC (.int 0))) (tOp (rIxT K) (tVar 1) (tC (.int 1)))) (tOp rMulW (tOp (rIxT K) (tVar 1) (tC (.int 0))) (tOp (rIxT K) (tVar 0) (tC (.int 1))))) (tCons (tOp rMulW (tOp (rIxT K) (tVar 0) (tC (.int 1))) (tOp (rIxT K) (tVar 1) (tC (.int 1)))) tNil))))
theorem rd_plusQ {K : PySem.W.Frag} {vs : List V} {H : Hp} {Q : VK} {E : XK} {N : List Str} (hN : N.length = 2) (h : spPlusQ K vs H Q E) : t_plusQ K (ends Q) (L2.start N vs) H := by
  obtain ⟨v, u, x, y, rfl, rv, ru, bx, by_, k⟩ := h
  obtain ⟨a, rfl, ha⟩ := rv
  obtain ⟨b, rfl, hb⟩ := ru
  rw [show L2.start N [.ref a, .ref b] = [some (.ref a), some (.ref b)] by unfold L2.start; rw [hN]; rfl]
  unfold t_plusQ
  walk_at "rd"
  refine k_ixT ha (v := .int x.num) rfl ?_
  walk_at "rd"
  refine k_ixT hb (v := .int (y.den : Int)) rfl ?_
  refine ⟨_, _, rfl, rfl, ⟨Bq.w bx.1, Bq.w by_.d⟩, ?_⟩
  walk_at "rd"
  refine k_ixT hb (v := .int y.num) rfl ?_
  walk_at "rd"
  refine k_ixT ha (v := .int (x.den : Int)) rfl ?_
  refine ⟨_, _, rfl, rfl, ⟨Bq.w by_.1, Bq.w bx.d⟩, ?_⟩
  walk_at "rd"
  refine k_ixT ha (v := .int (x.den : Int)) rfl ?_
  walk_at "rd"
  refine k_ixT hb (v := .int (y.den : Int)) rfl ?_
  refine ⟨_, _, rfl, rfl, ⟨Bq.w bx.d, Bq.w by_.d⟩, ?_⟩
  walk_at "rd"
  refine ⟨_, _, rfl, den_ne x y, Bq.sum (Bq.mul bx.1 by_.d) (Bq.mul by_.1 bx.d), Nat.lt_trans (Bq.mul bx.d by_.d) (pw_lt (by decide)), fun p H' S r => ?_⟩
  rw [rat_add] at r
  exact k p H' S r
def t_timesQ (K : PySem.W.Frag) : TS := (tRet (tCall (spFracQ K) [] E0 (tCons (tOp rMulW (tOp (rIxT K) (tVar 0) (tC (.int 0))) (tOp (rIxT K) (tVar 1) (tC (.int 0)))) (tCons (tOp rMulW (tOp (rIxT K) (tVar 0) (tC (.int 1))) (tOp (rIxT K) (tVar 1) (tC (.int 1)))) tNil))))
theorem rd_timesQ {K : PySem.W.Frag} {vs : List V} {H : Hp} {Q : VK} {E : XK} {N : List Str} (hN : N.length = 2) (h : spTimesQ K vs H Q E) : t_timesQ K (ends Q) (L2.start N vs) H := by
  obtain ⟨v, u, x, y, rfl, rv, ru, bx, by_, k⟩ := h
  obtain ⟨a, rfl, ha⟩ := rv
  obtain ⟨b, rfl, hb⟩ := ru
  rw [show L2.start N [.ref a, .ref b] = [some (.ref a), some (.ref b)] by unfold L2.start; rw [hN]; rfl]
  unfold t_timesQ
  walk_at "rd"
  refine k_ixT ha (v := .int x.num) rfl ?_
  walk_at "rd"
  refine k_ixT hb (v := .int y.num) rfl ?_
  refine ⟨_, _, rfl, rfl, ⟨Bq.w bx.1, Bq.w by_.1⟩, ?_⟩
  walk_at "rd"
  refine k_ixT ha (v := .int (x.den : Int)) rfl ?_
  walk_at "rd"
  refine k_ixT hb (v := .int (y.den : Int)) rfl ?_
  refine ⟨_, _, rfl, rfl, ⟨Bq.w bx.d, Bq.w by_.d⟩, ?_⟩
  walk_at "rd"
  refine ⟨_, _, rfl, den_ne x y, Nat.lt_trans (Bq.mul bx.1 by_.1) (pw_lt (by decide)), Nat.lt_trans (Bq.mul bx.d by_.d) (pw_lt (by decide)), fun p H' S r => ?_⟩
  rw [rat_mul] at r
  exact k p H' S r
theorem Acc.ext {K : PySem.W.Frag} {H0 H : Hp} {l b : Addr} {ds es : List Dat} {zs : List V} (A : Acc K H0 l H ds) (hb : H b = some (.lst zs)) (rz : RpL K (fun a => H0 a = none ∧ a ≠ l) H zs es) (n : ds.length + es.length ≤ 1000) {Q : VK} (h : ∀ H2, Acc K H0 l H2 (ds ++ es) → Q .non H2) : rExtend (.ref l) [.ref b] H Q := by
  obtain ⟨xs, h1, h2⟩ := A.at_
  have lz : xs.length + zs.length ≤ sizeLine := by
    have := small1000 n
    rw [h2.length, rz.length]
    walk_at "om"
  refine ⟨l, b, xs, zs, rfl, rfl, h1, hb, lz, h _ ⟨fun c o q => ?_, A.new, _, L2.upd_same, ?_⟩⟩
  · rw [L2.upd_ne (ne_of_none q A.new)]; exact A.same c o q
  · exact (h2.append rz).agr (Agr.of_upd h1 fun w => w.2 rfl)
def spFrom (K : PySem.W.Frag) : Sp := fun vs H Q _ => ∃ (p : Addr) (xs : List V) (es : List (Nat × Nat)) (h : Nat), vs = [.ref p, .int (h : Int)] ∧ H p = some (.lst xs) ∧ RzL K H xs (es.map dP) ∧ es.length ≤ 100 ∧ ∀ (q : Addr) (H' : Hp), AccZ K H q H' ((frm es h).map dN) → Q (.ref q) H'
theorem len_from {K : PySem.W.Frag} {vs : List V} {H : Hp} {Q : VK} {E : XK} {x y : Str} (h : spFrom K vs H Q E) : vs.length = [x, y].length := by
  obtain ⟨a, b, c, d, rfl, _⟩ := h
  rfl
theorem fro_at {es : List (Nat × Nat)} {j : Nat} {e : Nat × Nat} (h : es[j]? = some e) : fro es j = e.1 ∧ tow es j = e.2 := by
  unfold fro tow
  rw [List.getD_eq_getElem?_getD, h]
  exact ⟨rfl, rfl⟩
def t_from (K : PySem.W.Frag) : TS := (tRet (tCompF (iEnum K (tCons (tVar 0) tNil)) 2 (gTup K 2 (gCons (gName 0) (gCons (gName 1) gNil))) (tTest (tOp rEq (tOp (rIxT K) (tVar 1) (tC (.int 0))) (tVar 3))) (tVar 0)))
theorem rd_from {K : PySem.W.Frag} {vs : List V} {H : Hp} {Q : VK} {E : XK} {N : List Str} (hN : N.length = 2) (h : spFrom K vs H Q E) : t_from K (ends Q) (L2.start N vs) H := by
  obtain ⟨p, xs, es, h, rfl, hp, rx, le, k⟩ := h
  rw [show L2.start N [.ref p, .int (h : Int)] = [some (.ref p), some (.int (h : Int))] by unfold L2.start; rw [hN]; rfl]
  have lx : xs.length = es.length := by rw [rx.length, List.length_map]
  unfold t_from
  walk_at "rd"
  refine ⟨p, xs, rfl, SqL.of hp, ?_⟩
  refine compF_enum (xs := xs) fun D nD => ⟨fun j H2 => AccZ K H D H2 (((List.range j).filter fun k => fro es k == h).map dN), AccZ.start (Same.refl _) nD, fun j H2 _ A => SqL.of (A.same _ _ hp), ?_, ?_⟩
  · intro j x H2 T hx A nT us hu
    obtain ⟨u0, u1, rfl⟩ : ∃ u0 u1, us = [u0, u1] := lenE2 hu
    have lj := (List.getElem?_eq_some_iff.mp hx).1
    obtain ⟨d, g1, g2⟩ := rx.get hx
    rw [List.getElem?_map] at g1
    obtain ⟨e, he, rfl⟩ := Option.map_eq_some_iff.mp g1
    obtain ⟨f1, _⟩ := fro_at he
    have A2 := A.on (same_new nT (.tup [.int (j : Int), x]))
    have hT : upd H2 T (.tup [.int (j : Int), x]) T = some (.tup [.int (j : Int), x]) := upd_same
    generalize upd H2 T (.tup [.int (j : Int), x]) = H3 at A2 hT ⊢
    obtain ⟨pb, rfl, hpb⟩ := dP_at (g2.same A2.same)
    have lr : ((List.range j).filter fun k => fro es k == h).length ≤ 100 := Nat.le_trans (List.length_filter_le _ _) (by rw [List.length_range]; walk_at "om")
    have er : (List.range (j + 1)).filter (fun k => fro es k == h) = (List.range j).filter (fun k => fro es k == h) ++ [j].filter fun k => fro es k == h := by rw [List.range_succ, List.filter_append]
    refine k_gTup (SqT.of hT) rfl ?_
    walk_at "rd"
    refine ⟨⟨[some (.int (j : Int)), some (.ref pb)], rfl, rfl⟩, ?_⟩
    walk_at "rd"
    refine k_ixT (SqT.of hpb) (v := .int (e.1 : Int)) rfl ?_
    walk_at "rd"
    refine k_ite (fun c => ?_) (fun c => ?_)
    · have c' : fro es j = h := by walk_at "om"
      walk_at "rd"
      refine pushed lj ?_
      refine A2.pushK (d := dN j) (.int _) (small1000 (by rw [List.length_map]; walk_at "om")) fun H4 A4 => ?_
      show AccZ K H D H4 (((List.range (j + 1)).filter fun k => fro es k == h).map dN)
      rw [er, List.filter_cons_of_pos (by simpa using c'), List.map_append]
      exact A4
    · have c' : ¬ fro es j = h := by walk_at "om"
      refine skipped lj ?_
      show AccZ K H D H3 (((List.range (j + 1)).filter fun k => fro es k == h).map dN)
      rw [er, List.filter_cons_of_neg (by simpa using c')]
      simpa using A2
  · intro H2 A
    rw [lx] at A
    exact k D H2 A
def pkS (es : List (Nat × Nat)) (acc : List (List Nat)) (h : Nat) : List (List Nat) := acc.flatMap fun p => (frm es h).map fun k => p ++ [k]
def pk (es : List (Nat × Nat)) (hs : List Nat) : List (List Nat) := hs.foldl (pkS es) [[]]
def dPk (p : List Nat) : Dat := dL (ni p)
def spPicks (K : PySem.W.Frag) : Sp := fun vs H Q _ => ∃ (p b : Addr) (xs : List V) (es : List (Nat × Nat)) (hs : List Nat), vs = [.ref p, .ref b] ∧ H p = some (.lst xs) ∧ RzL K H xs (es.map dP) ∧ es.length ≤ 100 ∧ H b = some (.lst ((ni hs).map V.int)) ∧ hs.length ≤ 100 ∧ (∀ i, (pk es (hs.take i)).length ≤ 900) ∧ ∀ (q : Addr) (H' : Hp), Acc K H q H' ((pk es hs).map dPk) → Q (.ref q) H'
theorem len_picks {K : PySem.W.Frag} {vs : List V} {H : Hp} {Q : VK} {E : XK} {x y : Str} (h : spPicks K vs H Q E) : vs.length = [x, y].length := by
  obtain ⟨a, b, c, d, e, rfl, _⟩ := h
  rfl
theorem pk_take {es : List (Nat × Nat)} {hs : List Nat} {i h : Nat} (e : hs[i]? = some h) : pk es (hs.take (i + 1)) = pkS es (pk es (hs.take i)) h := by
  unfold pk
  rw [List.take_add_one, e, List.foldl_append]
  rfl
theorem pk_len {es : List (Nat × Nat)} : ∀ {hs : List Nat} {acc : List (List Nat)} {n : Nat}, (∀ p ∈ acc, p.length = n) → ∀ p ∈ hs.foldl (pkS es) acc, p.length = n + hs.length
  | [], _, _, h, p, hp => h p hp
  | x :: hs, acc, n, h, p, hp => by
    have := pk_len (hs := hs) (acc := pkS es acc x) (n := n + 1) (fun q hq => by
      obtain ⟨a, ha, hq⟩ := List.mem_flatMap.mp hq
      obtain ⟨k, _, rfl⟩ := List.mem_map.mp hq
      rw [List.length_append, h a ha]
      rfl) p hp
    rw [this, List.length_cons]
    walk_at "om"
def t_picks (K : PySem.W.Frag) : TS := (tSeq (tAsg (tLst (tCons (tLst tNil) tNil)) (gName 2))
  (tSeq (tFor (iList K (tVar 1)) (gName 3)
  (tSeq (tAsg (tLst tNil) (gName 4))
  (tSeq (tFor (iList K (tVar 2)) (gName 5)
  (tDrop (tBM K "list" rExtend (tVar 4) (tCons (tComp (iList K (tCall (spFrom K) [] E0 (tCons (tVar 0) (tCons (tVar 3) tNil)))) (tOp rCat (tVar 6) (tLst (tCons (tVar 0) tNil)))) tNil))))
  (tAsg (tVar 4) (gName 2)))))
  (tRet (tVar 2))))
theorem rd_picks {K : PySem.W.Frag} {vs : List V} {H : Hp} {Q : VK} {E : XK} {N : List Str} (hN : N.length = 6) (h : spPicks K vs H Q E) : t_picks K (ends Q) (L2.start N vs) H := by
  obtain ⟨p, b, xs, es, hs, rfl, hp, rx, le, hb, lh, few, k⟩ := h
  rw [show L2.start N [.ref p, .ref b] = [some (.ref p), some (.ref b), none, none, none, none] by unfold L2.start; rw [hN]; rfl]
  unfold t_picks
  walk_at "rd"
  refine ⟨by decide, fun l0 n0 => ?_⟩
  have S0 := same_new n0 (.lst [])
  have h0 : upd H l0 (.lst []) l0 = some (.lst (([] : List Int).map V.int)) := upd_same
  generalize upd H l0 (.lst []) = H0 at S0 h0 ⊢
  walk_at "rd"
  refine ⟨by show 1 ≤ sizeLine; decide, fun l1 n1 => ?_⟩
  have S1 := same_new n1 (.lst [.ref l0])
  have A1 : Acc K H l1 (upd H0 l1 (.lst [.ref l0])) ((pk es (hs.take 0)).map dPk) := ⟨S0.trans S1, S0.free n1, _, upd_same, .cons (dL_of ⟨n0, ne_of_none h0 n1⟩ (S1 _ _ h0)) .nil⟩
  generalize upd H0 l1 (.lst [.ref l0]) = H1 at A1 ⊢
  clear S1 S0 h0
  walk_at "rd"
  refine k_rlF (SqL.of (A1.same _ _ hb)) ?_
  refine fat_list (xs := (ni hs).map V.int) (fun i σ H2 => ∃ (t : Addr) (u3 u4 u5 : Option V), σ = [some (.ref p), some (.ref b), some (.ref t), u3, u4, u5] ∧ Acc K H t H2 ((pk es (hs.take i)).map dPk)) ⟨l1, none, none, none, rfl, A1⟩ (fun i σ H2 _ ⟨_, _, _, _, _, A⟩ => SqL.of (A.same _ _ hb)) ?_ ?_
  · rintro i x σ H2 hx ⟨t, u3, u4, u5, rfl, A⟩
    obtain ⟨h, eh, rfl⟩ : ∃ h, hs[i]? = some h ∧ x = .int (h : Int) := by
      unfold ni at hx
      rw [List.getElem?_map, List.getElem?_map] at hx
      cases e : hs[i]? with
      | none => rw [e] at hx; cases hx
      | some h => rw [e] at hx; exact ⟨h, rfl, (Option.some.inj hx).symm⟩
    have fw := few (i + 1)
    rw [pk_take eh] at fw
    have ln : ∀ q ∈ pk es (hs.take i), q.length ≤ 100 := fun q hq => by
      have := pk_len (acc := [[]]) (n := 0) (fun p hp => by rw [List.mem_singleton.mp hp]; rfl) q hq
      rw [this, List.length_take]
      walk_at "om"
    obtain ⟨ts, ht, rt⟩ := A.at_
    generalize hP : pk es (hs.take i) = P at A rt fw ln
    walk_at "rd"
    refine ⟨by decide, fun l nl => ?_⟩
    have B0 : Acc K H2 l (upd H2 l (.lst [])) ((pkS es (P.take 0) h).map dPk) := Acc.start nl
    generalize upd H2 l (.lst []) = H3 at B0 ⊢
    walk_at "rd"
    refine k_rlF (SqL.of (B0.same _ _ ht)) ?_
    refine fat_list (xs := ts) (fun j σ H4 => ∃ u5 : Option V, σ = [some (.ref p), some (.ref b), some (.ref t), some (.int (h : Int)), some (.ref l), u5] ∧ Acc K H2 l H4 ((pkS es (P.take j) h).map dPk)) ⟨u5, rfl, B0⟩ (fun j σ H4 _ ⟨_, _, B⟩ => SqL.of (B.same _ _ ht)) ?_ ?_
    · rintro j y σ H4 hy ⟨u5, rfl, B⟩
      have lj := (List.getElem?_eq_some_iff.mp hy).1
      obtain ⟨d, g1, g2⟩ := rt.get hy
      rw [List.getElem?_map] at g1
      obtain ⟨q, hq, rfl⟩ := Option.map_eq_some_iff.mp g1
      obtain ⟨c, rfl, _, hc⟩ := dL_at g2
      have lq := ln q (List.mem_of_getElem? hq)
      have ej : pkS es (P.take (j + 1)) h = pkS es (P.take j) h ++ (frm es h).map fun k => q ++ [k] := by
        unfold pkS
        rw [List.take_add_one, hq, List.flatMap_append]
        simp
      have e2 : pkS es P h = pkS es (P.take (j + 1)) h ++ pkS es (P.drop (j + 1)) h := by unfold pkS; rw [← List.flatMap_append, List.take_append_drop]
      have fj : (pkS es (P.take (j + 1)) h).length ≤ 900 := by
        rw [e2, List.length_append] at fw
        walk_at "om"
      rw [ej, List.length_append, List.length_map] at fj
      walk_at "rd"
      refine ⟨B.ty, ?_⟩
      walk_at "rd"
      refine ⟨p, xs, es, h, rfl, B.same _ _ (A.same _ _ hp), rx.same (A.same.trans B.same), le, fun r H5 A5 => ?_⟩
      have hr : H5 r = some (.lst ((ni (frm es h)).map V.int)) := AccZ.ints (by unfold ni; rw [List.map_map]; exact A5)
      have lf : ((ni (frm es h)).map V.int).length = (frm es h).length := by unfold ni; rw [List.length_map, List.length_map]
      refine k_rlC (SqL.of hr) ?_
      refine comp_list (xs := (ni (frm es h)).map V.int) fun E nE => ⟨fun m H6 => Acc K H5 E H6 ((((frm es h).take m).map fun k => q ++ [k]).map dPk), by simpa using Acc.start nE, fun m H6 _ C => SqL.of (C.same _ _ hr), ?_, ?_⟩
      · intro m z H6 hz C
        have lm := (List.getElem?_eq_some_iff.mp hz).1
        obtain ⟨n, en, rfl⟩ : ∃ n, (frm es h)[m]? = some n ∧ z = .int (n : Int) := by
          unfold ni at hz
          rw [List.getElem?_map, List.getElem?_map] at hz
          cases e : (frm es h)[m]? with
          | none => rw [e] at hz; cases hz
          | some n => rw [e] at hz; exact ⟨n, rfl, (Option.some.inj hz).symm⟩
        have hc6 := C.same _ _ (A5.same _ _ (B.same _ _ hc))
        walk_at "rd"
        refine ⟨by show 1 ≤ sizeLine; decide, fun l2 n2 => ?_⟩
        have S7 := same_new n2 (.lst [.int (n : Int)])
        have h7 : upd H6 l2 (.lst [.int (n : Int)]) l2 = some (.lst [.int (n : Int)]) := upd_same
        have hc7 := S7 _ _ hc6
        generalize upd H6 l2 (.lst [.int (n : Int)]) = H7 at S7 h7 hc7 ⊢
        refine ⟨c, l2, _, _, rfl, rfl, hc7, h7, by rw [List.length_map, sizeLine_eq]; unfold ni; rw [List.length_map]; show q.length + 1 ≤ _; walk_at "om", fun l3 n3 => ?_⟩
        have S8 := S7.trans (same_new n3 (.lst ((ni q).map V.int ++ [.int (n : Int)])))
        have h8 : upd H7 l3 (.lst ((ni q).map V.int ++ [.int (n : Int)])) l3 = some (.lst ((ni (q ++ [n])).map V.int)) := by unfold ni; rw [List.map_append, List.map_append]; exact upd_same
        have n36 := S7.free n3
        generalize upd H7 l3 (.lst ((ni q).map V.int ++ [.int (n : Int)])) = H8 at S8 h8 ⊢
        refine pushed lm ?_
        refine C.pushK S8 (d := dPk (q ++ [n])) (dL_of n36 h8) (small1000 (by rw [List.length_map, List.length_map, List.length_take]; walk_at "om")) fun H9 C9 => ?_
        show Acc K H5 E H9 ((((frm es h).take (m + 1)).map fun k => q ++ [k]).map dPk)
        rw [List.take_add_one, en, List.map_append, List.map_append]
        exact C9
      · intro H6 C
        rw [lf, List.take_of_length_le (Nat.le_refl _)] at C
        obtain ⟨zs, hz, rz⟩ := C.at_
        have B6 := (B.on A5.same).on C.same
        have lB : H4 l ≠ none := by
          obtain ⟨ys, h1, _⟩ := B.at_
          rw [h1]; exact fun z => by cases z
        walk_at "rd"
        refine Acc.ext B6 hz (rz.mono fun a z => ⟨B.same.free (A5.same.free z.1), fun e => lB (by rw [← e]; exact A5.same.free z.1)⟩) (by rw [List.length_map, List.length_map, List.length_map]; walk_at "om") fun H7 B7 => ?_
        refine ⟨_, rfl, ?_⟩
        rw [ej, List.map_append]
        exact B7
    · rintro σ H4 ⟨u5, rfl, B⟩
      have lt : ts.length = P.length := by rw [rt.length, List.length_map]
      rw [lt, List.take_of_length_le (Nat.le_refl _)] at B
      walk_at "rd"
      refine ⟨l, _, _, _, rfl, ?_⟩
      rw [pk_take eh, hP]
      obtain ⟨zs, hz, rz⟩ := B.at_
      exact ⟨A.same.trans B.same, A.same.free B.new, zs, hz, rz.mono fun _ z => ⟨A.same.free z.1, z.2⟩⟩
  · rintro σ H2 ⟨t, u3, u4, u5, rfl, A⟩
    rw [List.take_of_length_le (by unfold ni; rw [List.length_map, List.length_map]; exact Nat.le_refl _)] at A
    walk_at "rd"
    exact k t H2 A
end Tr

namespace Tr
open PySem L2 Fr G1 Sm Vs G2 Rk Sz Sf Rw Ti
open PySem.W (Dat kqdOk)
theorem SqT_same {K : PySem.W.Frag} {H H' : Hp} {a : Addr} {xs : List V} (h : SqT K H a xs) (S : Same H H') : SqT K H' a xs := by
  rcases h with (h | ⟨o, h⟩) | h
  · exact .inl (.inl (S _ _ h))
  · exact .inl (.inr ⟨o, S _ _ h⟩)
  · exact .inr h
theorem QV.same {K : PySem.W.Frag} {H H' : Hp} {v : V} {x : Rat} (h : QV K H v x) (S : Same H H') : QV K H' v x := by
  obtain ⟨a, e, ha⟩ := h
  exact ⟨a, e, SqT_same ha S⟩
theorem ni_get {hs : List Nat} {i : Nat} {x : V} (hx : ((ni hs).map V.int)[i]? = some x) : ∃ h, hs[i]? = some h ∧ x = .int (h : Int) := by
  unfold ni at hx
  rw [List.getElem?_map, List.getElem?_map] at hx
  cases e : hs[i]? with
  | none => rw [e] at hx; cases hx
  | some h => rw [e] at hx; exact ⟨h, rfl, (Option.some.inj hx).symm⟩
theorem ni_len (hs : List Nat) : ((ni hs).map V.int).length = hs.length := by unfold ni; rw [List.length_map, List.length_map]
def kd (ps : List (Nat × Nat)) : List (Key × V) := ps.map fun q => ((.inl (q.1 : Int) : Key), V.int (q.2 : Int))
def lk (ps : List (Nat × Nat)) (h : Nat) : Nat := ((ps.find? fun q => q.1 == h).map (·.2)).getD 0
theorem kd_val : ∀ (ps : List (Nat × Nat)) (h : Nat), valV (kd ps) (.inl (h : Int)) = (ps.find? fun q => q.1 == h).map fun q => V.int (q.2 : Int)
  | [], h => rfl
  | q :: ps, h => by
    show valV (((.inl (q.1 : Int) : Key), V.int (q.2 : Int)) :: kd ps) (.inl (h : Int)) = _
    rw [List.find?_cons]
    by_cases e : q.1 = h
    · rw [valV_pos (by rw [e]), show (q.1 == h) = true by simpa using e]
      rfl
    · rw [valV_neg (fun z => e (by have := Sum.inl.inj z; walk_at "om")), show (q.1 == h) = false by simpa using e]
      exact kd_val ps h
theorem kd_lk {ps : List (Nat × Nat)} {h : Nat} (m : h ∈ ps.map (·.1)) : valV (kd ps) (.inl (h : Int)) = some (.int (lk ps h : Int)) := by
  rw [kd_val]
  unfold lk
  cases e : ps.find? fun q => q.1 == h with
  | none =>
    obtain ⟨q, hq, e2⟩ := List.mem_map.mp m
    have := List.find?_eq_none.mp e q hq
    simp [e2] at this
  | some q => rfl
theorem kd_put {ps : List (Nat × Nat)} {a b : Nat} (n : a ∉ ps.map (·.1)) : putK (kd ps) (.inl (a : Int)) (.int (b : Int)) = kd (ps ++ [(a, b)]) := by
  have z : valV (kd ps) (.inl (a : Int)) = none := by
    rw [kd_val, List.find?_eq_none.mpr]
    · rfl
    · intro q hq e
      exact n (List.mem_map.mpr ⟨q, hq, by simpa using e⟩)
  unfold putK
  rw [valV_any, z]
  show kd ps ++ [_] = _
  unfold kd
  rw [List.map_append]
  rfl
def prs (es : List (Nat × Nat)) (ks : List Nat) (r : Nat) : List (Nat × Nat) := (r, r) :: ks.map fun k => (fro es k, tow es k)
def TD (ps : List (Nat × Nat)) (r : Nat) : Prop := ∀ q ∈ ps, itr (lk ps) ps.length q.1 = r
def spTree (K : PySem.W.Frag) : Sp := fun vs H Q _ => ∃ (p b : Addr) (xs : List V) (es : List (Nat × Nat)) (ks : List Nat) (r : Nat), vs = [.ref p, .ref b, .int (r : Int)] ∧ H p = some (.lst xs) ∧ RzL K H xs (es.map dP) ∧ H b = some (.lst ((ni ks).map V.int)) ∧ ks.length ≤ 100 ∧ (∀ k ∈ ks, k < es.length) ∧ ((prs es ks r).map (·.1)).Nodup ∧ (∀ q ∈ prs es ks r, q.2 ∈ (prs es ks r).map (·.1)) ∧
  (TD (prs es ks r) r → ∀ H', Same H H' → Q (.bl true) H') ∧ (¬ TD (prs es ks r) r → ∀ H', Same H H' → Q (.bl false) H')
theorem len_tree {K : PySem.W.Frag} {vs : List V} {H : Hp} {Q : VK} {E : XK} {x y z : Str} (h : spTree K vs H Q E) : vs.length = [x, y, z].length := by
  obtain ⟨a, b, c, d, e, f, rfl, _⟩ := h
  rfl
theorem lk_in {ps : List (Nat × Nat)} (cl : ∀ q ∈ ps, q.2 ∈ ps.map (·.1)) {h : Nat} (m : h ∈ ps.map (·.1)) : lk ps h ∈ ps.map (·.1) := by
  unfold lk
  cases e : ps.find? fun q => q.1 == h with
  | none =>
    obtain ⟨q, hq, e2⟩ := List.mem_map.mp m
    have := List.find?_eq_none.mp e q hq
    simp [e2] at this
  | some q => exact cl q (List.mem_of_find?_eq_some e)
def t_tree (K : PySem.W.Frag) : TS := (tSeq (tAsg (tDisp [((tVar 2), (tVar 2))]) (gName 3))
  (tSeq (tFor (iList K (tVar 1)) (gName 4)
  (sDPut (tVar 3) (tOp (rIxT K) (tOp (rIxL K) (tVar 0) (tVar 4)) (tC (.int 0))) (tOp (rIxT K) (tOp (rIxL K) (tVar 0) (tVar 4)) (tC (.int 1)))))
  (tSeq (tFor (iList K (tCB rListDK (tCons (tVar 3) tNil))) (gName 5)
  (tSeq (tAsg (tVar 5) (gName 6))
  (tSeq (tFor (iRng1 (tCons (tCB rLenD (tCons (tVar 3) tNil)) tNil)) (gName 7)
  (tAsg (tDGet (tVar 3) (tVar 6)) (gName 6)))
  (tIfS (tTest (tOp rNe (tVar 6) (tVar 2)))
  (tRet (tC (.bl false)))
  tNext))))
  (tRet (tC (.bl true))))))
theorem rd_tree {K : PySem.W.Frag} {vs : List V} {H : Hp} {Q : VK} {E : XK} {N : List Str} (hN : N.length = 8) (h : spTree K vs H Q E) : t_tree K (ends Q) (L2.start N vs) H := by
  obtain ⟨p, b, xs, es, ks, r, rfl, hp, rx, hb, lk_, lt, nd, cl, kyes, kno⟩ := h
  rw [show L2.start N [.ref p, .ref b, .int (r : Int)] = [some (.ref p), some (.ref b), some (.int (r : Int)), none, none, none, none, none] by unfold L2.start; rw [hN]; rfl]
  have lx : xs.length = es.length := by rw [rx.length, List.length_map]
  unfold t_tree
  walk_at "rd"
  intro rd nr
  have T1 := same_new nr (.dK [])
  unfold tPairs
  walk_at "rd"
  unfold tPairs
  refine ⟨upd_same, [(.inl (r : Int), .int (r : Int))], rfl, by show 1 ≤ 15; decide, ?_⟩
  have S1 : Same H (upd (upd H rd (.dK [])) rd (.dK (mergeK [] [(.inl (r : Int), .int (r : Int))]))) := fun c o q => by
    rw [upd_ne (ne_of_none q nr)]
    exact T1 _ _ q
  have d1 : upd (upd H rd (.dK [])) rd (.dK (mergeK [] [(.inl (r : Int), .int (r : Int))])) rd = some (.dK (kd (prs es (ks.take 0) r))) := upd_same
  generalize upd (upd H rd (.dK [])) rd (.dK (mergeK [] [(.inl (r : Int), .int (r : Int))])) = H1 at S1 d1 ⊢
  walk_at "rd"
  refine k_rlF (SqL.of (S1 _ _ hb)) ?_
  refine fat_list (xs := (ni ks).map V.int) (fun i σ H2 => ∃ u4 : Option V, σ = [some (.ref p), some (.ref b), some (.int (r : Int)), some (.ref rd), u4, none, none, none] ∧ Same H H2 ∧ H2 rd = some (.dK (kd (prs es (ks.take i) r)))) ⟨none, rfl, S1, d1⟩ (fun i σ H2 _ ⟨_, _, S, _⟩ => SqL.of (S _ _ hb)) ?_ ?_
  · rintro i x σ H2 hx ⟨u4, rfl, S2, d2⟩
    obtain ⟨k, ek, rfl⟩ := ni_get hx
    have lk2 := lt k (List.mem_of_getElem? ek)
    obtain ⟨e, he⟩ : ∃ e, es[k]? = some e := ⟨_, List.getElem?_eq_getElem lk2⟩
    obtain ⟨f1, f2⟩ := fro_at he
    obtain ⟨z, ez⟩ : ∃ z, xs[k]? = some z := ⟨_, List.getElem?_eq_getElem (by walk_at "om")⟩
    obtain ⟨d, g1, g2⟩ := rx.get ez
    rw [List.getElem?_map, he] at g1
    cases g1
    obtain ⟨pb, rfl, hpb⟩ := dP_at (g2.same S2)
    have li : i < ks.length := (List.getElem?_eq_some_iff.mp ek).1
    have ee : prs es (ks.take (i + 1)) r = prs es (ks.take i) r ++ [(e.1, e.2)] := by
      unfold prs
      rw [List.take_add_one, ek, List.map_append, ← f1, ← f2]
      rfl
    have nk : e.1 ∉ (prs es (ks.take i) r).map (·.1) := by
      have n2 : ((prs es (ks.take (i + 1)) r).map (·.1)).Nodup := by
        refine nd.sublist ?_
        unfold prs
        exact ((List.take_sublist (i + 1) ks).map _).cons_cons _ |>.map _
      rw [ee, List.map_append, List.nodup_append] at n2
      exact fun m => n2.2.2 _ m _ List.mem_cons_self rfl
    walk_at "rd"
    refine k_ixL (SqL.of (S2 _ _ hp)) (atI_nat ez) ?_
    walk_at "rd"
    refine k_ixT (SqT.of hpb) (v := .int (e.2 : Int)) rfl ?_
    walk_at "rd"
    refine k_ixL (SqL.of (S2 _ _ hp)) (atI_nat ez) ?_
    walk_at "rd"
    refine k_ixT (SqT.of hpb) (v := .int (e.1 : Int)) rfl ?_
    refine ⟨rd, _, rfl, (DPut.k d2 (small1000 (by unfold kd prs; rw [List.length_map, List.length_cons, List.length_map, List.length_take]; walk_at "om")) : DPut H2 rd (kV (.inl (e.1 : Int))) _ _), ?_⟩
    refine ⟨_, rfl, fun c o q => ?_, ?_⟩
    · rw [upd_ne (ne_of_none q nr)]; exact S2 c o q
    · rw [upd_same, ee, kd_put nk]
  rintro σ H2 ⟨u4, rfl, S2, d2⟩
  rw [ni_len, List.take_of_length_le (Nat.le_refl _)] at d2
  have lp : (prs es ks r).length ≤ 101 := by unfold prs; rw [List.length_cons, List.length_map]; walk_at "om"
  generalize prs es ks r = ps at d2 nd cl kyes kno lp
  have lkd : (kd ps).length = ps.length := List.length_map _
  walk_at "rd"
  refine ⟨rd, _, rfl, d2, fun l nl => ?_⟩
  have el : ((kd ps).map fun kv => kV kv.1) = (ni (ps.map (·.1))).map V.int := by unfold kd ni; rw [List.map_map, List.map_map, List.map_map]; rfl
  rw [el]
  have S3 := S2.trans (same_new nl (.lst ((ni (ps.map (·.1))).map V.int)))
  have d3 := same_new nl (.lst ((ni (ps.map (·.1))).map V.int)) _ _ d2
  have h3 : upd H2 l (.lst ((ni (ps.map (·.1))).map V.int)) l = some (.lst ((ni (ps.map (·.1))).map V.int)) := upd_same
  generalize upd H2 l (.lst ((ni (ps.map (·.1))).map V.int)) = H3 at S3 d3 h3 ⊢
  refine k_rlF (SqL.of h3) ?_
  refine fat_list (xs := (ni (ps.map (·.1))).map V.int) (fun i σ H4 => ∃ u5 u6 u7 : Option V, σ = [some (.ref p), some (.ref b), some (.int (r : Int)), some (.ref rd), u4, u5, u6, u7] ∧ H4 = H3 ∧ ∀ m, m < i → ∀ h, (ps.map (·.1))[m]? = some h → itr (lk ps) ps.length h = r) ⟨none, none, none, rfl, rfl, fun m hm => absurd hm (Nat.not_lt_zero _)⟩ (fun i σ H4 _ ⟨_, _, _, _, e, _⟩ => by rw [e]; exact SqL.of h3) ?_ ?_
  · rintro i x σ H4 hx ⟨u5, u6, u7, rfl, rfl, dn⟩
    obtain ⟨h, eh, rfl⟩ := ni_get hx
    have mh := List.mem_of_getElem? eh
    walk_at "rd"
    refine ⟨rd, _, rfl, d3, ?_⟩
    rw [lkd]
    refine ⟨_, rfl, by walk_at "om", by walk_at "om", ?_⟩
    rw [Int.toNat_natCast]
    refine fat_range (fun m σ H5 => ∃ u7 : Option V, σ = [some (.ref p), some (.ref b), some (.int (r : Int)), some (.ref rd), u4, some (.int (h : Int)), some (.int (itr (lk ps) m h : Int)), u7] ∧ H5 = H4) ⟨_, rfl, rfl⟩ ?_ ?_
    · rintro m σ H5 hm ⟨u7, rfl, rfl⟩
      have mm : itr (lk ps) m h ∈ ps.map (·.1) := itr_in (fun x hx => lk_in cl hx) mh m
      walk_at "rd"
      refine ⟨rd, _, rfl, (by have := (DGet.k d3 : DGet H5 rd (kV (.inl (itr (lk ps) m h : Int))) _); rw [kd_lk mm] at this; exact this), ?_⟩
      walk_at "rd"
      exact ⟨_, rfl, rfl⟩
    · rintro σ H5 ⟨u7, rfl, rfl⟩
      walk_at "rd"
      refine k_iteN (fun c => ?_) (fun c => ?_)
      · walk_at "rd"
        refine kno (fun t => c ?_) H5 S3
        obtain ⟨q, hq, e⟩ := List.mem_map.mp mh
        have := t q hq
        rw [e] at this
        rw [this]
      · walk_at "rd"
        refine ⟨_, _, _, rfl, rfl, fun m hm h' e' => ?_⟩
        rcases Nat.lt_or_ge m i with z | z
        · exact dn m z h' e'
        · rw [show m = i by walk_at "om", eh] at e'
          cases e'
          walk_at "om"
  · rintro σ H4 ⟨u5, u6, u7, rfl, rfl, dn⟩
    rw [ni_len] at dn
    walk_at "rd"
    refine kyes (fun q hq => ?_) H4 S3
    have m1 : q.1 ∈ ps.map (·.1) := List.mem_map.mpr ⟨q, hq, rfl⟩
    obtain ⟨m, hm⟩ := List.getElem?_of_mem m1
    exact dn m (List.getElem?_eq_some_iff.mp hm).1 q.1 hm
end Tr

namespace Tr
open Fr
theorem ls_map {α β : Type} (g : α → β) (f : β → Rat) : ∀ l : List α, ls (l.map g) f = ls l fun x => f (g x)
  | [] => rfl
  | a :: l => by rw [List.map_cons, ls_cons, ls_cons, ls_map g f l]
theorem ls_app {α : Type} (f : α → Rat) : ∀ l m : List α, ls (l ++ m) f = ls l f + ls m f
  | [], m => by rw [List.nil_append, ls_nil, Rat.zero_add]
  | a :: l, m => by rw [List.cons_append, ls_cons, ls_cons, ls_app f l m, Rat.add_assoc]
theorem ls_flat {α β : Type} (g : α → List β) (f : β → Rat) : ∀ l : List α, ls (l.flatMap g) f = ls l fun x => ls (g x) f
  | [] => rfl
  | a :: l => by rw [List.flatMap_cons, ls_app, ls_cons, ls_flat g f l]
section
variable {es : List (Nat × Nat)} {pc : Nat → Rat}
theorem map_up {g : Nat → Nat} {h k : Nat} {hs : List Nat} (n : h ∉ hs) : hs.map (up g h k) = hs.map g := List.map_congr_left fun x hx => if_neg fun e : x = h => n (by rw [← e]; exact hx)
theorem pk_sum (G : List Nat → Rat) : ∀ {hs : List Nat} (acc : List (List Nat)), hs.Nodup → ls (hs.foldl (pkS es) acc) G = ls acc fun a => T (frm es) hs fun g => G (a ++ hs.map g)
  | [], acc, _ => ls_congr fun a _ => by show G a = G (a ++ []); rw [List.append_nil]
  | h :: hs, acc, nd => by
    obtain ⟨n1, n2⟩ := List.nodup_cons.mp nd
    rw [List.foldl_cons, pk_sum G (pkS es acc h) n2]
    unfold pkS
    rw [ls_flat]
    refine ls_congr fun a _ => ?_
    rw [ls_map]
    refine ls_congr fun k _ => T_all fun g => ?_
    show G (a ++ [k] ++ hs.map g) = G (a ++ (h :: hs).map (up g h k))
    rw [List.map_cons, map_up n1, show up g h k h = k from if_pos rfl, List.append_assoc]
    rfl
/-- what a pick weighs -/
def pq (pc : Nat → Rat) (q : List Nat) : Rat := q.foldl (fun x k => x * pc k) 1
theorem pq_go : ∀ (q : List Nat) (x : Rat), q.foldl (fun x k => x * pc k) x = x * pq pc q
  | [], x => (Rat.mul_one x).symm
  | k :: q, x => by
    unfold pq
    rw [List.foldl_cons, List.foldl_cons, pq_go q, pq_go q, Rat.one_mul, Rat.mul_assoc]
theorem pq_prd (g : Nat → Nat) : ∀ hs : List Nat, pq pc (hs.map g) = prd pc g hs
  | [] => rfl
  | h :: hs => by
    show (hs.map g).foldl (fun x k => x * pc k) (1 * pc (g h)) = pc (g h) * prd pc g hs
    rw [pq_go, pq_prd g hs, Rat.one_mul]
theorem itr_eq {f f' : Nat → Nat} {L : List Nat} (hf : ∀ h ∈ L, f h ∈ L) (e : ∀ h ∈ L, f h = f' h) {x : Nat} (hx : x ∈ L) : ∀ n, itr f n x = itr f' n x
  | 0 => rfl
  | n + 1 => by
    show f (itr f n x) = f' (itr f' n x)
    rw [e _ (itr_in hf hx n), itr_eq hf e hx n]
theorem find_key {g : Nat → Nat} {h : Nat} : ∀ {hs : List Nat}, h ∈ hs → ((hs.map fun x => (x, g x)).find? fun q => q.1 == h) = some (h, g h)
  | [], m => by cases m
  | x :: hs, m => by
    rw [List.map_cons, List.find?_cons]
    by_cases e : x = h
    · rw [show ((x, g x).1 == h) = true by simpa using e, e]
    · rw [show ((x, g x).1 == h) = false by simpa using e]
      exact find_key ((List.mem_cons.mp m).resolve_left fun z => e z.symm)
theorem prs_eq {hs : List Nat} {g : Nat → Nat} (v : ∀ h ∈ hs, g h ∈ frm es h) (r : Nat) : prs es (hs.map g) r = (r, r) :: hs.map fun h => (h, tow es (g h)) := by
  unfold prs
  rw [List.map_map]
  congr 1
  refine List.map_congr_left fun h hh => ?_
  have := (List.mem_filter.mp (v h hh)).2
  show (fro es (g h), tow es (g h)) = _
  rw [show fro es (g h) = h by simpa using this]
theorem mem_oth {L : List Nat} {r h : Nat} : h ∈ oth L r ↔ h ∈ L ∧ h ≠ r := by unfold oth; rw [List.mem_filter]; simp
theorem lk_eq {L : List Nat} {r : Nat} {g : Nat → Nat} (v : ∀ h ∈ oth L r, g h ∈ frm es h) {h : Nat} (hh : h ∈ L) : lk (prs es ((oth L r).map g) r) h = stp (fun h => tow es (g h)) r h := by
  rw [prs_eq v]
  unfold lk stp
  rw [List.find?_cons]
  by_cases e : h = r
  · rw [if_pos e, show ((r, r).1 == h) = true by simpa using e.symm]
    rfl
  · rw [if_neg e, show ((r, r).1 == h) = false by simpa using fun z => e z.symm, find_key (g := fun h => tow es (g h)) (mem_oth.mpr ⟨hh, e⟩)]
    rfl
theorem oth_len {L : List Nat} (nd : L.Nodup) {r : Nat} (hr : r ∈ L) : (oth L r).length + 1 = L.length := by
  have := (oth_perm nd hr).length_eq
  rw [List.length_cons] at this
  exact this.symm
theorem in_L {L : List Nat} {r : Nat} {g : Nat → Nat} (cl : ∀ k, k < es.length → (fro es k ∈ L ↔ tow es k ∈ L)) (v : ∀ h ∈ oth L r, g h ∈ frm es h) {h : Nat} (hh : h ∈ oth L r) : tow es (g h) ∈ L := by
  obtain ⟨m1, m2⟩ := List.mem_filter.mp (v h hh)
  exact (cl _ (List.mem_range.mp m1)).mp (by rw [show fro es (g h) = h by simpa using m2]; exact (mem_oth.mp hh).1)
theorem TD_tree {L : List Nat} (nd : L.Nodup) {r : Nat} (hr : r ∈ L) (cl : ∀ k, k < es.length → (fro es k ∈ L ↔ tow es k ∈ L)) {g : Nat → Nat} (v : ∀ h ∈ oth L r, g h ∈ frm es h) : TD (prs es ((oth L r).map g) r) r ↔ Tree (fun h => tow es (g h)) L r := by
  have lp : (prs es ((oth L r).map g) r).length = L.length := by
    rw [← oth_len nd hr]
    unfold prs
    rw [List.length_cons, List.length_map, List.length_map]
  have st : ∀ h ∈ L, stp (fun h => tow es (g h)) r h ∈ L := fun h hh => by
    unfold stp
    by_cases e : h = r
    · rw [if_pos e]; exact hr
    · rw [if_neg e]; exact in_L cl v (mem_oth.mpr ⟨hh, e⟩)
  have ie : ∀ h ∈ L, itr (lk (prs es ((oth L r).map g) r)) L.length h = itr (stp (fun h => tow es (g h)) r) L.length h := fun h hh => (itr_eq st (fun x hx => (lk_eq v hx).symm) hh _).symm
  unfold TD Tree
  rw [lp]
  constructor
  · intro t h hh
    rw [← ie h hh]
    by_cases e : h = r
    · have := t (r, r) (by unfold prs; exact List.mem_cons_self)
      rw [e]; exact this
    · have := t (h, tow es (g h)) (by rw [prs_eq v]; exact List.mem_cons_of_mem _ (List.mem_map.mpr ⟨h, mem_oth.mpr ⟨hh, e⟩, rfl⟩))
      exact this
  · intro t q hq
    rw [prs_eq v] at hq
    rcases List.mem_cons.mp hq with rfl | hq
    · rw [ie r hr]; exact t r hr
    · obtain ⟨h, hh, rfl⟩ := List.mem_map.mp hq
      have := (mem_oth.mp hh).1
      show itr _ _ h = r
      rw [ie h this]; exact t h this
open Classical in
/-- the sum over the picks -/
theorem W_pk {L : List Nat} (nd : L.Nodup) {r : Nat} (hr : r ∈ L) (cl : ∀ k, k < es.length → (fro es k ∈ L ↔ tow es k ∈ L)) : ls (pk es (oth L r)) (fun q => if TD (prs es q r) r then pq pc q else 0) = W es pc L r := by
  have ndo : (oth L r).Nodup := nd.filter _
  unfold pk
  rw [pk_sum _ _ ndo, ls_cons, ls_nil, Rat.add_zero]
  refine T_congr ndo fun g v => ?_
  rw [List.nil_append, pq_prd]
  by_cases t : Tree (fun h => tow es (g h)) L r
  · rw [if_pos t, if_pos ((TD_tree nd hr cl v).mpr t)]
  · rw [if_neg t, if_neg fun z => t ((TD_tree nd hr cl v).mp z)]
/-- every pick is one of the sum's -/
theorem pk_mem : ∀ {hs : List Nat} {acc : List (List Nat)} {q : List Nat}, q ∈ hs.foldl (pkS es) acc → ∃ a ∈ acc, ∃ ks : List Nat, q = a ++ ks ∧ ks.map (fro es) = hs ∧ ∀ k ∈ ks, k < es.length
  | [], acc, q, h => ⟨q, h, [], (List.append_nil q).symm, rfl, fun k hk => by cases hk⟩
  | x :: hs, acc, q, h => by
    obtain ⟨a, ha, ks, e1, e2, e3⟩ := pk_mem (hs := hs) (acc := pkS es acc x) h
    obtain ⟨a0, ha0, hm⟩ := List.mem_flatMap.mp ha
    obtain ⟨k, hk, rfl⟩ := List.mem_map.mp hm
    obtain ⟨m1, m2⟩ := List.mem_filter.mp hk
    refine ⟨a0, ha0, k :: ks, by rw [e1, List.append_assoc]; rfl, by rw [List.map_cons, e2, show fro es k = x by simpa using m2], fun j hj => ?_⟩
    rcases List.mem_cons.mp hj with rfl | hj
    · exact List.mem_range.mp m1
    · exact e3 j hj
end
def Sml (D M : Nat) (x : Rat) : Prop := ∃ m : Int, x * ((D : Int) : Rat) = (m : Rat) ∧ m.natAbs ≤ M
theorem Sml.add {D M N : Nat} {x y : Rat} (a : Sml D M x) (b : Sml D N y) : Sml D (M + N) (x + y) := by
  obtain ⟨m, e, l⟩ := a
  obtain ⟨n, f, k⟩ := b
  refine ⟨m + n, by rw [Rat.add_mul, e, f, Rat.intCast_add], ?_⟩
  exact Nat.le_trans (Int.natAbs_add_le m n) (Nat.add_le_add l k)
theorem Sml.mul {D E M N : Nat} {x y : Rat} (a : Sml D M x) (b : Sml E N y) : Sml (D * E) (M * N) (x * y) := by
  obtain ⟨m, e, l⟩ := a
  obtain ⟨n, f, k⟩ := b
  refine ⟨m * n, ?_, by rw [Int.natAbs_mul]; exact Nat.mul_le_mul l k⟩
  rw [Rat.intCast_mul, ← e, ← f, Int.natCast_mul, Rat.intCast_mul]
  grind
theorem Sml.up {D E M N : Nat} {x : Rat} (a : Sml D M x) (h : M * E ≤ N) : Sml (D * E) N x := by
  obtain ⟨m, e, l⟩ := a
  refine ⟨m * (E : Int), by rw [Rat.intCast_mul, ← e, Int.natCast_mul, Rat.intCast_mul, Rat.mul_assoc], ?_⟩
  rw [Int.natAbs_mul]
  exact Nat.le_trans (Nat.mul_le_mul_right _ l) h
theorem Sml.zero (D M : Nat) : Sml D M 0 := ⟨0, by rw [Rat.zero_mul]; rfl, Nat.zero_le _⟩
theorem Sml.one {D M : Nat} (h : D ≤ M) : Sml D M 1 := ⟨(D : Int), Rat.one_mul _, h⟩
theorem Sml.bits {D M : Nat} {x : Rat} (a : Sml D M x) (d0 : 0 < D) : x.num.natAbs ≤ M ∧ x.den ≤ D := by
  obtain ⟨m, e, l⟩ := a
  have dn : ((D : Int) : Rat) ≠ 0 := by
    intro z
    have := Rat.intCast_inj.mp (show (((D : Int) : Int) : Rat) = ((0 : Int) : Rat) from z)
    walk_at "om"
  have ex : x = Rat.divInt m (D : Int) := by
    rw [Rat.divInt_eq_div, ← e, Rat.mul_div_cancel dn]
  have L := Gd.low_of (t := m) (b := (D : Int)) (d := Gd.gd m (D : Int)) (by walk_at "om") (.inl ⟨rfl, by walk_at "om"⟩)
  have A := Gd.low_abs (t := m) (b := (D : Int)) (d := Gd.gd m (D : Int)) (by walk_at "om") (.inl ⟨rfl, by walk_at "om"⟩)
  obtain ⟨e1, e2⟩ := low_rat (by walk_at "om") L
  rw [e1, e2, ← ex] at A
  exact ⟨Nat.le_trans A.1 l, by have := A.2; walk_at "om"⟩
end Tr

namespace Tr
open PySem L2 Fr G1 Sm Vs G2 Rk Sz Sf Rw Ti
open PySem.W (Dat kqdOk)
/-- the paces -/
def pcT (ts : List Tn) (k : Nat) : Rat := match ts[k]? with
  | some t => Rat.divInt t.q t.d
  | none => 1
/-- all bottoms together -/
def Pd : List Tn → Nat
  | [] => 1
  | t :: ts => t.d.natAbs * Pd ts
def Pacy (ts : List Tn) : Prop := ∀ t ∈ ts, PaceOk t.q t.d
theorem Pd_pos : ∀ {ts : List Tn}, Pacy ts → 0 < Pd ts
  | [], _ => Nat.one_pos
  | t :: ts, h => by
    have := (h t List.mem_cons_self).2.1
    exact Nat.mul_pos (by walk_at "om") (Pd_pos fun x hx => h x (List.mem_cons_of_mem _ hx))
theorem Pd_le : ∀ {ts : List Tn}, Pacy ts → Pd ts ≤ (10 ^ 10) ^ ts.length
  | [], _ => Nat.le_refl _
  | t :: ts, h => by
    have h1 := (h t List.mem_cons_self).2.1
    have h2 := (h t List.mem_cons_self).2.2.2.2
    show t.d.natAbs * Pd ts ≤ (10 ^ 10) ^ (ts.length + 1)
    rw [Nat.pow_succ, Nat.mul_comm]
    exact Nat.mul_le_mul (Pd_le fun x hx => h x (List.mem_cons_of_mem _ hx)) (by walk_at "om")
theorem Pd_dvd : ∀ {ts : List Tn} {t : Tn}, t ∈ ts → t.d.natAbs ∣ Pd ts
  | x :: ts, t, m => by
    rcases List.mem_cons.mp m with rfl | m
    · exact Nat.dvd_mul_right _ _
    · exact Nat.dvd_trans (Pd_dvd m) (Nat.dvd_mul_left _ _)
theorem pc_sml {ts : List Tn} (pa : Pacy ts) {k : Nat} (hk : k < ts.length) : Sml (Pd ts) (10 ^ 10 * Pd ts) (pcT ts k) := by
  obtain ⟨t, ht⟩ : ∃ t, ts[k]? = some t := ⟨_, List.getElem?_eq_getElem hk⟩
  have mt := List.mem_of_getElem? ht
  obtain ⟨q0, d0, _, ql, _⟩ := pa t mt
  obtain ⟨c, hc⟩ := Pd_dvd mt
  have e : pcT ts k = Rat.divInt t.q t.d := by unfold pcT; rw [ht]
  have dn : ((t.d : Int) : Rat) ≠ 0 := by
    intro z
    have := Rat.intCast_inj.mp (show ((t.d : Int) : Rat) = ((0 : Int) : Rat) from z)
    walk_at "om"
  refine ⟨t.q * (c : Int), ?_, ?_⟩
  · have e2 : ((Pd ts : Nat) : Int) = t.d * (c : Int) := by
      rw [hc, Int.natCast_mul]
      congr 1
      walk_at "om"
    rw [e, e2, Rat.divInt_eq_div, Rat.intCast_mul, Rat.intCast_mul, ← Rat.mul_assoc, Rat.div_mul_cancel dn]
  · rw [Int.natAbs_mul, hc]
    have h1 : 1 ≤ t.d.natAbs := by walk_at "om"
    refine Nat.mul_le_mul (by walk_at "om") ?_
    show c ≤ t.d.natAbs * c
    exact Nat.le_mul_of_pos_left _ h1
theorem pq_take {pc : Nat → Rat} {ks : List Nat} {i k : Nat} (e : ks[i]? = some k) : pq pc (ks.take (i + 1)) = pq pc (ks.take i) * pc k := by
  unfold pq
  rw [List.take_add_one, e, List.foldl_append]
  rfl
theorem pq_sml {ts : List Tn} (pa : Pacy ts) {ks : List Nat} (hk : ∀ k ∈ ks, k < ts.length) : ∀ i, i ≤ ks.length → Sml (Pd ts ^ i) ((10 ^ 10 * Pd ts) ^ i) (pq (pcT ts) (ks.take i))
  | 0, _ => by
    rw [Nat.pow_zero, Nat.pow_zero]
    exact Sml.one (Nat.le_refl _)
  | i + 1, h => by
    obtain ⟨k, ek⟩ : ∃ k, ks[i]? = some k := ⟨_, List.getElem?_eq_getElem h⟩
    rw [pq_take ek, Nat.pow_succ, Nat.pow_succ]
    exact (pq_sml pa hk i (by walk_at "om")).mul (pc_sml pa (hk k (List.mem_of_getElem? ek)))
/-- all at one bottom -/
def DD (ts : List Tn) : Nat := Pd ts ^ 7
def MM (ts : List Tn) : Nat := (10 ^ 10 * Pd ts) ^ 7
theorem pq_all {ts : List Tn} (pa : Pacy ts) {ks : List Nat} (hk : ∀ k ∈ ks, k < ts.length) (l7 : ks.length ≤ 7) : Sml (DD ts) (MM ts) (pq (pcT ts) ks) := by
  have h := pq_sml pa hk ks.length (Nat.le_refl _)
  rw [List.take_length] at h
  have := h.up (E := Pd ts ^ (7 - ks.length)) (N := MM ts) (by
    unfold MM
    rw [show 7 = ks.length + (7 - ks.length) by walk_at "om", Nat.pow_add, show ks.length + (7 - ks.length) - ks.length = 7 - ks.length by walk_at "om"]
    exact Nat.mul_le_mul_left _ (Nat.pow_le_pow_left (Nat.le_mul_of_pos_left _ (by decide)) _))
  rw [← Nat.pow_add, show ks.length + (7 - ks.length) = 7 by walk_at "om"] at this
  exact this
theorem small_bits {ts : List Tn} (pa : Pacy ts) (t8 : ts.length ≤ 8) {D M : Nat} {x : Rat} (h : Sml D M x) (d0 : 0 < D) (hD : D ≤ Pd ts ^ 8) (hM : M ≤ 10000 * (10 ^ 10 * Pd ts) ^ 8) : Bq 3900 x := by
  obtain ⟨h1, h2⟩ := h.bits d0
  have pl : Pd ts ≤ 10 ^ 80 := Nat.le_trans (Pd_le pa) (by rw [← Nat.pow_mul]; exact Nat.pow_le_pow_right (by decide) (by walk_at "om"))
  have p8 : Pd ts ^ 8 ≤ (10 ^ 80) ^ 8 := Nat.pow_le_pow_left pl 8
  have q8 : (10 ^ 10 * Pd ts) ^ 8 ≤ (10 ^ 10 * 10 ^ 80) ^ 8 := Nat.pow_le_pow_left (Nat.mul_le_mul_left _ pl) 8
  have z1 : (10 ^ 80) ^ 8 < 2 ^ 3900 := by decide
  have z2 : 10000 * (10 ^ 10 * 10 ^ 80) ^ 8 < 2 ^ 3900 := by decide
  exact ⟨Nat.lt_of_le_of_lt (Nat.le_trans h1 (Nat.le_trans hM (Nat.mul_le_mul_left _ q8))) z2, Nat.lt_of_le_of_lt (Nat.le_trans h2 (Nat.le_trans hD p8)) z1⟩
theorem pq_bits {ts : List Tn} (pa : Pacy ts) (t8 : ts.length ≤ 8) {ks : List Nat} (hk : ∀ k ∈ ks, k < ts.length) (l7 : ks.length ≤ 7) (i : Nat) : Bq 3900 (pq (pcT ts) (ks.take i)) := by
  have h := pq_all (ks := ks.take i) pa (fun k hk' => hk k (List.mem_of_mem_take hk')) (by rw [List.length_take]; walk_at "om")
  have p1 := Pd_pos pa
  refine small_bits pa t8 h (Nat.pow_pos p1) (Nat.pow_le_pow_right p1 (by decide)) ?_
  unfold MM
  exact Nat.le_trans (Nat.pow_le_pow_right (Nat.mul_pos (by decide) p1) (by decide)) (Nat.le_mul_of_pos_left _ (by decide))
theorem pc_bits {ts : List Tn} (pa : Pacy ts) (t8 : ts.length ≤ 8) {k : Nat} (hk : k < ts.length) : Bq 3900 (pcT ts k) := by
  have p1 := Pd_pos pa
  refine small_bits pa t8 (pc_sml pa hk) p1 (Nat.le_self_pow (by decide) _) ?_
  exact Nat.le_trans (Nat.le_self_pow (by decide) _) (Nat.le_mul_of_pos_left _ (by decide))
theorem pc_dat {ts : List Tn} (pa : Pacy ts) {k : Nat} {t : Tn} (ht : ts[k]? = some t) : dI [t.q, t.d] = dQ (pcT ts k) := by
  obtain ⟨_, d0, g, _, _⟩ := pa t (List.mem_of_getElem? ht)
  obtain ⟨e1, e2⟩ := low_rat (t := t.q) (b := t.d) (q := t.q) (d := t.d) (by walk_at "om") ⟨d0, g, rfl⟩
  unfold dQ
  have e : pcT ts k = Rat.divInt t.q t.d := by unfold pcT; rw [ht]
  rw [e, ← e1, ← e2]
def spPace (K : PySem.W.Frag) : Sp := fun vs H Q _ => ∃ (c b : Addr) (xs : List V) (ts : List Tn) (ks : List Nat), vs = [.ref c, .ref b] ∧ H c = some (.tup xs) ∧ RzL K H xs (ts.map dT) ∧ H b = some (.lst ((ni ks).map V.int)) ∧ (∀ k ∈ ks, k < ts.length) ∧ Pacy ts ∧ ts.length ≤ 8 ∧ ks.length ≤ 7 ∧ ∀ (v : V) (H' : Hp), Same H H' → QV K H' v (pq (pcT ts) ks) → Q v H'
theorem len_pace {K : PySem.W.Frag} {vs : List V} {H : Hp} {Q : VK} {E : XK} {x y : Str} (h : spPace K vs H Q E) : vs.length = [x, y].length := by
  obtain ⟨a, b, c, d, e, rfl, _⟩ := h
  rfl
def t_pace (K : PySem.W.Frag) (oq : Addr) : TS := (tSeq (tAsg (tC (.ref oq)) (gName 2))
  (tSeq (tFor (iList K (tVar 1)) (gName 3)
  (tAsg (tCall (spTimesQ K) [] E0 (tCons (tVar 2) (tCons (tOp (rIxT K) (tOp (rIxT K) (tVar 0) (tVar 3)) (tC (.int 2))) tNil))) (gName 2)))
  (tRet (tVar 2))))
theorem rd_pace {K : PySem.W.Frag} {oq : Addr} (one : ∀ H : Hp, SqT K H oq [.int 1, .int 1]) {vs : List V} {H : Hp} {Q : VK} {E : XK} {N : List Str} (hN : N.length = 4) (h : spPace K vs H Q E) : t_pace K oq (ends Q) (L2.start N vs) H := by
  obtain ⟨c, b, xs, ts, ks, rfl, hc, rx, hb, hk, pa, t8, l7, k⟩ := h
  rw [show L2.start N [.ref c, .ref b] = [some (.ref c), some (.ref b), none, none] by unfold L2.start; rw [hN]; rfl]
  have lx : xs.length = ts.length := by rw [rx.length, List.length_map]
  unfold t_pace
  walk_at "rd"
  refine k_rlF (SqL.of hb) ?_
  refine fat_list (xs := (ni ks).map V.int) (fun i σ H2 => ∃ (v : V) (u3 : Option V), σ = [some (.ref c), some (.ref b), some v, u3] ∧ Same H H2 ∧ QV K H2 v (pq (pcT ts) (ks.take i))) ⟨.ref oq, none, rfl, Same.refl _, oq, rfl, one H⟩ (fun i σ H2 _ ⟨_, _, _, S, _⟩ => SqL.of (S _ _ hb)) ?_ ?_
  · rintro i x σ H2 hx ⟨v, u3, rfl, S2, qv⟩
    obtain ⟨m, em, rfl⟩ := ni_get hx
    have lm := hk m (List.mem_of_getElem? em)
    obtain ⟨t, ht⟩ : ∃ t, ts[m]? = some t := ⟨_, List.getElem?_eq_getElem lm⟩
    obtain ⟨z, ez⟩ : ∃ z, xs[m]? = some z := ⟨_, List.getElem?_eq_getElem (by walk_at "om")⟩
    obtain ⟨d, g1, g2⟩ := rx.get ez
    rw [List.getElem?_map, ht] at g1
    cases g1
    obtain ⟨pt_, z1, z2, z3, rfl, hpt, _, _, q3⟩ := dT_at (g2.same S2)
    rw [pc_dat pa ht] at q3
    walk_at "rd"
    refine k_ixT (SqT.of (S2 _ _ hc)) (v := .ref pt_) (atI_nat ez) ?_
    walk_at "rd"
    refine k_ixT (SqT.of hpt) (v := z3) rfl ?_
    walk_at "rd"
    refine ⟨v, z3, _, _, rfl, qv, QV.of q3, pq_bits pa t8 hk l7 i, pc_bits pa t8 lm, fun p H3 S3 r3 => ?_⟩
    walk_at "rd"
    refine ⟨_, _, rfl, S2.trans S3, ?_⟩
    rw [pq_take em]
    exact QV.of r3
  · rintro σ H2 ⟨v, u3, rfl, S2, qv⟩
    rw [ni_len, List.take_length] at qv
    walk_at "rd"
    exact k v H2 S2 qv
end Tr

namespace Tr
open PySem L2 Fr G1 Sm Vs G2 Rk Sz Sf Rw Ti
open PySem.W (Dat kqdOk)
theorem filt_add {α : Type} {p q : α → Bool} : ∀ l : List α, (∀ x ∈ l, p x = true → q x = false) → (l.filter p).length + (l.filter q).length = (l.filter fun x => p x || q x).length
  | [], _ => rfl
  | a :: l, h => by
    have ih := filt_add l fun x hx => h x (List.mem_cons_of_mem _ hx)
    have ha := h a List.mem_cons_self
    cases e1 : p a <;> cases e2 : q a
    · rw [List.filter_cons_of_neg (by rw [e1]; decide), List.filter_cons_of_neg (by rw [e2]; decide), List.filter_cons_of_neg (by rw [e1, e2]; decide)]; exact ih
    · rw [List.filter_cons_of_neg (by rw [e1]; decide), List.filter_cons_of_pos e2, List.filter_cons_of_pos (by rw [e1, e2]; rfl), List.length_cons, List.length_cons]; walk_at "om"
    · rw [List.filter_cons_of_pos e1, List.filter_cons_of_neg (by rw [e2]; decide), List.filter_cons_of_pos (by rw [e1]; rfl), List.length_cons, List.length_cons]; walk_at "om"
    · rw [ha e1] at e2; cases e2
def sumF (es : List (Nat × Nat)) : List Nat → Nat
  | [] => 0
  | h :: hs => (frm es h).length + sumF es hs
theorem sumF_le (es : List (Nat × Nat)) : ∀ {hs : List Nat}, hs.Nodup → sumF es hs ≤ ((List.range es.length).filter fun k => hs.contains (fro es k)).length
  | [], _ => Nat.zero_le _
  | h :: hs, nd => by
    obtain ⟨n1, n2⟩ := List.nodup_cons.mp nd
    have ih := sumF_le es n2
    have e := filt_add (p := fun k => fro es k == h) (q := fun k => hs.contains (fro es k)) (List.range es.length) fun k _ hk => by
      have : fro es k = h := by simpa using hk
      rw [this]
      simpa using n1
    have e2 : (fun k => (fro es k == h) || hs.contains (fro es k)) = fun k => (h :: hs).contains (fro es k) := funext fun k => by rw [List.contains_cons]
    rw [e2] at e
    show (frm es h).length + sumF es hs ≤ _
    unfold frm
    walk_at "om"
theorem pk_cnt {es : List (Nat × Nat)} : ∀ (hs : List Nat) (acc : List (List Nat)), (hs.foldl (pkS es) acc).length ≤ acc.length * 2 ^ sumF es hs
  | [], acc => by show acc.length ≤ acc.length * 2 ^ 0; walk_at "om"
  | h :: hs, acc => by
    refine Nat.le_trans (pk_cnt hs (pkS es acc h)) ?_
    have l1 : (pkS es acc h).length = acc.length * (frm es h).length := by
      unfold pkS
      rw [List.length_flatMap]
      clear pk_cnt
      induction acc with
      | nil => rw [List.map_nil, List.sum_nil, List.length_nil, Nat.zero_mul]
      | cons a acc ih => rw [List.map_cons, List.sum_cons, ih, List.length_map, List.length_cons, Nat.succ_mul, Nat.add_comm]
    rw [l1, show sumF es (h :: hs) = (frm es h).length + sumF es hs from rfl, Nat.pow_add, ← Nat.mul_assoc]
    exact Nat.mul_le_mul_right _ (Nat.mul_le_mul_left _ (Nat.le_of_lt Nat.lt_two_pow_self))
theorem pk_few {es : List (Nat × Nat)} (e8 : es.length ≤ 8) {hs : List Nat} (nd : hs.Nodup) (i : Nat) : (pk es (hs.take i)).length ≤ 900 := by
  have h1 := pk_cnt (es := es) (hs.take i) [[]]
  have h2 := sumF_le es (nd.sublist (List.take_sublist i hs))
  have h3 := List.length_filter_le (fun k => (hs.take i).contains (fro es k)) (List.range es.length)
  rw [List.length_range] at h3
  have h4 : 2 ^ sumF es (hs.take i) ≤ 2 ^ 8 := Nat.pow_le_pow_right (by decide) (by walk_at "om")
  have h5 : [([] : List Nat)].length = 1 := rfl
  unfold pk
  rw [h5] at h1
  walk_at "om"
open Classical in
noncomputable def wq (es : List (Nat × Nat)) (ts : List Tn) (r : Nat) (q : List Nat) : Rat := if TD (prs es q r) r then pq (pcT ts) q else 0
theorem ls_take {α : Type} {l : List α} {f : α → Rat} {j : Nat} {x : α} (e : l[j]? = some x) : ls (l.take (j + 1)) f = ls (l.take j) f + f x := by
  rw [List.take_add_one, e, ls_app]
  show _ + (f x + 0) = _
  rw [Rat.add_zero]
theorem wq_sum {es : List (Nat × Nat)} {ts : List Tn} {r : Nat} (pa : Pacy ts) : ∀ {l : List (List Nat)}, (∀ q ∈ l, (∀ k ∈ q, k < ts.length) ∧ q.length ≤ 7) → Sml (DD ts) (l.length * MM ts) (ls l (wq es ts r))
  | [], _ => Sml.zero _ _
  | q :: l, h => by
    have h1 : Sml (DD ts) (MM ts) (wq es ts r q) := by
      unfold wq
      split
      · exact pq_all pa (h q List.mem_cons_self).1 (h q List.mem_cons_self).2
      · exact Sml.zero _ _
    rw [ls_cons, List.length_cons, Nat.succ_mul, Nat.add_comm]
    exact h1.add (wq_sum pa fun x hx => h x (List.mem_cons_of_mem _ hx))
theorem wq_bits {es : List (Nat × Nat)} {ts : List Tn} {r : Nat} (pa : Pacy ts) (t8 : ts.length ≤ 8) {l : List (List Nat)} (h : ∀ q ∈ l, (∀ k ∈ q, k < ts.length) ∧ q.length ≤ 7) (few : l.length ≤ 900) : Bq 3900 (ls l (wq es ts r)) := by
  have p1 := Pd_pos pa
  refine small_bits pa t8 (wq_sum pa h) (Nat.pow_pos p1) (Nat.pow_le_pow_right p1 (by decide)) ?_
  unfold MM
  exact Nat.mul_le_mul (by walk_at "om") (Nat.pow_le_pow_right (Nat.mul_pos (by decide) p1) (by decide))
def spTreeW (K : PySem.W.Frag) : Sp := fun vs H Q _ => ∃ (c p b : Addr) (ys xs : List V) (ts : List Tn) (es : List (Nat × Nat)) (L : List Nat) (r : Nat), vs = [.ref c, .ref p, .ref b, .int (r : Int)] ∧ H c = some (.tup ys) ∧ RzL K H ys (ts.map dT) ∧ H p = some (.lst xs) ∧ RzL K H xs (es.map dP) ∧ H b = some (.lst ((ni L).map V.int)) ∧ es.length = ts.length ∧ ts.length ≤ 8 ∧ Pacy ts ∧ L.Nodup ∧ r ∈ L ∧ L.length ≤ 8 ∧ (∀ k, k < es.length → (fro es k ∈ L ↔ tow es k ∈ L)) ∧
  ∀ (v : V) (H' : Hp), Same H H' → QV K H' v (W es (pcT ts) L r) → Q v H'
theorem len_treeW {K : PySem.W.Frag} {vs : List V} {H : Hp} {Q : VK} {E : XK} {x y z w : Str} (h : spTreeW K vs H Q E) : vs.length = [x, y, z, w].length := by
  obtain ⟨a, b, c, d, e, f, g, i, j, rfl, _⟩ := h
  rfl
def t_treeW (K : PySem.W.Frag) (nq : Addr) : TS := (tSeq (tAsg (tC (.ref nq)) (gName 4))
  (tSeq (tFor (iList K (tCall (spPicks K) [] E0 (tCons (tVar 1) (tCons (tCompF (iList K (tVar 2)) 1 (gName 0) (tTest (tOp rNe (tVar 0) (tVar 4))) (tVar 0)) tNil)))) (gName 5)
  (tIfS (tB (tCall (spTree K) [] E0 (tCons (tVar 1) (tCons (tVar 5) (tCons (tVar 3) tNil)))))
  (tAsg (tCall (spPlusQ K) [] E0 (tCons (tVar 4) (tCons (tCall (Tr.spPace K) [] E0 (tCons (tVar 0) (tCons (tVar 5) tNil))) tNil))) (gName 4))
  tNext))
  (tRet (tVar 4))))
theorem rd_treeW {K : PySem.W.Frag} {nq : Addr} (zero : ∀ H : Hp, SqT K H nq [.int 0, .int 1]) {vs : List V} {H : Hp} {Q : VK} {E : XK} {N : List Str} (hN : N.length = 6) (h : spTreeW K vs H Q E) : t_treeW K nq (ends Q) (L2.start N vs) H := by
  obtain ⟨c, p, b, ys, xs, ts, es, L, r, rfl, hc, ry, hp, rx, hb, et, t8, pa, nd, hr, l8, cl, k⟩ := h
  rw [show L2.start N [.ref c, .ref p, .ref b, .int (r : Int)] = [some (.ref c), some (.ref p), some (.ref b), some (.int (r : Int)), none, none] by unfold L2.start; rw [hN]; rfl]
  have ndo : (oth L r).Nodup := nd.filter _
  have lo := oth_len nd hr
  unfold t_treeW
  walk_at "rd"
  refine ⟨b, rfl, ⟨_, SqL.of hb⟩, ?_⟩
  refine compF_list (xs := (ni L).map V.int) fun D nD => ⟨fun j H2 => AccZ K H D H2 ((oth (L.take j) r).map dN), AccZ.start (Same.refl _) nD, fun j H2 _ A => SqL.of (A.same _ _ hb), ?_, ?_⟩
  · intro j x H2 hx A us hu
    obtain ⟨u0, rfl⟩ : ∃ u, us = [u] := List.length_eq_one_iff.mp hu
    have lj := (List.getElem?_eq_some_iff.mp hx).1
    obtain ⟨h, eh, rfl⟩ := ni_get hx
    have er : oth (L.take (j + 1)) r = oth (L.take j) r ++ [h].filter fun x => x != r := by
      unfold oth
      rw [List.take_add_one, eh, List.filter_append]
      rfl
    have lr : (oth (L.take j) r).length ≤ 8 := Nat.le_trans (List.length_filter_le _ _) (by rw [List.length_take]; walk_at "om")
    walk_at "rd"
    refine ⟨⟨[some (.int (h : Int))], rfl, rfl⟩, ?_⟩
    walk_at "rd"
    refine k_iteN (fun z => ?_) (fun z => ?_)
    · have z' : h ≠ r := fun e => z (by rw [e])
      walk_at "rd"
      refine pushed lj ?_
      refine A.pushK (d := dN h) (.int _) (small1000 (by rw [List.length_map]; walk_at "om")) fun H4 A4 => ?_
      show AccZ K H D H4 ((oth (L.take (j + 1)) r).map dN)
      rw [er, List.filter_cons_of_pos (by simpa using z'), List.map_append]
      exact A4
    · have z' : h = r := by walk_at "om"
      refine skipped lj ?_
      show AccZ K H D H2 ((oth (L.take (j + 1)) r).map dN)
      rw [er, List.filter_cons_of_neg (by simpa using z')]
      simpa using A
  intro H2 A
  rw [ni_len, List.take_length] at A
  have hD : H2 D = some (.lst ((ni (oth L r)).map V.int)) := AccZ.ints (by unfold ni; rw [List.map_map]; exact A)
  have S2 := A.same
  walk_at "rd"
  refine ⟨p, D, xs, es, oth L r, rfl, S2 _ _ hp, rx.same S2, by walk_at "om", hD, by walk_at "om", pk_few (by walk_at "om") ndo, fun q H3 A3 => ?_⟩
  have few := pk_few (es := es) (by walk_at "om") ndo (oth L r).length
  rw [List.take_length] at few
  obtain ⟨zs, hz, rz⟩ := A3.at_
  have lz : zs.length = (pk es (oth L r)).length := by rw [rz.length, List.length_map]
  have S3 := S2.trans A3.same
  have pkm : ∀ q ∈ pk es (oth L r), q.map (fro es) = oth L r ∧ ∀ k ∈ q, k < es.length := fun q hq => by
    obtain ⟨a, ha, ks, e1, e2, e3⟩ := pk_mem hq
    rw [List.mem_singleton.mp ha, List.nil_append] at e1
    rw [e1]; exact ⟨e2, e3⟩
  have pk7 : ∀ q ∈ pk es (oth L r), (∀ k ∈ q, k < ts.length) ∧ q.length ≤ 7 := fun q hq => by
    obtain ⟨e2, e3⟩ := pkm q hq
    have := congrArg List.length e2
    rw [List.length_map] at this
    exact ⟨fun k hk => by have := e3 k hk; walk_at "om", by walk_at "om"⟩
  have fin : ls (pk es (oth L r)) (wq es ts r) = W es (pcT ts) L r := W_pk nd hr cl
  rw [← fin] at k
  generalize pk es (oth L r) = P at rz lz few pkm pk7 k
  refine k_rlF (SqL.of hz) ?_
  refine fat_list (xs := zs) (fun j σ H4 => ∃ (v : V) (u5 : Option V), σ = [some (.ref c), some (.ref p), some (.ref b), some (.int (r : Int)), some v, u5] ∧ Same H3 H4 ∧ QV K H4 v (ls (P.take j) (wq es ts r))) ⟨.ref nq, none, rfl, Same.refl _, nq, rfl, zero H3⟩ (fun j σ H4 _ ⟨_, _, _, S, _⟩ => SqL.of (S _ _ hz)) ?_ ?_
  · rintro j x σ H4 hx ⟨v, u5, rfl, S4, qv⟩
    have lj := (List.getElem?_eq_some_iff.mp hx).1
    obtain ⟨d, g1, g2⟩ := rz.get hx
    rw [List.getElem?_map] at g1
    obtain ⟨w, hw, rfl⟩ := Option.map_eq_some_iff.mp g1
    obtain ⟨a, rfl, _, ha⟩ := dL_at g2
    have mw := List.mem_of_getElem? hw
    obtain ⟨m1, m2⟩ := pkm w mw
    obtain ⟨m3, m4⟩ := pk7 w mw
    have S04 := S3.trans S4
    have keys : (prs es w r).map (·.1) = r :: oth L r := by
      unfold prs
      rw [List.map_cons, List.map_map, ← m1]
      rfl
    walk_at "rd"
    refine ⟨p, a, xs, es, w, r, rfl, S04 _ _ hp, rx.same S04, S4 _ _ ha, by walk_at "om", m2, ?_, ?_, fun td H5 S5 => ?_, fun td H5 S5 => ?_⟩
    · rw [keys, List.nodup_cons]
      exact ⟨oth_not, ndo⟩
    · intro e he
      rw [keys]
      have inL : ∀ h, h ∈ L → h ∈ r :: oth L r := fun h hh => by
        by_cases q : h = r
        · rw [q]; exact List.mem_cons_self
        · exact List.mem_cons_of_mem _ (mem_oth.mpr ⟨hh, q⟩)
      rcases List.mem_cons.mp (show e ∈ (r, r) :: w.map fun k => (fro es k, tow es k) from he) with rfl | he
      · exact List.mem_cons_self
      · obtain ⟨k, hk, rfl⟩ := List.mem_map.mp he
        refine inL _ ((cl k (m2 k hk)).mp ?_)
        have : fro es k ∈ w.map (fro es) := List.mem_map.mpr ⟨k, hk, rfl⟩
        rw [m1] at this
        exact (mem_oth.mp this).1
    · walk_at "rd"
      refine ⟨c, a, ys, ts, w, rfl, S5 _ _ (S04 _ _ hc), ry.same (S04.trans S5), S5 _ _ (S4 _ _ ha), m3, pa, t8, m4, fun v2 H6 S6 qv2 => ?_⟩
      walk_at "rd"
      have fs : ∀ q ∈ P.take j, (∀ k ∈ q, k < ts.length) ∧ q.length ≤ 7 := fun q hq => pk7 q (List.mem_of_mem_take hq)
      refine ⟨v, v2, _, _, rfl, (qv.same S5).same S6, qv2, wq_bits pa t8 fs (by rw [List.length_take]; walk_at "om"), by have := pq_bits pa t8 m3 m4 w.length; rw [List.take_length] at this; exact this, fun p2 H7 S7 r7 => ?_⟩
      walk_at "rd"
      refine ⟨_, _, rfl, S4.trans (S5.trans (S6.trans S7)), ?_⟩
      rw [ls_take hw, show wq es ts r w = pq (pcT ts) w from if_pos td]
      exact QV.of r7
    · walk_at "rd"
      refine ⟨_, _, rfl, S4.trans S5, ?_⟩
      rw [ls_take hw, show wq es ts r w = 0 from if_neg td, Rat.add_zero]
      exact qv.same S5
  · rintro σ H4 ⟨v, u5, rfl, S4, qv⟩
    rw [lz, List.take_length] at qv
    walk_at "rd"
    exact k v H4 (S3.trans S4) qv
end Tr

namespace Tr
open PySem L2 Fr G1 Sm Vs G2 Rk Sz Sf Rw Ti Lo
open PySem.W (Dat kqdOk)
theorem mem_places {f : List Nat} {v h : Nat} : h ∈ places f v ↔ h < f.length ∧ Lo.at_ f h = v := by
  unfold places
  rw [List.mem_filter, List.mem_range, decide_eq_true_eq]
theorem places_nd (f : List Nat) (v : Nat) : (places f v).Nodup := List.nodup_range.filter _
theorem places_len {f : List Nat} {v : Nat} : (places f v).length ≤ f.length := by
  unfold places
  exact Nat.le_trans (List.length_filter_le _ _) (by rw [List.length_range]; exact Nat.le_refl _)
theorem es_at {es : List (Nat × Nat)} {k : Nat} (h : k < es.length) : (fro es k, tow es k) ∈ es := by
  unfold fro tow
  rw [List.getD_eq_getElem?_getD, List.getElem?_eq_getElem h]
  exact List.getElem_mem h
theorem places_cl {n : Nat} {es : List (Nat × Nat)} {f : List Nat} (F : FI n es es f) (ok : EOk n es) (v k : Nat) (hk : k < es.length) : fro es k ∈ places f v ↔ tow es k ∈ places f v := by
  have m := es_at hk
  have e := F.one _ m
  have o := ok _ m
  have o1 : fro es k < n := o.1
  have o2 : tow es k < n := o.2
  have e' : Lo.at_ f (fro es k) = Lo.at_ f (tow es k) := e
  rw [mem_places, mem_places, F.len, e']
  constructor
  · exact fun z => ⟨o2, z.2⟩
  · exact fun z => ⟨o1, z.2⟩
theorem pigeon {L : List Nat} (l : List Nat) (nd : l.Nodup) (s : ∀ x ∈ l, x ∈ L) : l.length ≤ L.length := nodup_len nd s
/-- the weight of a heap -/
noncomputable def Wt (ts : List Tn) (h : Nat) : Rat := W (endsOf ts) (pcT ts) (places (firstsOf (hdd ts).length (endsOf ts)) (Lo.at_ (firstsOf (hdd ts).length (endsOf ts)) h)) h
def kv (dv : List (Nat × V)) : List (Key × V) := dv.map fun q => ((.inl (q.1 : Int) : Key), q.2)
theorem kv_none : ∀ {dv : List (Nat × V)} {h : Nat}, h ∉ dv.map (·.1) → valV (kv dv) (.inl (h : Int)) = none
  | [], h, _ => rfl
  | q :: dv, h, n => by
    show valV (((.inl (q.1 : Int) : Key), q.2) :: kv dv) (.inl (h : Int)) = _
    rw [valV_neg fun z => n (by have := Sum.inl.inj z; rw [List.map_cons, show q.1 = h by walk_at "om"]; exact List.mem_cons_self)]
    exact kv_none fun m => n (List.mem_cons_of_mem _ m)
theorem kv_put {dv : List (Nat × V)} {h : Nat} {v : V} (n : h ∉ dv.map (·.1)) : putK (kv dv) (.inl (h : Int)) v = kv (dv ++ [(h, v)]) := by
  unfold putK
  rw [valV_any, kv_none n]
  show kv dv ++ [_] = _
  unfold kv
  rw [List.map_append]
  rfl
theorem kv_get : ∀ {dv : List (Nat × V)} {h : Nat}, h ∈ dv.map (·.1) → ∃ v, valV (kv dv) (.inl (h : Int)) = some v ∧ (h, v) ∈ dv
  | [], h, m => by cases m
  | q :: dv, h, m => by
    by_cases e : q.1 = h
    · refine ⟨q.2, ?_, by rw [← e]; exact List.mem_cons_self⟩
      show valV (((.inl (q.1 : Int) : Key), q.2) :: kv dv) (.inl (h : Int)) = _
      rw [valV_pos (by rw [e])]
    · obtain ⟨v, h1, h2⟩ := kv_get (dv := dv) (h := h) ((List.mem_cons.mp m).resolve_left fun z => e z.symm)
      refine ⟨v, ?_, List.mem_cons_of_mem _ h2⟩
      show valV (((.inl (q.1 : Int) : Key), q.2) :: kv dv) (.inl (h : Int)) = _
      rw [valV_neg fun z => e (by have := Sum.inl.inj z; walk_at "om")]
      exact h1
theorem QV.put {K : PySem.W.Frag} {H : Hp} {v : V} {x : Rat} {rd : Addr} {kvs : List (Key × V)} {o : HO} (h : QV K H v x) (hd : H rd = some (.dK kvs)) : QV K (upd H rd o) v x := by
  obtain ⟨a, e, ha⟩ := h
  refine ⟨a, e, ?_⟩
  rcases ha with (ha | ⟨u, ha⟩) | ha
  · exact .inl (.inl (by rw [upd_ne fun z => by rw [z, hd] at ha; cases ha]; exact ha))
  · exact .inl (.inr ⟨u, by rw [upd_ne fun z => by rw [z, hd] at ha; cases ha]; exact ha⟩)
  · exact .inr ha
/-- all but dicts stay -/
def Kp (H H' : Hp) : Prop := ∀ c o, H c = some o → (∀ kvs, o ≠ .dK kvs) → H' c = some o
theorem Kp.on {H H1 H2 : Hp} (k : Kp H H1) (S : Same H1 H2) : Kp H H2 := fun c o e n => S _ _ (k c o e n)
theorem Kp.put {H H1 : Hp} {rd : Addr} {kvs : List (Key × V)} {o : HO} (k : Kp H H1) (hd : H1 rd = some (.dK kvs)) : Kp H (upd H1 rd o) := fun c o' e n => by
  have := k c o' e n
  rw [upd_ne fun z => by rw [z, hd] at this; exact n kvs (Option.some.inj this).symm]
  exact this
theorem Kp.lst {H H1 : Hp} (k : Kp H H1) {c : Addr} {xs : List V} (h : H c = some (.lst xs)) : H1 c = some (.lst xs) := k _ _ h fun _ z => by cases z
theorem Kp.tup {H H1 : Hp} (k : Kp H H1) {c : Addr} {xs : List V} (h : H c = some (.tup xs)) : H1 c = some (.tup xs) := k _ _ h fun _ z => by cases z
theorem Kp.rz {K : PySem.W.Frag} {H H1 : Hp} (k : Kp H H1) {xs : List V} {ds : List Dat} (h : RzL K H xs ds) : RzL K H1 xs ds := h.agr ⟨fun _ _ e => k.tup e, fun _ _ z => z.elim⟩
structure DI (K : PySem.W.Frag) (ts : List Tn) (H H3 : Hp) (rd : Addr) (ks : List Nat) (H4 : Hp) : Prop where
  same : Same H H4
  keep : Kp H3 H4
  dict : ∃ dv : List (Nat × V), H4 rd = some (.dK (kv dv)) ∧ dv.map (·.1) = ks ∧ ∀ q ∈ dv, QV K H4 q.2 (Wt ts q.1)
def spTrees (K : PySem.W.Frag) : Sp := fun vs H Q _ => ∃ (v : V) (ws : List Str) (ts : List Tn), vs = [v] ∧ Rz K H v (dV ws ts) ∧ ts.length ≤ 8 ∧ (hdd ts).length ≤ 8 ∧ Pacy ts ∧ ∀ (p : Addr) (H' : Hp) (xs : List V), H p = none → Same H H' → H' p = some (.lst xs) → xs.length = (hdd ts).length → (∀ i x, xs[i]? = some x → QV K H' x (Wt ts i)) → Q (.ref p) H'
theorem len_trees {K : PySem.W.Frag} {vs : List V} {H : Hp} {Q : VK} {E : XK} {x : Str} (h : spTrees K vs H Q E) : vs.length = [x].length := by
  obtain ⟨a, b, c, rfl, _⟩ := h
  rfl
def t_trees (K : PySem.W.Frag) : TS := (tSeq (tAsg (tCall (spEnds K) [] E0 (tCons (tVar 0) tNil)) (gName 1))
  (tSeq (tAsg tDNewK (gName 2))
  (tSeq (tFor (iList K (tCall (spLots K) [] E0 (tCons (tVar 0) tNil))) (gName 3)
  (tFor (iList K (tVar 3)) (gName 4)
  (sDPut (tVar 2) (tVar 4) (tCall (spTreeW K) [] E0 (tCons (tOp (rIxT K) (tVar 0) (tC (.int 1))) (tCons (tVar 1) (tCons (tVar 3) (tCons (tVar 4) tNil))))))))
  (tRet (tComp (iRng1 (tCons (tCB rLenD (tCons (tVar 2) tNil)) tNil)) (tDGet (tVar 3) (tVar 0)))))))
theorem rd_trees {K : PySem.W.Frag} {vs : List V} {H : Hp} {Q : VK} {E : XK} {N : List Str} (hN : N.length = 5) (h : spTrees K vs H Q E) : t_trees K (ends Q) (L2.start N vs) H := by
  obtain ⟨v, ws, ts, rfl, rv, t8, h8, pa, k⟩ := h
  have rv0 := rv
  obtain ⟨a, v1, v2, rfl, ha, _, r2⟩ := dV_at rv
  obtain ⟨c, ys, rfl, hc, ry⟩ := r2.tup_at
  rw [show L2.start N [.ref a] = [some (.ref a), none, none, none, none] by unfold L2.start; rw [hN]; rfl]
  have ok := ends_ok ts
  have le : (endsOf ts).length = ts.length := by unfold endsOf; rw [List.length_map]
  have F := first_all ok
  unfold t_trees
  walk_at "rd"
  refine ⟨.ref a, ws, ts, rfl, rv0, by walk_at "om", fun pe H1 A1 => ?_⟩
  obtain ⟨xs, hpe, rx⟩ := A1.at_
  have S1 := A1.same
  walk_at "rd"
  intro rd nr
  have S2 := S1.trans (same_new nr (.dK []))
  have d2 : upd H1 rd (.dK []) rd = some (.dK (kv [])) := upd_same
  have hpe2 := same_new nr (.dK []) _ _ hpe
  have rx2 := rx.same (same_new nr (.dK []))
  have nrH : H rd = none := S1.free nr
  generalize upd H1 rd (.dK []) = H2 at S2 d2 hpe2 rx2 ⊢
  walk_at "rd"
  refine ⟨.ref a, ws, ts, rfl, rv0.same S2, t8, h8, fun lp H3 S3 r3 => ?_⟩
  obtain ⟨lp', zs, elp, _, hl, rz⟩ := Rp.lst_at r3
  cases elp
  unfold lotM at rz
  have lz : zs.length = (lotsOf (firstsOf (hdd ts).length (endsOf ts))).length := by rw [rz.length, List.length_map, List.length_map]
  have hW : ∀ h, Wt ts h = W (endsOf ts) (pcT ts) (places (firstsOf (hdd ts).length (endsOf ts)) (Lo.at_ (firstsOf (hdd ts).length (endsOf ts)) h)) h := fun _ => rfl
  generalize firstsOf (hdd ts).length (endsOf ts) = f at F rz lz hW
  generalize (hdd ts).length = n at F ok h8 k
  have fl := F.len
  have hpe3 := S3 _ _ hpe2
  have rx3 := rx2.same S3
  have hc3 := S3 _ _ (S2 _ _ hc)
  have ry3 := (ry.same S2).same S3
  have ha3 := S3 _ _ (S2 _ _ ha)
  have lo : ∀ i L, (lotsOf f)[i]? = some L → ∃ v, ((List.range f.length).filter fun v => Lo.at_ f v = v)[i]? = some v ∧ L = places f v := fun i L e => by
    unfold lotsOf at e
    rw [List.getElem?_map] at e
    obtain ⟨v, h1, h2⟩ := Option.map_eq_some_iff.mp e
    exact ⟨v, h1, h2.symm⟩
  have vnd : ((List.range f.length).filter fun v => Lo.at_ f v = v).Nodup := List.nodup_range.filter _
  generalize hV : (List.range f.length).filter (fun v => Lo.at_ f v = v) = Vs at lo vnd
  have D0 : DI K ts H H3 rd [] H3 := ⟨S2.trans S3, fun _ _ e _ => e, [], S3 _ _ d2, rfl, fun q hq => by cases hq⟩
  -- the keys when i lots are done
  let Dn : Nat → List Nat → Prop := fun i ks => ks.Nodup ∧ ∀ h, h ∈ ks ↔ h < n ∧ ∃ m, m < i ∧ Vs[m]? = some (Lo.at_ f h)
  have Dn0 : Dn 0 [] := ⟨List.nodup_nil, fun h => ⟨(fun z => by cases z), fun ⟨_, m, hm, _⟩ => absurd hm (Nat.not_lt_zero _)⟩⟩
  refine k_rlF (SqL.of hl) ?_
  refine fat_list (xs := zs) (fun i σ H4 => ∃ (u3 u4 : Option V) (ks : List Nat), σ = [some (.ref a), some (.ref pe), some (.ref rd), u3, u4] ∧ DI K ts H H3 rd ks H4 ∧ Dn i ks) ⟨none, none, [], rfl, D0, Dn0⟩ (fun i σ H4 _ ⟨_, _, _, _, D, _⟩ => SqL.of (D.keep.lst hl)) ?_ ?_
  · rintro i x σ H4 hx ⟨u3, u4, ks, rfl, D, dn⟩
    have li := (List.getElem?_eq_some_iff.mp hx).1
    obtain ⟨d, g1, g2⟩ := rz.get hx
    rw [List.getElem?_map, List.getElem?_map] at g1
    cases eL : (lotsOf f)[i]? with
    | none => rw [eL] at g1; cases g1
    | some L =>
      rw [eL] at g1
      cases g1
      obtain ⟨b, rfl, _, hb⟩ := dL_at g2
      obtain ⟨w, ew, rfl⟩ := lo i L eL
      have hb' : H3 b = some (.lst ((ni (places f w)).map V.int)) := hb
      walk_at "rd"
      refine k_rlF (SqL.of (D.keep.lst hb')) ?_
      refine fat_list (xs := (ni (places f w)).map V.int) (fun j σ H5 => ∃ (u4 : Option V), σ = [some (.ref a), some (.ref pe), some (.ref rd), some (.ref b), u4] ∧ DI K ts H H3 rd (ks ++ (places f w).take j) H5) ⟨u4, rfl, by simpa using D⟩ (fun j σ H5 _ ⟨_, _, D⟩ => SqL.of (D.keep.lst hb')) ?_ ?_
      · rintro j x σ H5 hx5 ⟨u4, rfl, D5⟩
        obtain ⟨h, eh, rfl⟩ := ni_get hx5
        have mh := List.mem_of_getElem? eh
        obtain ⟨hn, ah⟩ := mem_places.mp mh
        have nk : h ∉ ks ++ (places f w).take j := by
          intro m
          rcases List.mem_append.mp m with m | m
          · obtain ⟨_, t, ht, et⟩ := (dn.2 h).mp m
            rw [ah] at et
            have l1 := (List.getElem?_eq_some_iff.mp et)
            have l2 := (List.getElem?_eq_some_iff.mp ew)
            have := (List.getElem_inj (h₀ := l1.1) (h₁ := l2.1) vnd).mp (by rw [l1.2, l2.2])
            walk_at "om"
          · obtain ⟨t, et⟩ := List.getElem?_of_mem m
            have tj : t < j := by
              have := (List.getElem?_eq_some_iff.mp et).1
              rw [List.length_take] at this
              walk_at "om"
            rw [List.getElem?_take_of_lt tj] at et
            have l1 := (List.getElem?_eq_some_iff.mp et)
            have l2 := (List.getElem?_eq_some_iff.mp eh)
            have := (List.getElem_inj (h₀ := l1.1) (h₁ := l2.1) (places_nd f w)).mp (by rw [l1.2, l2.2])
            walk_at "om"
        walk_at "rd"
        refine k_ixT (SqT.of (D5.keep.tup ha3)) (v := .ref c) rfl ?_
        walk_at "rd"
        refine ⟨c, pe, b, ys, xs, ts, endsOf ts, places f w, h, rfl, D5.keep.tup hc3, D5.keep.rz ry3, D5.keep.lst hpe3, D5.keep.rz rx3, D5.keep.lst hb', le, t8, pa, places_nd f w, mh, Nat.le_trans places_len (by walk_at "om"), places_cl F ok w, fun v6 H6 S6 qv => ?_⟩
        obtain ⟨dv, q1, q2, q3⟩ := D5.dict
        have d6 := S6 _ _ q1
        have nkd : h ∉ dv.map (·.1) := by rw [q2]; exact nk
        have ldv : dv.length ≤ 100 := by
          have l1 : (dv.map (·.1)).length ≤ (List.range n).length := by
            refine nodup_len ?_ fun x hx => ?_
            · rw [q2]
              refine List.nodup_append.mpr ⟨dn.1, (places_nd f w).sublist (List.take_sublist _ _), fun x hx y hy e => ?_⟩
              subst e
              obtain ⟨_, t, ht, et⟩ := (dn.2 x).mp hx
              have := (mem_places.mp (List.mem_of_mem_take hy)).2
              rw [this] at et
              have l1 := (List.getElem?_eq_some_iff.mp et)
              have l2 := (List.getElem?_eq_some_iff.mp ew)
              have := (List.getElem_inj (h₀ := l1.1) (h₁ := l2.1) vnd).mp (by rw [l1.2, l2.2])
              walk_at "om"
            · rw [q2] at hx
              rw [List.mem_range]
              rcases List.mem_append.mp hx with hx | hx
              · exact ((dn.2 x).mp hx).1
              · have := (mem_places.mp (List.mem_of_mem_take hx)).1
                walk_at "om"
          rw [List.length_map, List.length_range] at l1
          walk_at "om"
        walk_at "rd"
        refine ⟨rd, _, rfl, (DPut.k d6 (small1000 (by unfold kv; rw [List.length_map]; walk_at "om")) : DPut H6 rd (kV (.inl (h : Int))) _ _), ?_⟩
        refine ⟨_, rfl, fun e o q => ?_, (D5.keep.on S6).put d6, dv ++ [(h, v6)], ?_, ?_, fun q hq => ?_⟩
        · rw [upd_ne (ne_of_none q nrH)]; exact S6 _ _ (D5.same e o q)
        · rw [upd_same, kv_put nkd]
        · rw [List.map_append, q2, List.take_add_one, eh, List.append_assoc]
          rfl
        · rcases List.mem_append.mp hq with hq | hq
          · exact ((q3 q hq).same S6).put d6
          · rw [List.mem_singleton.mp hq]
            refine QV.put ?_ d6
            show QV K H6 v6 (Wt ts h)
            rw [hW h, ah]
            exact qv
      · rintro σ H5 ⟨u4, rfl, D5⟩
        rw [ni_len, List.take_length] at D5
        walk_at "rd"
        refine ⟨_, _, _, rfl, D5, List.nodup_append.mpr ⟨dn.1, places_nd f w, fun x hx y hy e => ?_⟩, fun h => ?_⟩
        · subst e
          obtain ⟨_, t, ht, et⟩ := (dn.2 x).mp hx
          rw [(mem_places.mp hy).2] at et
          have l1 := (List.getElem?_eq_some_iff.mp et)
          have l2 := (List.getElem?_eq_some_iff.mp ew)
          have := (List.getElem_inj (h₀ := l1.1) (h₁ := l2.1) vnd).mp (by rw [l1.2, l2.2])
          walk_at "om"
        · rw [List.mem_append, dn.2 h, mem_places, fl]
          constructor
          · rintro (⟨q1, m, hm, em⟩ | ⟨q1, q2⟩)
            · exact ⟨q1, m, by walk_at "om", em⟩
            · exact ⟨q1, i, by walk_at "om", by rw [q2]; exact ew⟩
          · rintro ⟨q1, m, hm, em⟩
            rcases Nat.lt_or_ge m i with z | z
            · exact .inl ⟨q1, m, z, em⟩
            · rw [show m = i by walk_at "om", ew] at em
              exact .inr ⟨q1, (Option.some.inj em).symm⟩
  rintro σ H4 ⟨u3, u4, ks, rfl, D, dn⟩
  obtain ⟨dv, q1, q2, q3⟩ := D.dict
  have all : ∀ h, h ∈ ks ↔ h < n := fun h => by
    rw [dn.2 h]
    refine ⟨fun z => z.1, fun z => ⟨z, ?_⟩⟩
    have m : Lo.at_ f h ∈ Vs := by
      rw [← hV, List.mem_filter, List.mem_range, decide_eq_true_eq, fl]
      exact ⟨Nat.lt_of_le_of_lt (F.le h z) z, F.fix h z⟩
    obtain ⟨t, et⟩ := List.getElem?_of_mem m
    refine ⟨t, ?_, et⟩
    have := (List.getElem?_eq_some_iff.mp et).1
    rw [lz]
    unfold lotsOf
    rw [List.length_map, hV]
    exact this
  have lk2 : ks.length = n := by
    have l1 := nodup_len (hs := List.range n) dn.1 fun x hx => List.mem_range.mpr ((all x).mp hx)
    have l2 := nodup_len (hs := ks) (List.nodup_range (n := n)) fun x hx => (all x).mpr (List.mem_range.mp hx)
    rw [List.length_range] at l1 l2
    walk_at "om"
  have ldv : (kv dv).length = n := by
    unfold kv
    rw [List.length_map, ← lk2, ← q2, List.length_map]
  walk_at "rd"
  refine ⟨rd, _, rfl, q1, ?_⟩
  rw [ldv]
  refine ⟨_, rfl, by walk_at "om", by walk_at "om", ?_⟩
  rw [Int.toNat_natCast]
  refine comp_range (n := n) fun E nE => ⟨fun j H5 => ∃ us : List V, H5 = upd H4 E (.lst us) ∧ us.length = j ∧ ∀ i x, us[i]? = some x → QV K H4 x (Wt ts i), ⟨[], rfl, rfl, fun i x e => by cases e⟩, ?_, ?_⟩
  · rintro j H5 hj ⟨us, rfl, lu, qs⟩
    rw [Int.zero_add]
    have q15 := same_new nE (.lst us) _ _ q1
    obtain ⟨v, e1, e2⟩ := kv_get (dv := dv) (h := j) (by rw [q2]; exact (all j).mpr hj)
    walk_at "rd"
    refine ⟨rd, _, rfl, (by have := (DGet.k q15 : DGet _ rd (kV (.inl (j : Int))) _); rw [e1] at this; exact this), ?_⟩
    refine pushed hj ⟨us, upd_same, small1000 (by walk_at "om"), us ++ [v], ?_, by rw [List.length_append, lu]; rfl, fun i x e => ?_⟩
    · funext z
      unfold upd
      by_cases w : z = E
      · rw [if_pos w, if_pos w]
      · rw [if_neg w, if_neg w, if_neg w]
    · rcases Nat.lt_or_ge i us.length with z | z
      · rw [List.getElem?_append_left z] at e
        exact qs i x e
      · have li := (List.getElem?_eq_some_iff.mp e).1
        rw [List.length_append, List.length_singleton] at li
        have ei : i = us.length := by walk_at "om"
        subst ei
        rw [List.getElem?_append_right (Nat.le_refl _), Nat.sub_self] at e
        cases e
        rw [lu]
        exact q3 _ e2
  · rintro H5 ⟨us, rfl, lu, qs⟩
    exact k E _ us (D.same.free nE) (D.same.trans (same_new nE _)) upd_same lu fun i x e => (qs i x e).same (same_new nE _)
end Tr

namespace Tr
open PySem L2 Fr G1 Sm Vs G2 Rk Sz Sf Rw Ti Lo
open PySem.W (Dat kqdOk)
def spLowQ (K : PySem.W.Frag) : Sp := fun vs H Q _ => ∃ t b : Int, vs = [.int t, .int b] ∧ 0 < b ∧ t.natAbs < 2 ^ 8000 ∧ b.natAbs < 2 ^ 8000 ∧ ∀ (p : Addr) (q d : Int) (H' : Hp), Same H H' → Gd.Low t b q d → q.natAbs ≤ t.natAbs → d.natAbs ≤ b.natAbs → Rz K H' (.ref p) (dI [q, d]) → Q (.ref p) H'
theorem len_lowQ {K : PySem.W.Frag} {vs : List V} {H : Hp} {Q : VK} {E : XK} {x y : Str} (h : spLowQ K vs H Q E) : vs.length = [x, y].length := by
  obtain ⟨a, b, rfl, _⟩ := h
  rfl
def t_lowQ (K : PySem.W.Frag) : TS := (tSeq (tAsg (tCall spDiv [] E0 (tCons (tVar 0) (tCons (tVar 1) tNil))) (gName 2))
  (tRet (tTup (tCons (tOp rDivW (tVar 0) (tVar 2)) (tCons (tOp rDivW (tVar 1) (tVar 2)) tNil)))))
theorem rd_lowQ {K : PySem.W.Frag} {vs : List V} {H : Hp} {Q : VK} {E : XK} {N : List Str} (hN : N.length = 3) (h : spLowQ K vs H Q E) : t_lowQ K (ends Q) (L2.start N vs) H := by
  obtain ⟨t, b, rfl, b0, ht, hb, k⟩ := h
  rw [show L2.start N [.int t, .int b] = [some (.int t), some (.int b), none] by unfold L2.start; rw [hN]; rfl]
  unfold t_lowQ
  have p2 : (2 : Nat) ^ 8000 < 2 ^ 9000 := Nat.pow_lt_pow_right (by decide) (by decide)
  have nb : b ≠ 0 := by walk_at "om"
  have gp := Gd.gd_pos (a := t) nb
  have gl := Gd.gd_le (a := t) nb
  have wd : (Gd.gd t b).natAbs < 2 ^ 9000 := Nat.lt_of_le_of_lt (by walk_at "om") (Nat.lt_trans hb p2)
  have L := Gd.low_of (t := t) (b := b) (d := Gd.gd t b) nb (.inl ⟨rfl, b0⟩)
  have M := Gd.low_abs (t := t) (b := b) (d := Gd.gd t b) nb (.inl ⟨rfl, b0⟩)
  walk_at "rd"
  refine ⟨t, b, rfl, ?_⟩
  walk_at "rd"
  refine k_rI ⟨by walk_at "om", wd⟩ ?_
  walk_at "rd"
  refine k_rI ⟨by walk_at "om", wd⟩ ?_
  walk_at "rd"
  refine ⟨by show 2 ≤ sizeLine; decide, fun p np => ?_⟩
  exact k p _ _ _ (same_new np _) L M.1 M.2 (.tup upd_same (RpL.ints [_, _]))
theorem lowQ_of {K : PySem.W.Frag} {t b : Int} {H : Hp} {Q : VK} {E : XK} (t0 : 0 < t) (b0 : 0 < b) (t1 : t ≤ 10000000000) (b1 : b ≤ 10000000000) (k : ∀ (p : Addr) (q d : Int) (H' : Hp), Same H H' → PaceOk q d → Rz K H' (.ref p) (dI [q, d]) → Q (.ref p) H') : spLowQ K [.int t, .int b] H Q E := by
  have z : (10000000000 : Nat) < 2 ^ 8000 := Nat.lt_of_lt_of_le (show (10000000000 : Nat) < 2 ^ 40 by decide) (Nat.pow_le_pow_right (by decide) (by decide))
  refine ⟨t, b, rfl, b0, Nat.lt_of_le_of_lt (by walk_at "om") z, Nat.lt_of_le_of_lt (by walk_at "om") z, fun p q d H' S L m1 m2 r => k p q d H' S ⟨?_, L.pos, L.low, ?_, ?_⟩ r⟩
  · have w := L.worth
    have := L.pos
    by_cases z : 0 < q
    · exact z
    · have h1 : q * b ≤ 0 := Int.mul_nonpos_of_nonpos_of_nonneg (by walk_at "om") (by walk_at "om")
      have h2 : 0 < t * d := Int.mul_pos t0 L.pos
      walk_at "om"
  · walk_at "om"
  · have := L.pos
    walk_at "om"
def t_paceQ (K : PySem.W.Frag) : TS := (tSeq (tIfS (tTest (tOp rEq (tVar 1) (tC (.int 0))))
  (tRet (tTup (tCons (tC (.int 1)) (tCons (tC (.int 1)) tNil))))
  tNext)
  (tSeq (tIfS (tTest (tOp rEq (tVar 1) (tC (.int 1))))
  (tRet (tCall (spLowQ K) [] E0 (tCons (tOp qAdd (tC (.int 1)) (tOp rMod (tVar 0) (tC (.int 6)))) (tCons (tOp qAdd (tC (.int 1)) (tOp rMod (tOp rDiv (tVar 0) (tC (.int 6))) (tC (.int 5)))) tNil))))
  tNext)
  (tRet (tCall (spLowQ K) [] E0 (tCons (tOp qAdd (tC (.int 1)) (tOp rMod (tVar 0) (tOp rPow (tC (.int 10)) (tC (.int 9))))) (tCons (tOp qAdd (tC (.int 1)) (tOp rMod (tOp rDiv (tVar 0) (tOp rPow (tC (.int 10)) (tC (.int 9)))) (tOp rPow (tC (.int 10)) (tC (.int 9))))) tNil))))))
theorem rd_paceQ {K : PySem.W.Frag} {vs : List V} {H : Hp} {Q : VK} {E : XK} {N : List Str} (hN : N.length = 2) (h : spPace2 K vs H Q E) : t_paceQ K (ends Q) (L2.start N vs) H := by
  obtain ⟨a, b, rfl, k⟩ := h
  rw [show L2.start N [.int a, .int b] = [some (.int a), some (.int b)] by unfold L2.start; rw [hN]; rfl]
  unfold t_paceQ
  walk_at "rd"
  refine k_ite (fun z => ?_) (fun z => ?_)
  · walk_at "rd"
    refine ⟨by show 2 ≤ sizeLine; decide, fun p np => ?_⟩
    exact k p 1 1 _ (same_new np _) ⟨by decide, by decide, gd11, by decide, by decide⟩ (.tup upd_same (RpL.ints [1, 1]))
  walk_at "rd"
  refine k_ite (fun z => ?_) (fun z => ?_)
  · walk_at "rd"
    exact lowQ_of (by walk_at "om") (by walk_at "om") (by walk_at "om") (by walk_at "om") k
  · walk_at "rd"
    rw [p9]
    walk_at "rd"
    rw [p9]
    walk_at "rd"
    rw [p9]
    walk_at "rd"
    exact lowQ_of (by walk_at "om") (by walk_at "om") (by walk_at "om") (by walk_at "om") k
theorem den_pos (x y : Rat) : 0 < (x.den : Int) * (y.den : Int) := Int.mul_pos (by have := x.den_nz; walk_at "om") (by have := y.den_nz; walk_at "om")
def t_lplus (K : PySem.W.Frag) : TS := (tRet (tCall (spLowQ K) [] E0 (tCons (tOp qAdd (tOp rMulW (tOp (rIxT K) (tVar 0) (tC (.int 0))) (tOp (rIxT K) (tVar 1) (tC (.int 1)))) (tOp rMulW (tOp (rIxT K) (tVar 1) (tC (.int 0))) (tOp (rIxT K) (tVar 0) (tC (.int 1))))) (tCons (tOp rMulW (tOp (rIxT K) (tVar 0) (tC (.int 1))) (tOp (rIxT K) (tVar 1) (tC (.int 1)))) tNil))))
theorem rd_lplus {K : PySem.W.Frag} {vs : List V} {H : Hp} {Q : VK} {E : XK} {N : List Str} (hN : N.length = 2) (h : spPlusQ K vs H Q E) : t_lplus K (ends Q) (L2.start N vs) H := by
  obtain ⟨v, u, x, y, rfl, rv, ru, bx, by_, k⟩ := h
  obtain ⟨a, rfl, ha⟩ := rv
  obtain ⟨b, rfl, hb⟩ := ru
  rw [show L2.start N [.ref a, .ref b] = [some (.ref a), some (.ref b)] by unfold L2.start; rw [hN]; rfl]
  unfold t_lplus
  walk_at "rd"
  refine k_ixT ha (v := .int x.num) rfl ?_
  walk_at "rd"
  refine k_ixT hb (v := .int (y.den : Int)) rfl ?_
  refine ⟨_, _, rfl, rfl, ⟨Bq.w bx.1, Bq.w by_.d⟩, ?_⟩
  walk_at "rd"
  refine k_ixT hb (v := .int y.num) rfl ?_
  walk_at "rd"
  refine k_ixT ha (v := .int (x.den : Int)) rfl ?_
  refine ⟨_, _, rfl, rfl, ⟨Bq.w by_.1, Bq.w bx.d⟩, ?_⟩
  walk_at "rd"
  refine k_ixT ha (v := .int (x.den : Int)) rfl ?_
  walk_at "rd"
  refine k_ixT hb (v := .int (y.den : Int)) rfl ?_
  refine ⟨_, _, rfl, rfl, ⟨Bq.w bx.d, Bq.w by_.d⟩, ?_⟩
  walk_at "rd"
  refine ⟨_, _, rfl, den_pos x y, Bq.sum (Bq.mul bx.1 by_.d) (Bq.mul by_.1 bx.d), Nat.lt_trans (Bq.mul bx.d by_.d) (pw_lt (by decide)), fun p q d H' S L _ _ r => ?_⟩
  obtain ⟨e1, e2⟩ := low_rat (den_ne x y) L
  rw [rat_add] at e1 e2
  rw [e1, e2] at r
  exact k p H' S r
def t_ltimes (K : PySem.W.Frag) : TS := (tRet (tCall (spLowQ K) [] E0 (tCons (tOp rMulW (tOp (rIxT K) (tVar 0) (tC (.int 0))) (tOp (rIxT K) (tVar 1) (tC (.int 0)))) (tCons (tOp rMulW (tOp (rIxT K) (tVar 0) (tC (.int 1))) (tOp (rIxT K) (tVar 1) (tC (.int 1)))) tNil))))
theorem rd_ltimes {K : PySem.W.Frag} {vs : List V} {H : Hp} {Q : VK} {E : XK} {N : List Str} (hN : N.length = 2) (h : spTimesQ K vs H Q E) : t_ltimes K (ends Q) (L2.start N vs) H := by
  obtain ⟨v, u, x, y, rfl, rv, ru, bx, by_, k⟩ := h
  obtain ⟨a, rfl, ha⟩ := rv
  obtain ⟨b, rfl, hb⟩ := ru
  rw [show L2.start N [.ref a, .ref b] = [some (.ref a), some (.ref b)] by unfold L2.start; rw [hN]; rfl]
  unfold t_ltimes
  walk_at "rd"
  refine k_ixT ha (v := .int x.num) rfl ?_
  walk_at "rd"
  refine k_ixT hb (v := .int y.num) rfl ?_
  refine ⟨_, _, rfl, rfl, ⟨Bq.w bx.1, Bq.w by_.1⟩, ?_⟩
  walk_at "rd"
  refine k_ixT ha (v := .int (x.den : Int)) rfl ?_
  walk_at "rd"
  refine k_ixT hb (v := .int (y.den : Int)) rfl ?_
  refine ⟨_, _, rfl, rfl, ⟨Bq.w bx.d, Bq.w by_.d⟩, ?_⟩
  walk_at "rd"
  refine ⟨_, _, rfl, den_pos x y, Nat.lt_trans (Bq.mul bx.1 by_.1) (pw_lt (by decide)), Nat.lt_trans (Bq.mul bx.d by_.d) (pw_lt (by decide)), fun p q d H' S L _ _ r => ?_⟩
  obtain ⟨e1, e2⟩ := low_rat (den_ne x y) L
  rw [rat_mul] at e1 e2
  rw [e1, e2] at r
  exact k p H' S r
theorem heaps8 {ws : List Str} {ts : List Tn} (vo : VesOk ws ts) : (hdd ts).length ≤ 8 := by
  obtain ⟨hs, _, h8, tk⟩ := vo.turns
  refine Nat.le_trans (nodup_len (hdd_nd ts) fun x hx => ?_) h8
  have go : ∀ (ts : List Tn) (l : List (List Int)), (∀ t ∈ ts, t.fr ∈ hs ∧ t.to ∈ hs) → (∀ x ∈ l, x ∈ hs) → ∀ x ∈ hddF l ts, x ∈ hs := by
    intro ts
    induction ts with
    | nil => intro l _ h x hx; exact h x hx
    | cons t ts ih =>
      intro l ht h x hx
      have ins : ∀ (l : List (List Int)) (y : List Int), (∀ x ∈ l, x ∈ hs) → y ∈ hs → ∀ x ∈ insH l y, x ∈ hs := fun l y h hy x hx => by
        unfold insH at hx
        split at hx
        · exact h x hx
        · rcases List.mem_append.mp hx with z | z
          · exact h x z
          · rw [List.mem_singleton.mp z]; exact hy
      have t0 := ht t List.mem_cons_self
      exact ih (insH (insH l t.fr) t.to) (fun u hu => ht u (List.mem_cons_of_mem _ hu)) (ins _ _ (ins _ _ h t0.1) t0.2) x hx
  exact go ts [] (fun t ht => ⟨(tk.ok t ht).1, (tk.ok t ht).2.1⟩) (fun x h => by cases h) x hx
end Tr

namespace Tr
open PySem L2 Fr G1 Sm Vs G2 Rk Sz Sf Rw Ti Lo
open PySem.W (Dat kqdOk)
theorem tree_n {s : Nat → Nat} {L : List Nat} {r N : Nat} (hN : L.length ≤ N + 1) (hs : ∀ h ∈ L, s h ∈ L) (pig : ∀ l : List Nat, l.Nodup → (∀ x ∈ l, x ∈ L) → l.length ≤ L.length) : (∀ h ∈ L, itr (stp s r) N h = r) ↔ All s L r := by
  constructor
  · intro t h hh
    refine Classical.byContradiction fun no => ?_
    have := t h hh
    rw [stp_same _ fun m _ e => no ⟨m, e⟩] at this
    exact no ⟨_, this⟩
  · intro a h hh
    obtain ⟨n, hn⟩ := a h hh
    obtain ⟨m, _, pm, lo⟩ := least (P := fun n => itr s n h = r) n hn
    have e1 : itr (stp s r) m h = r := by rw [stp_same m lo]; exact pm
    have nd : ((List.range (m + 1)).map fun i => itr s i h).Nodup := by
      unfold List.Nodup
      rw [List.pairwise_map]
      refine List.Pairwise.imp_of_mem ?_ List.pairwise_lt_range
      intro i j _ hj lt e
      have hj : j < m + 1 := List.mem_range.mp hj
      have go : ∀ d, itr s (d + i) h = itr s (d + j) h := fun d => by rw [itr_add s i d h, itr_add s j d h, e]
      have := go (m - j)
      rw [show m - j + j = m by walk_at "om", pm] at this
      exact lo (m - j + i) (by walk_at "om") this
    have := pig _ nd fun x hx => by
      obtain ⟨i, _, rfl⟩ := List.mem_map.mp hx
      exact itr_in hs hh i
    rw [List.length_map, List.length_range] at this
    rw [show N = (N - m) + m by walk_at "om", itr_add (stp s r) m, e1]
    exact stp_stay s r _
def TC (ps : List (Nat × Nat)) (hs : List Nat) (r : Nat) : Prop := ∀ h ∈ hs, itr (stp (lk ps) r) hs.length h = r
def spCome (K : PySem.W.Frag) : Sp := fun vs H Q _ => ∃ (rd b : Addr) (ps : List (Nat × Nat)) (hs : List Nat) (r : Nat), vs = [.ref rd, .ref b, .int (r : Int)] ∧ H rd = some (.dK (kd ps)) ∧ H b = some (.lst ((ni hs).map V.int)) ∧ hs.length ≤ 100 ∧ (∀ h ∈ hs, h ∈ ps.map (·.1)) ∧ (∀ h ∈ hs, lk ps h = r ∨ lk ps h ∈ hs) ∧ (TC ps hs r → Q (.bl true) H) ∧ (¬ TC ps hs r → Q (.bl false) H)
theorem len_come {K : PySem.W.Frag} {vs : List V} {H : Hp} {Q : VK} {E : XK} {x y z : Str} (h : spCome K vs H Q E) : vs.length = [x, y, z].length := by
  obtain ⟨a, b, c, d, e, rfl, _⟩ := h
  rfl
def t_come (K : PySem.W.Frag) : TS := (tSeq (tFor (iList K (tVar 1)) (gName 3)
  (tSeq (tAsg (tVar 3) (gName 4))
  (tSeq (tFor (iRng1 (tCons (tCB (rLenQ K) (tCons (tVar 1) tNil)) tNil)) (gName 5)
  (tIfS (tTest (tOp rNe (tVar 4) (tVar 2)))
  (tAsg (tDGet (tVar 0) (tVar 4)) (gName 4))
  tNext))
  (tIfS (tTest (tOp rNe (tVar 4) (tVar 2)))
  (tRet (tC (.bl false)))
  tNext))))
  (tRet (tC (.bl true))))
theorem rd_come {K : PySem.W.Frag} {vs : List V} {H : Hp} {Q : VK} {E : XK} {N : List Str} (hN : N.length = 6) (h : spCome K vs H Q E) : t_come K (ends Q) (L2.start N vs) H := by
  obtain ⟨rd, b, ps, hs, r, rfl, hd, hb, lh, kin, cl, kyes, kno⟩ := h
  rw [show L2.start N [.ref rd, .ref b, .int (r : Int)] = [some (.ref rd), some (.ref b), some (.int (r : Int)), none, none, none] by unfold L2.start; rw [hN]; rfl]
  unfold t_come
  walk_at "rd"
  refine k_rlF (SqL.of hb) ?_
  refine fat_list (xs := (ni hs).map V.int) (fun i σ H2 => ∃ u3 u4 u5 : Option V, σ = [some (.ref rd), some (.ref b), some (.int (r : Int)), u3, u4, u5] ∧ H2 = H ∧ ∀ m, m < i → ∀ h, hs[m]? = some h → itr (stp (lk ps) r) hs.length h = r) ⟨none, none, none, rfl, rfl, fun m hm => absurd hm (Nat.not_lt_zero _)⟩ (fun i σ H2 _ ⟨_, _, _, _, e, _⟩ => by rw [e]; exact SqL.of hb) ?_ ?_
  · rintro i x σ H2 hx ⟨u3, u4, u5, rfl, rfl, dn⟩
    obtain ⟨h, eh, rfl⟩ := ni_get hx
    have mh := List.mem_of_getElem? eh
    have inn : ∀ m, itr (stp (lk ps) r) m h = r ∨ itr (stp (lk ps) r) m h ∈ hs := by
      intro m
      induction m with
      | zero => exact .inr mh
      | succ m ih =>
        show stp (lk ps) r (itr (stp (lk ps) r) m h) = r ∨ stp (lk ps) r (itr (stp (lk ps) r) m h) ∈ hs
        unfold stp
        by_cases e : itr (stp (lk ps) r) m h = r
        · unfold stp at e
          rw [if_pos e]; exact .inl rfl
        · have e' := e
          unfold stp at e
          rw [if_neg e]
          exact cl _ (ih.resolve_left e')
    walk_at "rd"
    refine k_lenL (SqL.of hb) ?_
    rw [ni_len]
    refine ⟨_, rfl, by walk_at "om", by walk_at "om", ?_⟩
    rw [Int.toNat_natCast]
    refine fat_range (fun m σ H3 => ∃ u5 : Option V, σ = [some (.ref rd), some (.ref b), some (.int (r : Int)), some (.int (h : Int)), some (.int (itr (stp (lk ps) r) m h : Int)), u5] ∧ H3 = H2) ⟨_, rfl, rfl⟩ ?_ ?_
    · rintro m σ H3 hm ⟨u5, rfl, rfl⟩
      walk_at "rd"
      have st : itr (stp (lk ps) r) (m + 1) h = stp (lk ps) r (itr (stp (lk ps) r) m h) := rfl
      refine k_iteN (fun c => ?_) (fun c => ?_)
      · have c' : itr (stp (lk ps) r) m h ≠ r := fun e => c (by rw [e])
        rw [show stp (lk ps) r (itr (stp (lk ps) r) m h) = lk ps (itr (stp (lk ps) r) m h) from if_neg c'] at st
        have mm := kin _ ((inn m).resolve_left c')
        walk_at "rd"
        refine ⟨rd, _, rfl, (by have := (DGet.k hd : DGet H3 rd (kV (.inl (itr (stp (lk ps) r) m h : Int))) _); rw [kd_lk mm] at this; exact this), ?_⟩
        walk_at "rd"
        refine ⟨some (.int (0 + (m : Int))), ?_, rfl⟩
        rw [st]
        rfl
      · have c' : itr (stp (lk ps) r) m h = r := by walk_at "om"
        rw [show stp (lk ps) r (itr (stp (lk ps) r) m h) = r from if_pos c'] at st
        walk_at "rd"
        refine ⟨some (.int (0 + (m : Int))), ?_, rfl⟩
        rw [st, c']
        rfl
    · rintro σ H3 ⟨u5, rfl, rfl⟩
      walk_at "rd"
      refine k_iteN (fun c => ?_) (fun c => ?_)
      · walk_at "rd"
        exact kno fun t => c (by rw [t h mh])
      · walk_at "rd"
        refine ⟨_, _, _, rfl, rfl, fun m hm h' e' => ?_⟩
        rcases Nat.lt_or_ge m i with z | z
        · exact dn m z h' e'
        · rw [show m = i by walk_at "om", eh] at e'
          cases e'
          walk_at "om"
  · rintro σ H2 ⟨u3, u4, u5, rfl, rfl, dn⟩
    rw [ni_len] at dn
    walk_at "rd"
    refine kyes fun h hh => ?_
    obtain ⟨m, hm⟩ := List.getElem?_of_mem hh
    exact dn m (List.getElem?_eq_some_iff.mp hm).1 h hm
section
variable {es : List (Nat × Nat)} {pc : Nat → Rat}
theorem lk_map {hs : List Nat} {g : Nat → Nat} (v : ∀ h ∈ hs, g h ∈ frm es h) {h : Nat} (hh : h ∈ hs) : lk ((hs.map g).map fun k => (fro es k, tow es k)) h = tow es (g h) := by
  have e : ((hs.map g).map fun k => (fro es k, tow es k)) = hs.map fun h => (h, tow es (g h)) := by
    rw [List.map_map]
    refine List.map_congr_left fun x hx => ?_
    have := (List.mem_filter.mp (v x hx)).2
    show (fro es (g x), tow es (g x)) = _
    rw [show fro es (g x) = x by simpa using this]
  rw [e]
  unfold lk
  rw [find_key (g := fun h => tow es (g h)) hh]
  rfl
theorem TC_tree {L : List Nat} (nd : L.Nodup) {r : Nat} (hr : r ∈ L) (cl : ∀ k, k < es.length → (fro es k ∈ L ↔ tow es k ∈ L)) (pig : ∀ l : List Nat, l.Nodup → (∀ x ∈ l, x ∈ L) → l.length ≤ L.length) {hs : List Nat} (pm : hs.Perm (oth L r)) {g : Nat → Nat} (v : ∀ h ∈ hs, g h ∈ frm es h) : TC ((hs.map g).map fun k => (fro es k, tow es k)) hs r ↔ Tree (fun h => tow es (g h)) L r := by
  have v' : ∀ h ∈ oth L r, g h ∈ frm es h := fun h hh => v h (pm.mem_iff.mpr hh)
  have lh : hs.length + 1 = L.length := by rw [pm.length_eq]; exact oth_len nd hr
  -- one map on all of L: the root stays
  have st : ∀ h ∈ L, stp (fun h => tow es (g h)) r h ∈ L := fun h hh => by
    unfold stp
    by_cases e : h = r
    · rw [if_pos e]; exact hr
    · rw [if_neg e]; exact in_L cl v' (mem_oth.mpr ⟨hh, e⟩)
  have same : ∀ h ∈ L, stp (fun h => tow es (g h)) r h = stp (lk ((hs.map g).map fun k => (fro es k, tow es k))) r h := fun h hh => by
    unfold stp
    by_cases e : h = r
    · rw [if_pos e, if_pos e]
    · rw [if_neg e, if_neg e, lk_map v (pm.mem_iff.mpr (mem_oth.mpr ⟨hh, e⟩))]
  have ie : ∀ h ∈ L, ∀ n, itr (stp (lk ((hs.map g).map fun k => (fro es k, tow es k))) r) n h = itr (stp (fun h => tow es (g h)) r) n h := fun h hh n => (itr_eq st same hh n).symm
  have idem : stp (stp (fun h => tow es (g h)) r) r = stp (fun h => tow es (g h)) r := funext fun x => by
    unfold stp
    by_cases e : x = r
    · rw [if_pos e, if_pos e]
    · rw [if_neg e, if_neg e]
  have t1 := tree_n (s := stp (fun h => tow es (g h)) r) (L := L) (r := r) (N := hs.length) (by walk_at "om") st pig
  have t2 := tree_n (s := stp (fun h => tow es (g h)) r) (L := L) (r := r) (N := L.length) (by walk_at "om") st pig
  rw [idem] at t1 t2
  have t3 : (∀ h ∈ L, itr (stp (fun h => tow es (g h)) r) hs.length h = r) ↔ Tree (fun h => tow es (g h)) L r := t1.trans t2.symm
  rw [← t3]
  unfold TC
  constructor
  · intro t h hh
    by_cases e : h = r
    · rw [e]; exact stp_stay _ r _
    · rw [← ie h hh]
      exact t h (pm.mem_iff.mpr (mem_oth.mpr ⟨hh, e⟩))
  · intro t h hh
    have hL := (mem_oth.mp (pm.mem_iff.mp hh)).1
    rw [ie h hL]
    exact t h hL
open Classical in
theorem W_pk2 {L : List Nat} (nd : L.Nodup) {r : Nat} (hr : r ∈ L) (cl : ∀ k, k < es.length → (fro es k ∈ L ↔ tow es k ∈ L)) (pig : ∀ l : List Nat, l.Nodup → (∀ x ∈ l, x ∈ L) → l.length ≤ L.length) {hs : List Nat} (pm : hs.Perm (oth L r)) : ls (pk es hs) (fun q => if TC (q.map fun k => (fro es k, tow es k)) hs r then pq pc q else 0) = W es pc L r := by
  have ndo : (oth L r).Nodup := nd.filter _
  have ndh : hs.Nodup := pm.nodup_iff.mpr ndo
  unfold pk
  rw [pk_sum _ _ ndh, ls_cons, ls_nil, Rat.add_zero]
  unfold W
  rw [← T_perm pm ndh]
  refine T_congr ndh fun g v => ?_
  rw [List.nil_append, pq_prd, prd_perm pm]
  by_cases t : Tree (fun h => tow es (g h)) L r
  · rw [if_pos t, if_pos ((TC_tree nd hr cl pig pm v).mpr t)]
  · rw [if_neg t, if_neg fun z => t ((TC_tree nd hr cl pig pm v).mp z)]
end
end Tr

namespace Tr
open PySem L2 Fr G1 Sm Vs G2 Rk Sz Sf Rw Ti Lo
open PySem.W (Dat kqdOk)
theorem there {K : PySem.W.Frag} {S : Addr → Prop} {H : Hp} : ∀ {xs : List V} {P : List (List Nat)}, RpL K S H xs (P.map dPk) → RpL K (fun a => S a ∧ H a ≠ none) H xs (P.map dPk)
  | _, [], .nil => .nil
  | _, p :: P, .cons h r => by
    obtain ⟨a, rfl, s, ha⟩ := dL_at h
    exact .cons (dL_of ⟨s, fun z => by rw [ha] at z; cases z⟩ ha) (there r)
open Classical in
noncomputable def wc (es : List (Nat × Nat)) (ts : List Tn) (hs : List Nat) (r : Nat) (q : List Nat) : Rat := if TC (q.map fun k => (fro es k, tow es k)) hs r then pq (pcT ts) q else 0
theorem wc_bits {es : List (Nat × Nat)} {ts : List Tn} {hs : List Nat} {r : Nat} (pa : Pacy ts) (t8 : ts.length ≤ 8) {l : List (List Nat)} (h : ∀ q ∈ l, (∀ k ∈ q, k < ts.length) ∧ q.length ≤ 7) (few : l.length ≤ 900) : Bq 3900 (ls l (wc es ts hs r)) := by
  have p1 := Pd_pos pa
  have sum : ∀ {l : List (List Nat)}, (∀ q ∈ l, (∀ k ∈ q, k < ts.length) ∧ q.length ≤ 7) → Tr.Sml (DD ts) (l.length * MM ts) (ls l (wc es ts hs r)) := by
    intro l
    induction l with
    | nil => exact fun _ => Tr.Sml.zero _ _
    | cons q l ih =>
      intro h
      have h1 : Tr.Sml (DD ts) (MM ts) (wc es ts hs r q) := by
        unfold wc
        split
        · exact pq_all pa (h q List.mem_cons_self).1 (h q List.mem_cons_self).2
        · exact Tr.Sml.zero _ _
      rw [ls_cons, List.length_cons, Nat.succ_mul, Nat.add_comm]
      exact h1.add (ih fun x hx => h x (List.mem_cons_of_mem _ hx))
  refine small_bits pa t8 (sum h) (Nat.pow_pos p1) (Nat.pow_le_pow_right p1 (by decide)) ?_
  unfold MM
  exact Nat.mul_le_mul (by walk_at "om") (Nat.pow_le_pow_right (Nat.mul_pos (by decide) p1) (by decide))
def spLTrees (K : PySem.W.Frag) : Sp := fun vs H Q _ => ∃ (v : V) (ws : List Str) (ts : List Tn) (r : Nat), vs = [v, .int (r : Int)] ∧ Rz K H v (dV ws ts) ∧ ts.length ≤ 8 ∧ (hdd ts).length ≤ 8 ∧ Pacy ts ∧ r < (hdd ts).length ∧ ∀ (p : Addr) (H' : Hp), Same H H' → Rz K H' (.ref p) (dQ (Wt ts r)) → Q (.ref p) H'
theorem len_ltrees {K : PySem.W.Frag} {vs : List V} {H : Hp} {Q : VK} {E : XK} {x y : Str} (h : spLTrees K vs H Q E) : vs.length = [x, y].length := by
  obtain ⟨a, b, c, d, rfl, _⟩ := h
  rfl
def t_ltrees (K : PySem.W.Frag) : TS := (tSeq (tAsg (tCall (spEnds K) [] E0 (tCons (tVar 0) tNil)) (gName 2))
  (tSeq (tAsg (tOp rCat (tVar 2) (tCompG (iList K (tVar 2)) 2 (gTup K 2 (gCons (gName 0) (gCons (gName 1) gNil))) (tTup (tCons (tVar 1) (tCons (tVar 0) tNil))))) (gName 3))
  (tSeq (tAsg (tCompF (iList K (tCall (spReach K) [] E0 (tCons (tVar 3) (tCons (tVar 1) tNil)))) 1 (gName 0) (tTest (tOp rNe (tVar 0) (tVar 2))) (tVar 0)) (gName 4))
  (tSeq (tAsg (tLst (tCons (tLst tNil) tNil)) (gName 5))
  (tSeq (tFor (iList K (tVar 4)) (gName 6)
  (tSeq (tAsg (tLst tNil) (gName 7))
  (tSeq (tFor (iList K (tVar 5)) (gName 8)
  (tAsg (tOp rCat (tVar 7) (tCompF (iRng1 (tCons (tCB (rLenQ K) (tCons (tVar 2) tNil)) tNil)) 1 (gName 0) (tTest (tOp rEq (tOp (rIxT K) (tOp (rIxL K) (tVar 3) (tVar 0)) (tC (.int 0))) (tVar 7))) (tOp rCat (tVar 9) (tLst (tCons (tVar 0) tNil))))) (gName 7)))
  (tAsg (tVar 7) (gName 5)))))
  (tSeq (tAsg (tTup (tCons (tC (.int 0)) (tCons (tC (.int 1)) tNil))) (gName 9))
  (tSeq (tFor (iList K (tVar 5)) (gName 8)
  (tSeq (tAsg tDNewK (gName 10))
  (tSeq (tFor (iList K (tVar 8)) (gName 11)
  (sDPut (tVar 10) (tOp (rIxT K) (tOp (rIxL K) (tVar 2) (tVar 11)) (tC (.int 0))) (tOp (rIxT K) (tOp (rIxL K) (tVar 2) (tVar 11)) (tC (.int 1)))))
  (tIfS (tB (tCall (spCome K) [] E0 (tCons (tVar 10) (tCons (tVar 4) (tCons (tVar 1) tNil)))))
  (tSeq (tAsg (tTup (tCons (tC (.int 1)) (tCons (tC (.int 1)) tNil))) (gName 12))
  (tSeq (tFor (iList K (tVar 8)) (gName 11)
  (tAsg (tCall (spTimesQ K) [] E0 (tCons (tVar 12) (tCons (tOp (rIxT K) (tOp (rIxT K) (tOp (rIxT K) (tVar 0) (tC (.int 1))) (tVar 11)) (tC (.int 2))) tNil))) (gName 12)))
  (tAsg (tCall (spPlusQ K) [] E0 (tCons (tVar 9) (tCons (tVar 12) tNil))) (gName 9))))
  tNext))))
  (tRet (tVar 9)))))))))
theorem rd_ltrees {K : PySem.W.Frag} {vs : List V} {H : Hp} {Q : VK} {E : XK} {N : List Str} (hN : N.length = 13) (h : spLTrees K vs H Q E) : t_ltrees K (ends Q) (L2.start N vs) H := by
  obtain ⟨v, ws, ts, r, rfl, rv, t8, h8, pa, hr, k⟩ := h
  have rv0 := rv
  obtain ⟨a, v1, v2, rfl, ha, _, r2⟩ := dV_at rv
  obtain ⟨c, ys, rfl, hc, ry⟩ := r2.tup_at
  have ly : ys.length = ts.length := by rw [ry.length, List.length_map]
  rw [show L2.start N [.ref a, .int (r : Int)] = [some (.ref a), some (.int (r : Int)), none, none, none, none, none, none, none, none, none, none, none] by unfold L2.start; rw [hN]; rfl]
  have ok := ends_ok ts
  have le : (endsOf ts).length = ts.length := by unfold endsOf; rw [List.length_map]
  have F := first_all ok
  unfold t_ltrees
  walk_at "rd"
  refine ⟨.ref a, ws, ts, rfl, rv0, by walk_at "om", fun pe H1 A1 => ?_⟩
  obtain ⟨xs, hpe, rx⟩ := A1.at_
  have lx : xs.length = (endsOf ts).length := by rw [rx.length, List.length_map]
  have S1 := A1.same
  unfold Wt at k
  generalize firstsOf (hdd ts).length (endsOf ts) = f at F k
  generalize (hdd ts).length = n at F ok h8 hr
  generalize hes : endsOf ts = es at ok F rx lx le k
  walk_at "rd"
  refine ⟨pe, rfl, ⟨_, SqL.of hpe⟩, ?_⟩
  refine comp_listG (xs := xs) fun D nD => ⟨fun j H2 => AccZ K H1 D H2 (((es.take j).map fun e => (e.2, e.1)).map dP), by simpa using AccZ.start (Same.refl _) nD, fun j H2 _ A => SqL.of (A.same _ _ hpe), ?_, ?_⟩
  · intro j x H2 hx A us hu
    obtain ⟨u0, u1, rfl⟩ : ∃ u0 u1, us = [u0, u1] := lenE2 hu
    have lj := (List.getElem?_eq_some_iff.mp hx).1
    obtain ⟨d, g1, g2⟩ := rx.get hx
    rw [List.getElem?_map] at g1
    obtain ⟨e, he, rfl⟩ := Option.map_eq_some_iff.mp g1
    obtain ⟨pb, rfl, hpb⟩ := dP_at (g2.same A.same)
    refine k_gTup (SqT.of hpb) rfl ?_
    walk_at "rd"
    refine ⟨⟨[some (.int (e.1 : Int)), some (.int (e.2 : Int))], rfl, rfl⟩, ?_⟩
    walk_at "rd"
    refine ⟨by show 2 ≤ sizeLine; decide, fun T nT => ?_⟩
    have S3 := same_new nT (.tup [.int (e.2 : Int), .int (e.1 : Int)])
    refine pushed lj ?_
    refine (A.on S3).pushK (d := dP (e.2, e.1)) (.tup upd_same (RpL.ints [_, _])) (small1000 (by rw [List.length_map, List.length_map, List.length_take]; walk_at "om")) fun H4 A4 => ?_
    show AccZ K H1 D H4 (((es.take (j + 1)).map fun e => (e.2, e.1)).map dP)
    rw [List.take_add_one, he, List.map_append, List.map_append]
    exact A4
  intro H2 A2
  rw [lx, List.take_length] at A2
  obtain ⟨zs, hz, rz⟩ := A2.at_
  have S2 := A2.same
  have lz : zs.length = es.length := by rw [rz.length, List.length_map, List.length_map]
  walk_at "rd"
  refine ⟨pe, D, _, _, rfl, rfl, S2 _ _ hpe, hz, by rw [sizeLine_eq]; walk_at "om", fun pb nb => ?_⟩
  have S3 := same_new nb (.lst (xs ++ zs))
  have hb3 : upd H2 pb (.lst (xs ++ zs)) pb = some (.lst (xs ++ zs)) := upd_same
  have rb3 : RzL K (upd H2 pb (.lst (xs ++ zs))) (xs ++ zs) ((both es).map dP) := by
    unfold both
    rw [List.map_append]
    exact ((rx.same S2).append rz).same S3
  have S13 := S2.trans S3
  generalize upd H2 pb (.lst (xs ++ zs)) = H3 at S3 hb3 rb3 S13 ⊢
  clear rz hz A2 S2 S3 nb
  walk_at "rd"
  refine ⟨pb, xs ++ zs, both es, r, rfl, hb3, rb3, by unfold both; rw [List.length_append, List.length_map]; walk_at "om", fun pn H4 ns A4 ndn mem => ?_⟩
  have hn : H4 pn = some (.lst ((ni ns).map V.int)) := AccZ.ints (by unfold ni; rw [List.map_map]; exact A4)
  have nL : ∀ x, x ∈ ns ↔ x ∈ places f (Lo.at_ f r) := fun x => by
    rw [mem x, mem_places, F.len]
    constructor
    · intro h
      have hx := both_lt ok hr h
      exact ⟨hx, ((F.tied hr hx).mpr h).symm⟩
    · rintro ⟨hx, e⟩
      exact (F.tied hr hx).mp e.symm
  have nn : ns.length ≤ 8 := Nat.le_trans (nodup_len (hs := List.range n) ndn fun x hx => List.mem_range.mpr (by have := (mem_places.mp ((nL x).mp hx)).1; rw [F.len] at this; exact this)) (by rw [List.length_range]; exact h8)
  have S14 := S13.trans A4.same
  refine ⟨pn, rfl, ⟨_, SqL.of hn⟩, ?_⟩
  refine compF_list (xs := (ni ns).map V.int) fun O nO => ⟨fun j H5 => AccZ K H4 O H5 ((oth (ns.take j) r).map dN), AccZ.start (Same.refl _) nO, fun j H5 _ A => SqL.of (A.same _ _ hn), ?_, ?_⟩
  · intro j x H5 hx A us hu
    obtain ⟨u0, rfl⟩ : ∃ u, us = [u] := List.length_eq_one_iff.mp hu
    have lj := (List.getElem?_eq_some_iff.mp hx).1
    obtain ⟨h, eh, rfl⟩ := ni_get hx
    have er : oth (ns.take (j + 1)) r = oth (ns.take j) r ++ [h].filter fun x => x != r := by
      unfold oth
      rw [List.take_add_one, eh, List.filter_append]
      rfl
    have lr : (oth (ns.take j) r).length ≤ 8 := Nat.le_trans (List.length_filter_le _ _) (by rw [List.length_take]; walk_at "om")
    walk_at "rd"
    refine ⟨⟨[some (.int (h : Int))], rfl, rfl⟩, ?_⟩
    walk_at "rd"
    refine k_iteN (fun z => ?_) (fun z => ?_)
    · have z' : h ≠ r := fun e => z (by rw [e])
      walk_at "rd"
      refine pushed lj ?_
      refine A.pushK (d := dN h) (.int _) (small1000 (by rw [List.length_map]; walk_at "om")) fun H6 A6 => ?_
      show AccZ K H4 O H6 ((oth (ns.take (j + 1)) r).map dN)
      rw [er, List.filter_cons_of_pos (by simpa using z'), List.map_append]
      exact A6
    · have z' : h = r := by walk_at "om"
      refine skipped lj ?_
      show AccZ K H4 O H5 ((oth (ns.take (j + 1)) r).map dN)
      rw [er, List.filter_cons_of_neg (by simpa using z')]
      simpa using A
  intro H5 A5
  rw [ni_len, List.take_length] at A5
  have hO : H5 O = some (.lst ((ni (oth ns r)).map V.int)) := AccZ.ints (by unfold ni; rw [List.map_map]; exact A5)
  have S15 := S14.trans A5.same
  have nd := places_nd f (Lo.at_ f r)
  have mr : r ∈ places f (Lo.at_ f r) := mem_places.mpr ⟨by rw [F.len]; exact hr, rfl⟩
  have cl := places_cl F ok (Lo.at_ f r)
  have ndh : (oth ns r).Nodup := ndn.filter _
  have pm : (oth ns r).Perm (oth (places f (Lo.at_ f r)) r) := by
    have ndp : (oth (places f (Lo.at_ f r)) r).Nodup := nd.filter _
    refine (List.perm_ext_iff_of_nodup ndh ndp).mpr fun x => ?_
    rw [mem_oth, mem_oth, nL x]
  have lo := oth_len nd mr
  have l8 : (places f (Lo.at_ f r)).length ≤ 8 := Nat.le_trans places_len (by rw [F.len]; exact h8)
  have lh : (oth ns r).length ≤ 7 := by rw [pm.length_eq]; walk_at "om"
  have fin := W_pk2 (es := es) (pc := pcT ts) nd mr cl pigeon pm
  have inL : ∀ h, h ∈ oth ns r → h ∈ places f (Lo.at_ f r) := fun h hh => (mem_oth.mp (pm.mem_iff.mp hh)).1
  have inH : ∀ h, h ∈ places f (Lo.at_ f r) → h ≠ r → h ∈ oth ns r := fun h hh ne => pm.mem_iff.mpr (mem_oth.mpr ⟨hh, ne⟩)
  have few := pk_few (es := es) (by walk_at "om") ndh
  rw [← fin] at k
  clear fin hn nn mem ndn nL hb3 rb3 A4 A5 pm
  generalize oth ns r = hs at hO ndh lh inL inH few k
  generalize places f (Lo.at_ f r) = L at cl inL inH nd mr lo l8
  have hpe5 := S15 _ _ hpe
  have rx5 := rx.same S15
  have ha5 := S15 _ _ (S1 _ _ ha)
  have hc5 := S15 _ _ (S1 _ _ hc)
  have ry5 := (ry.same S1).same S15
  have S05 := S1.trans S15
  walk_at "rd"
  refine ⟨by decide, fun l0 n0 => ?_⟩
  have T0 := same_new n0 (.lst [])
  have h0 : upd H5 l0 (.lst []) l0 = some (.lst (([] : List Int).map V.int)) := upd_same
  generalize upd H5 l0 (.lst []) = H6 at T0 h0 ⊢
  walk_at "rd"
  refine ⟨by show 1 ≤ sizeLine; decide, fun l1 n1 => ?_⟩
  have T1 := same_new n1 (.lst [.ref l0])
  have A7 : Acc K H5 l1 (upd H6 l1 (.lst [.ref l0])) ((pk es (hs.take 0)).map dPk) := ⟨T0.trans T1, T0.free n1, _, upd_same, .cons (dL_of ⟨n0, ne_of_none h0 n1⟩ (T1 _ _ h0)) .nil⟩
  generalize upd H6 l1 (.lst [.ref l0]) = H7 at A7 ⊢
  clear T0 T1 h0
  walk_at "rd"
  refine k_rlF (SqL.of (A7.same _ _ hO)) ?_
  refine fat_list (xs := (ni hs).map V.int) (fun i σ H8 => ∃ (t : Addr) (u6 u7 u8 : Option V), σ = [some (.ref a), some (.int (r : Int)), some (.ref pe), some (.ref pb), some (.ref O), some (.ref t), u6, u7, u8, none, none, none, none] ∧ Acc K H5 t H8 ((pk es (hs.take i)).map dPk)) ⟨l1, none, none, none, rfl, A7⟩ (fun i σ H8 _ ⟨_, _, _, _, _, A⟩ => SqL.of (A.same _ _ hO)) ?_ ?_
  · rintro i x σ H8 hx ⟨t, u6, u7, u8, rfl, A⟩
    obtain ⟨h, eh, rfl⟩ := ni_get hx
    have fw := few (i + 1)
    rw [pk_take eh] at fw
    have ln : ∀ q ∈ pk es (hs.take i), q.length ≤ 100 := fun q hq => by
      have := pk_len (acc := [[]]) (n := 0) (fun p hp => by rw [List.mem_singleton.mp hp]; rfl) q hq
      rw [this, List.length_take]
      walk_at "om"
    obtain ⟨tl, ht, rt⟩ := A.at_
    generalize hP : pk es (hs.take i) = P at A rt fw ln
    walk_at "rd"
    refine ⟨by decide, fun l nl => ?_⟩
    have B0 : Acc K H8 l (upd H8 l (.lst [])) ((pkS es (P.take 0) h).map dPk) := Acc.start nl
    generalize upd H8 l (.lst []) = H9 at B0 ⊢
    walk_at "rd"
    refine k_rlF (SqL.of (B0.same _ _ ht)) ?_
    refine fat_list (xs := tl) (fun j σ H10 => ∃ (l : Addr) (u8 : Option V), σ = [some (.ref a), some (.int (r : Int)), some (.ref pe), some (.ref pb), some (.ref O), some (.ref t), some (.int (h : Int)), some (.ref l), u8, none, none, none, none] ∧ Acc K H8 l H10 ((pkS es (P.take j) h).map dPk)) ⟨l, u8, rfl, B0⟩ (fun j σ H10 _ ⟨_, _, _, B⟩ => SqL.of (B.same _ _ ht)) ?_ ?_
    · rintro j y σ H10 hy ⟨l, u8, rfl, B⟩
      obtain ⟨d, g1, g2⟩ := rt.get hy
      rw [List.getElem?_map] at g1
      obtain ⟨q, hq, rfl⟩ := Option.map_eq_some_iff.mp g1
      obtain ⟨cq, rfl, _, hcq⟩ := dL_at g2
      have lq := ln q (List.mem_of_getElem? hq)
      have ej : pkS es (P.take (j + 1)) h = pkS es (P.take j) h ++ (frm es h).map fun k => q ++ [k] := by
        unfold pkS
        rw [List.take_add_one, hq, List.flatMap_append]
        simp
      have e2 : pkS es P h = pkS es (P.take (j + 1)) h ++ pkS es (P.drop (j + 1)) h := by unfold pkS; rw [← List.flatMap_append, List.take_append_drop]
      have fj : (pkS es (P.take (j + 1)) h).length ≤ 900 := by
        rw [e2, List.length_append] at fw
        walk_at "om"
      rw [ej, List.length_append, List.length_map] at fj
      have S510 := A.same.trans B.same
      walk_at "rd"
      refine k_lenL (SqL.of (S510 _ _ hpe5)) ?_
      rw [lx]
      refine ⟨_, rfl, by walk_at "om", by walk_at "om", ?_⟩
      rw [Int.toNat_natCast]
      refine compF_range (n := es.length) fun C nC => ⟨fun m H11 => Acc K H10 C H11 ((((List.range m).filter fun k => fro es k == h).map fun k => q ++ [k]).map dPk), Acc.start nC, ?_, ?_⟩
      · intro m H11 hm A11 us hu
        obtain ⟨u0, rfl⟩ : ∃ u, us = [u] := List.length_eq_one_iff.mp hu
        obtain ⟨e, he⟩ : ∃ e, es[m]? = some e := ⟨_, List.getElem?_eq_getElem hm⟩
        obtain ⟨f1, _⟩ := fro_at he
        obtain ⟨z, ez⟩ : ∃ z, xs[m]? = some z := ⟨_, List.getElem?_eq_getElem (by walk_at "om")⟩
        obtain ⟨d, g1, g2⟩ := rx5.get ez
        rw [List.getElem?_map, he] at g1
        cases g1
        have S511 := S510.trans A11.same
        obtain ⟨pb2, rfl, hpb2⟩ := dP_at (g2.same S511)
        have er : (List.range (m + 1)).filter (fun k => fro es k == h) = (List.range m).filter (fun k => fro es k == h) ++ [m].filter fun k => fro es k == h := by rw [List.range_succ, List.filter_append]
        have lr : ((List.range m).filter fun k => fro es k == h).length ≤ 8 := Nat.le_trans (List.length_filter_le _ _) (by rw [List.length_range]; walk_at "om")
        rw [Int.zero_add]
        walk_at "rd"
        refine ⟨⟨[some (.int (m : Int))], rfl, rfl⟩, ?_⟩
        walk_at "rd"
        refine k_ixL (SqL.of (S511 _ _ hpe5)) (atI_nat ez) ?_
        walk_at "rd"
        refine k_ixT (SqT.of hpb2) (v := .int (e.1 : Int)) rfl ?_
        walk_at "rd"
        refine k_ite (fun cc => ?_) (fun cc => ?_)
        · have c' : fro es m = h := by walk_at "om"
          have hc11 := A11.same _ _ (B.same _ _ hcq)
          walk_at "rd"
          refine ⟨by show 1 ≤ sizeLine; decide, fun l2 n2 => ?_⟩
          have S12 := same_new n2 (.lst [.int (m : Int)])
          have h12 : upd H11 l2 (.lst [.int (m : Int)]) l2 = some (.lst [.int (m : Int)]) := upd_same
          have hc12 := S12 _ _ hc11
          generalize upd H11 l2 (.lst [.int (m : Int)]) = H12 at S12 h12 hc12 ⊢
          refine ⟨cq, l2, _, _, rfl, rfl, hc12, h12, by rw [List.length_map, sizeLine_eq]; unfold ni; rw [List.length_map]; show q.length + 1 ≤ _; walk_at "om", fun l3 n3 => ?_⟩
          have S13' := S12.trans (same_new n3 (.lst ((ni q).map V.int ++ [.int (m : Int)])))
          have h13 : upd H12 l3 (.lst ((ni q).map V.int ++ [.int (m : Int)])) l3 = some (.lst ((ni (q ++ [m])).map V.int)) := by unfold ni; rw [List.map_append, List.map_append]; exact upd_same
          have n36 := S12.free n3
          generalize upd H12 l3 (.lst ((ni q).map V.int ++ [.int (m : Int)])) = H13 at S13' h13 ⊢
          refine pushed hm ?_
          refine A11.pushK S13' (d := dPk (q ++ [m])) (dL_of n36 h13) (small1000 (by rw [List.length_map, List.length_map]; walk_at "om")) fun H14 A14 => ?_
          show Acc K H10 C H14 ((((List.range (m + 1)).filter fun k => fro es k == h).map fun k => q ++ [k]).map dPk)
          rw [er, List.filter_cons_of_pos (by simpa using c'), List.map_append, List.map_append]
          exact A14
        · have c' : ¬ fro es m = h := by walk_at "om"
          refine skipped hm ?_
          show Acc K H10 C H11 ((((List.range (m + 1)).filter fun k => fro es k == h).map fun k => q ++ [k]).map dPk)
          rw [er, List.filter_cons_of_neg (by simpa using c')]
          simpa using A11
      · intro H11 A11
        obtain ⟨zs1, hz1, rz1⟩ := A11.at_
        obtain ⟨zs0, hz0, rz0⟩ := B.at_
        have rz0' := there (rz0.same A11.same)
        have rz1' := there (P := (frm es h).map fun k => q ++ [k]) rz1
        walk_at "rd"
        refine ⟨l, C, _, _, rfl, rfl, A11.same _ _ hz0, hz1, by rw [rz0.length, rz1.length, sizeLine_eq, List.length_map, List.length_map, List.length_map]; show _ + (frm es h).length ≤ _; walk_at "om", fun l2 n2 => ?_⟩
        have S12 := same_new n2 (.lst (zs0 ++ zs1))
        refine k_gName ?_
        refine ⟨l2, _, rfl, B.same.trans (A11.same.trans S12), (B.same.trans A11.same).free n2, zs0 ++ zs1, upd_same, ?_⟩
        rw [ej, List.map_append]
        refine ((rz0'.mono fun x z => ?_).append (rz1'.mono fun x z => ?_)).same S12
        · exact ⟨z.1.1, fun e => z.2 (by rw [e]; exact n2)⟩
        · exact ⟨B.same.free z.1.1, fun e => z.2 (by rw [e]; exact n2)⟩
    · rintro σ H10 ⟨l, u8, rfl, B⟩
      have lt : tl.length = P.length := by rw [rt.length, List.length_map]
      rw [lt, List.take_length] at B
      walk_at "rd"
      refine ⟨l, _, _, _, rfl, ?_⟩
      rw [pk_take eh, hP]
      obtain ⟨zs, hz, rz⟩ := B.at_
      exact ⟨A.same.trans B.same, A.same.free B.new, zs, hz, rz.mono fun _ z => ⟨A.same.free z.1, z.2⟩⟩
  rintro σ H8 ⟨t, u6, u7, u8, rfl, A⟩
  rw [ni_len, List.take_length] at A
  have few2 := few hs.length
  rw [List.take_length] at few2
  have pkm : ∀ q ∈ pk es hs, q.map (fro es) = hs ∧ ∀ k ∈ q, k < es.length := fun q hq => by
    obtain ⟨a, ha, ks, e1, e2, e3⟩ := pk_mem hq
    rw [List.mem_singleton.mp ha, List.nil_append] at e1
    rw [e1]; exact ⟨e2, e3⟩
  have pk7 : ∀ q ∈ pk es hs, (∀ k ∈ q, k < ts.length) ∧ q.length ≤ 7 := fun q hq => by
    obtain ⟨e2, e3⟩ := pkm q hq
    have := congrArg List.length e2
    rw [List.length_map] at this
    exact ⟨fun k hk => by have := e3 k hk; walk_at "om", by walk_at "om"⟩
  obtain ⟨tl, ht, rt⟩ := A.at_
  have ltl : tl.length = (pk es hs).length := by rw [rt.length, List.length_map]
  generalize pk es hs = P at rt ltl few2 pkm pk7 k
  have S58 := A.same
  have hO8 := S58 _ _ hO
  have hpe8 := S58 _ _ hpe5
  have rx8 := rx5.same S58
  have ha8 := S58 _ _ ha5
  have hc8 := S58 _ _ hc5
  have ry8 := ry5.same S58
  have S08 := S05.trans S58
  clear A hO hpe5 rx5 ha5 hc5 ry5
  walk_at "rd"
  refine ⟨by show 2 ≤ sizeLine; decide, fun z1 nz1 => ?_⟩
  have T1 := same_new nz1 (.tup [.int 0, .int 1])
  have e1 : Rz K (upd H8 z1 (.tup [.int 0, .int 1])) (.ref z1) (dQ (ls (P.take 0) (wc es ts hs r))) := .tup upd_same (RpL.ints [0, 1])
  generalize upd H8 z1 (.tup [.int 0, .int 1]) = H9 at T1 e1 ⊢
  walk_at "rd"
  refine k_rlF (SqL.of (T1 _ _ ht)) ?_
  refine fat_list (xs := tl) (fun j σ H10 => ∃ (w : V) (u8 u10 u11 u12 : Option V), σ = [some (.ref a), some (.int (r : Int)), some (.ref pe), some (.ref pb), some (.ref O), some (.ref t), u6, u7, u8, some w, u10, u11, u12] ∧ Same H8 H10 ∧ Rz K H10 w (dQ (ls (P.take j) (wc es ts hs r)))) ⟨_, u8, none, none, none, rfl, T1, e1⟩ (fun j σ H10 _ ⟨_, _, _, _, _, _, S, _⟩ => SqL.of (S _ _ ht)) ?_ ?_
  · rintro j x σ H10 hx ⟨w, u8, u10, u11, u12, rfl, S10, qw⟩
    have lj := (List.getElem?_eq_some_iff.mp hx).1
    obtain ⟨d, g1, g2⟩ := rt.get hx
    rw [List.getElem?_map] at g1
    obtain ⟨q, hq, rfl⟩ := Option.map_eq_some_iff.mp g1
    obtain ⟨cq, rfl, _, hcq⟩ := dL_at g2
    have mq := List.mem_of_getElem? hq
    obtain ⟨m1, m2⟩ := pkm q mq
    obtain ⟨m3, m4⟩ := pk7 q mq
    walk_at "rd"
    intro rd nr
    have S11 := S10.trans (same_new nr (.dK []))
    have d11 : upd H10 rd (.dK []) rd = some (.dK (kd ((q.take 0).map fun k => (fro es k, tow es k)))) := upd_same
    have qw11 := qw.same (same_new nr (.dK []))
    have nr8 : H8 rd = none := S10.free nr
    generalize upd H10 rd (.dK []) = H11 at S11 d11 qw11 ⊢
    walk_at "rd"
    refine k_rlF (SqL.of (S11 _ _ hcq)) ?_
    refine fat_list (xs := (ni q).map V.int) (fun i σ H12 => ∃ u11 : Option V, σ = [some (.ref a), some (.int (r : Int)), some (.ref pe), some (.ref pb), some (.ref O), some (.ref t), u6, u7, some (.ref cq), some w, some (.ref rd), u11, u12] ∧ Same H8 H12 ∧ Rz K H12 w (dQ (ls (P.take j) (wc es ts hs r))) ∧ H12 rd = some (.dK (kd ((q.take i).map fun k => (fro es k, tow es k))))) ⟨_, rfl, S11, qw11, d11⟩ (fun i σ H12 _ ⟨_, _, S, _, _⟩ => SqL.of (S _ _ hcq)) ?_ ?_
    · rintro i x σ H12 hx12 ⟨u11, rfl, S12, qw12, d12⟩
      obtain ⟨m, em, rfl⟩ := ni_get hx12
      have lm := m2 m (List.mem_of_getElem? em)
      obtain ⟨e, he⟩ : ∃ e, es[m]? = some e := ⟨_, List.getElem?_eq_getElem lm⟩
      obtain ⟨f1, f2⟩ := fro_at he
      obtain ⟨z, ez⟩ : ∃ z, xs[m]? = some z := ⟨_, List.getElem?_eq_getElem (by walk_at "om")⟩
      obtain ⟨d, g1, g2⟩ := rx8.get ez
      rw [List.getElem?_map, he] at g1
      cases g1
      obtain ⟨pb2, rfl, hpb2⟩ := dP_at (g2.same S12)
      have ee : (q.take (i + 1)).map (fun k => (fro es k, tow es k)) = (q.take i).map (fun k => (fro es k, tow es k)) ++ [(e.1, e.2)] := by rw [List.take_add_one, em, List.map_append, ← f1, ← f2]; rfl
      have nk : e.1 ∉ ((q.take i).map fun k => (fro es k, tow es k)).map (·.1) := by
        have n2 : ((q.take (i + 1)).map (fro es)).Nodup := by
          have : (q.map (fro es)).Nodup := by rw [m1]; exact ndh
          exact this.sublist ((List.take_sublist (i + 1) q).map _)
        rw [List.take_add_one, em, List.map_append, List.nodup_append] at n2
        rw [List.map_map]
        intro mm
        exact n2.2.2 e.1 mm (fro es m) List.mem_cons_self f1.symm
      walk_at "rd"
      refine k_ixL (SqL.of (S12 _ _ hpe8)) (atI_nat ez) ?_
      walk_at "rd"
      refine k_ixT (SqT.of hpb2) (v := .int (e.2 : Int)) rfl ?_
      walk_at "rd"
      refine k_ixL (SqL.of (S12 _ _ hpe8)) (atI_nat ez) ?_
      walk_at "rd"
      refine k_ixT (SqT.of hpb2) (v := .int (e.1 : Int)) rfl ?_
      refine ⟨rd, _, rfl, (DPut.k d12 (small1000 (by unfold kd; rw [List.length_map, List.length_map, List.length_take]; walk_at "om")) : DPut H12 rd (kV (.inl (e.1 : Int))) _ _), ?_⟩
      refine ⟨_, rfl, fun x o qq => ?_, ?_, ?_⟩
      · rw [upd_ne (ne_of_none qq nr8)]; exact S12 x o qq
      · exact qw12.agr ⟨fun y ys hy => by rw [upd_ne fun z => by rw [z, d12] at hy; cases hy]; exact hy, fun _ _ z => z.elim⟩
      · rw [upd_same, ee, kd_put nk]
    rintro σ H12 ⟨u11, rfl, S12, qw12, d12⟩
    rw [ni_len, List.take_length] at d12
    have keys : (q.map fun k => (fro es k, tow es k)).map (·.1) = hs := by rw [List.map_map, ← m1]; rfl
    walk_at "rd"
    refine ⟨rd, O, _, hs, r, rfl, d12, S12 _ _ hO8, by walk_at "om", fun h hh => by rw [keys]; exact hh, fun h hh => ?_, fun tc => ?_, fun tc => ?_⟩
    · have mk : h ∈ (q.map fun k => (fro es k, tow es k)).map (·.1) := by rw [keys]; exact hh
      have : ∃ k ∈ q, lk (q.map fun k => (fro es k, tow es k)) h = tow es k := by
        unfold lk
        cases e : (q.map fun k => (fro es k, tow es k)).find? fun q => q.1 == h with
        | none =>
          obtain ⟨q0, hq0, e2⟩ := List.mem_map.mp mk
          have := List.find?_eq_none.mp e q0 hq0
          simp [e2] at this
        | some q0 =>
          obtain ⟨k, hk, rfl⟩ := List.mem_map.mp (List.mem_of_find?_eq_some e)
          exact ⟨k, hk, rfl⟩
      obtain ⟨kk, hkk, e⟩ := this
      rw [e]
      have tL : tow es kk ∈ L := (cl kk (m2 kk hkk)).mp (inL _ (by rw [← m1]; exact List.mem_map.mpr ⟨kk, hkk, rfl⟩))
      by_cases z : tow es kk = r
      · exact .inl z
      · exact .inr (inH _ tL z)
    · walk_at "rd"
      refine ⟨by show 2 ≤ sizeLine; decide, fun z2 nz2 => ?_⟩
      have T3 := same_new nz2 (.tup [.int 1, .int 1])
      have e3 : Rz K (upd H12 z2 (.tup [.int 1, .int 1])) (.ref z2) (dQ (pq (pcT ts) (q.take 0))) := .tup upd_same (RpL.ints [1, 1])
      have S13 := S12.trans T3
      have qw13 := qw12.same T3
      generalize upd H12 z2 (.tup [.int 1, .int 1]) = H13 at S13 e3 qw13 ⊢
      walk_at "rd"
      refine k_rlF (SqL.of (S13 _ _ hcq)) ?_
      refine fat_list (xs := (ni q).map V.int) (fun i σ H14 => ∃ (w2 : V) (u11 : Option V), σ = [some (.ref a), some (.int (r : Int)), some (.ref pe), some (.ref pb), some (.ref O), some (.ref t), u6, u7, some (.ref cq), some w, some (.ref rd), u11, some w2] ∧ Same H8 H14 ∧ Rz K H14 w (dQ (ls (P.take j) (wc es ts hs r))) ∧ Rz K H14 w2 (dQ (pq (pcT ts) (q.take i)))) ⟨_, _, rfl, S13, qw13, e3⟩ (fun i σ H14 _ ⟨_, _, _, S, _, _⟩ => SqL.of (S _ _ hcq)) ?_ ?_
      · rintro i x σ H14 hx14 ⟨w2, u11, rfl, S14, qw14, q14⟩
        obtain ⟨m, em, rfl⟩ := ni_get hx14
        have lm := m3 m (List.mem_of_getElem? em)
        obtain ⟨tn, htn⟩ : ∃ tn, ts[m]? = some tn := ⟨_, List.getElem?_eq_getElem lm⟩
        obtain ⟨y, ey⟩ : ∃ y, ys[m]? = some y := ⟨_, List.getElem?_eq_getElem (by walk_at "om")⟩
        obtain ⟨d, g3, g4⟩ := ry8.get ey
        rw [List.getElem?_map, htn] at g3
        cases g3
        obtain ⟨pt_, y1, y2, y3, rfl, hpt, _, _, q3⟩ := dT_at (g4.same S14)
        rw [pc_dat pa htn] at q3
        walk_at "rd"
        refine k_ixT (SqT.of (S14 _ _ ha8)) (v := .ref c) rfl ?_
        walk_at "rd"
        refine k_ixT (SqT.of (S14 _ _ hc8)) (v := .ref pt_) (atI_nat ey) ?_
        walk_at "rd"
        refine k_ixT (SqT.of hpt) (v := y3) rfl ?_
        walk_at "rd"
        refine ⟨w2, y3, _, _, rfl, QV.of q14, QV.of q3, pq_bits pa t8 m3 m4 i, pc_bits pa t8 lm, fun p H15 S15 r15 => ?_⟩
        walk_at "rd"
        refine ⟨_, _, rfl, S14.trans S15, qw14.same S15, ?_⟩
        rw [pq_take em]
        exact r15
      · rintro σ H14 ⟨w2, u11, rfl, S14, qw14, q14⟩
        rw [ni_len, List.take_length] at q14
        have fs : ∀ q ∈ P.take j, (∀ k ∈ q, k < ts.length) ∧ q.length ≤ 7 := fun q hq => pk7 q (List.mem_of_mem_take hq)
        walk_at "rd"
        refine ⟨w, w2, _, _, rfl, QV.of qw14, QV.of q14, wc_bits pa t8 fs (by rw [List.length_take]; walk_at "om"), by have := pq_bits pa t8 m3 m4 q.length; rw [List.take_length] at this; exact this, fun p H15 S15 r15 => ?_⟩
        walk_at "rd"
        refine ⟨_, _, _, _, _, rfl, S14.trans S15, ?_⟩
        rw [ls_take hq, show wc es ts hs r q = pq (pcT ts) q from if_pos tc]
        exact r15
    · walk_at "rd"
      refine ⟨_, _, _, _, _, rfl, S12, ?_⟩
      rw [ls_take hq, show wc es ts hs r q = 0 from if_neg tc, Rat.add_zero]
      exact qw12
  · rintro σ H10 ⟨w, u8, u10, u11, u12, rfl, S10, qw⟩
    rw [ltl, List.take_length] at qw
    obtain ⟨p0, rfl, hp0⟩ := dQ_at qw
    walk_at "rd"
    exact k p0 H10 (S08.trans S10) qw
end Tr

namespace L2
open PySem PySem.Spec PyProof.Rows
def rIsiQ (K : PySem.W.Frag) : List V → Hp → VK → Prop := fun xs H Q => ∃ (a : Addr) (ys : List V) (n : String) (b : Bool), xs = [.ref a, .ty n] ∧ SqT K H a ys ∧ PySem.W.kitOne K (.type "tuple") (.type n) = some b ∧ Q (.bl b) H
theorem call_isiQ {X : Cx} : CallR X (.builtin "isinstance") (rIsiQ X.K) := by
  intro pins s σ H xs us Q I r h
  obtain ⟨a, ys, n, b, rfl, sq, e, q⟩ := h
  obtain ⟨u, u', rfl, rx, ry⟩ := vals2 r
  obtain rfl : u' = Value.type n := ry
  cases (show u = Value.ref a from rx)
  obtain ⟨_, _, p, _⟩ := I.tuple sq
  obtain ⟨o, h1, h2, _⟩ := p
  exact PySem.W.kia_one PySem.W.kitx_tuple I.kIn ⟨o, h1, h2⟩ e (fun z => nomatch z) fun tk => ⟨.bl b, H, I.tok tk, rfl, q⟩
end L2
namespace Tr
open PySem L2 Fr G1 Sm Vs G2 Rk Sz Sf Rw Ti Lo
open PySem.W (Dat kqdOk)
def spSm1 (K : PySem.W.Frag) : Sp := fun vs H Q _ => ∃ (v1 v2 : V) (x : Rat), vs = [v1, v2] ∧ QV K H v1 x ∧ Rz K H v2 (dQ x) ∧ Q (.bl true) H
def spSm2 (K : PySem.W.Frag) : Sp := fun vs H Q _ => ∃ (l1 l2 : Addr) (xs ys : List V) (n : Nat) (w : Nat → Rat), vs = [.ref l1, .ref l2] ∧ H l1 = some (.lst xs) ∧ H l2 = some (.lst ys) ∧ xs.length = n ∧ ys.length = n ∧ n ≤ 100 ∧ (∀ i x, xs[i]? = some x → QV K H x (w i)) ∧ (∀ i y, ys[i]? = some y → Rz K H y (dQ (w i))) ∧ Q (.bl true) H
theorem len_sm1 {K : PySem.W.Frag} {vs : List V} {H : Hp} {Q : VK} {E : XK} {x y : Str} (h : spSm1 K vs H Q E) : vs.length = [x, y].length := by
  obtain ⟨a, b, c, rfl, _⟩ := h
  rfl
theorem len_sm2 {K : PySem.W.Frag} {vs : List V} {H : Hp} {Q : VK} {E : XK} {x y : Str} (h : spSm2 K vs H Q E) : vs.length = [x, y].length := by
  obtain ⟨a, b, c, d, e, f, rfl, _⟩ := h
  rfl
def t_sm1 (K : PySem.W.Frag) : TS := (tSeq (tIfS (tOr (tB (tCB (rIsi K) (tCons (tVar 1) (tCons (tC (.ty "tuple")) tNil)))) (tB (tCB (rIsi K) (tCons (tVar 1) (tCons (tC (.ty "list")) tNil)))))
  (tSeq (tIfS (tOr (tTest (tOp rNe (tCB (rIsiQ K) (tCons (tVar 0) (tCons (tC (.ty "tuple")) tNil))) (tCB (rIsi K) (tCons (tVar 1) (tCons (tC (.ty "tuple")) tNil))))) (tTest (tOp rNe (tCB (rIsiQ K) (tCons (tVar 0) (tCons (tC (.ty "list")) tNil))) (tCB (rIsi K) (tCons (tVar 1) (tCons (tC (.ty "list")) tNil))))))
  (tRet (tC (.bl false)))
  tNext)
  (tSeq (tIfS (tTest (tOp rNe (tCB (rLenQ K) (tCons (tVar 0) tNil)) (tCB (rLenQ K) (tCons (tVar 1) tNil))))
  (tRet (tC (.bl false)))
  tNext)
  (tSeq (tFor (iRng1 (tCons (tCB (rLenQ K) (tCons (tVar 1) tNil)) tNil)) (gName 2)
  (tIfS (tNot (tB (tCall (spSame K 0) [] E0 (tCons (tOp (rIx K) (tVar 0) (tVar 2)) (tCons (tOp (rIx K) (tVar 1) (tVar 2)) tNil)))))
  (tRet (tC (.bl false)))
  tNext))
  (tRet (tC (.bl true))))))
  tNext)
  (tSeq (tIfS (tB (tCB (rIsi K) (tCons (tVar 1) (tCons (tC (.ty "bool")) tNil))))
  (tRet (tAndV (tCB (rIsi K) (tCons (tVar 0) (tCons (tC (.ty "bool")) tNil))) (tOp rEq (tVar 0) (tVar 1))))
  tNext)
  (tSeq (tIfS (tB (tCB (rIsi K) (tCons (tVar 1) (tCons (tC (.ty "int")) tNil))))
  (tRet (tAndV (tCB (rIsi K) (tCons (tVar 0) (tCons (tC (.ty "int")) tNil))) (tAndV (tNotV (tCB (rIsi K) (tCons (tVar 0) (tCons (tC (.ty "bool")) tNil)))) (tOp rEq (tVar 0) (tVar 1)))))
  tNext)
  (tSeq (tIfS (tB (tCB (rIsi K) (tCons (tVar 1) (tCons (tC (.ty "str")) tNil))))
  (tRet (tAndV (tCB (rIsi K) (tCons (tVar 0) (tCons (tC (.ty "str")) tNil))) (tOp rEq (tVar 0) (tVar 1))))
  tNext)
  (tRet (tAndV (tOp rIsN (tVar 1) (tC .non)) (tOp rIsN (tVar 0) (tC .non))))))))
theorem rd_sm1 {K : PySem.W.Frag} {vs : List V} {H : Hp} {Q : VK} {E : XK} {N : List Str} (hN : N.length = 3) (h : spSm1 K vs H Q E) : t_sm1 K (ends Q) (L2.start N vs) H := by
  obtain ⟨v1, v2, x, rfl, qv, rz, k⟩ := h
  obtain ⟨a, rfl, ha⟩ := qv
  obtain ⟨b, rfl, hb⟩ := dQ_at rz
  rw [show L2.start N [.ref a, .ref b] = [some (.ref a), some (.ref b), none] by unfold L2.start; rw [hN]; rfl]
  unfold t_sm1
  walk_at "rd"
  refine k_isi (.tup hb) kit_tuple_tuple ?_
  walk_at "rd"
  refine ⟨a, _, _, _, rfl, ha, kit_tuple_tuple, ?_⟩
  walk_at "rd"
  refine k_isi (.tup hb) kit_tuple_tuple ?_
  walk_at "rd"
  refine k_iteN (fun z => absurd rfl z) (fun _ => ?_)
  walk_at "rd"
  refine ⟨a, _, _, _, rfl, ha, kit_tuple_list, ?_⟩
  walk_at "rd"
  refine k_isi (.tup hb) kit_tuple_list ?_
  walk_at "rd"
  refine k_iteN (fun z => absurd rfl z) (fun _ => ?_)
  walk_at "rd"
  refine k_lenT ha ?_
  walk_at "rd"
  refine k_lenT (SqT.of hb) ?_
  walk_at "rd"
  refine k_iteN (fun z => absurd rfl z) (fun _ => ?_)
  walk_at "rd"
  refine k_lenT (SqT.of hb) ?_
  refine ⟨2, rfl, by decide, by decide, ?_⟩
  refine fat_range (n := 2) (fun m σ H2 => ∃ u2 : Option V, σ = [some (.ref a), some (.ref b), u2] ∧ H2 = H) ⟨none, rfl, rfl⟩ ?_ ?_
  · rintro m σ H2 hm ⟨u2, rfl, rfl⟩
    rw [Int.zero_add]
    obtain ⟨i, ei⟩ : ∃ i : Int, ([.int x.num, .int (x.den : Int)] : List V)[m]? = some (.int i) := by
      match m, hm with
      | 0, _ => exact ⟨_, rfl⟩
      | 1, _ => exact ⟨_, rfl⟩
    walk_at "rd"
    refine k_ixQT ha (v := .int i) (atI_nat ei) ?_
    walk_at "rd"
    refine k_ixQT (SqT.of hb) (v := .int i) (atI_nat ei) ?_
    walk_at "rd"
    refine ⟨.int i, .int i, .int i, .int i, rfl, .int _, .int _, rfl, fun _ => ?_, fun z => absurd rfl z⟩
    walk_at "rd"
    exact ⟨_, rfl, rfl⟩
  · rintro σ H2 ⟨u2, rfl, rfl⟩
    walk_at "rd"
    exact k
def t_sm2 (K : PySem.W.Frag) : TS := (tSeq (tIfS (tOr (tB (tCB (rIsi K) (tCons (tVar 1) (tCons (tC (.ty "tuple")) tNil)))) (tB (tCB (rIsi K) (tCons (tVar 1) (tCons (tC (.ty "list")) tNil)))))
  (tSeq (tIfS (tOr (tTest (tOp rNe (tCB (rIsi K) (tCons (tVar 0) (tCons (tC (.ty "tuple")) tNil))) (tCB (rIsi K) (tCons (tVar 1) (tCons (tC (.ty "tuple")) tNil))))) (tTest (tOp rNe (tCB (rIsi K) (tCons (tVar 0) (tCons (tC (.ty "list")) tNil))) (tCB (rIsi K) (tCons (tVar 1) (tCons (tC (.ty "list")) tNil))))))
  (tRet (tC (.bl false)))
  tNext)
  (tSeq (tIfS (tTest (tOp rNe (tCB (rLenQ K) (tCons (tVar 0) tNil)) (tCB (rLenQ K) (tCons (tVar 1) tNil))))
  (tRet (tC (.bl false)))
  tNext)
  (tSeq (tFor (iRng1 (tCons (tCB (rLenQ K) (tCons (tVar 1) tNil)) tNil)) (gName 2)
  (tIfS (tNot (tB (tCall (spSm1 K) [] E0 (tCons (tOp (rIx K) (tVar 0) (tVar 2)) (tCons (tOp (rIx K) (tVar 1) (tVar 2)) tNil)))))
  (tRet (tC (.bl false)))
  tNext))
  (tRet (tC (.bl true))))))
  tNext)
  (tSeq (tIfS (tB (tCB (rIsi K) (tCons (tVar 1) (tCons (tC (.ty "bool")) tNil))))
  (tRet (tAndV (tCB (rIsi K) (tCons (tVar 0) (tCons (tC (.ty "bool")) tNil))) (tOp rEq (tVar 0) (tVar 1))))
  tNext)
  (tSeq (tIfS (tB (tCB (rIsi K) (tCons (tVar 1) (tCons (tC (.ty "int")) tNil))))
  (tRet (tAndV (tCB (rIsi K) (tCons (tVar 0) (tCons (tC (.ty "int")) tNil))) (tAndV (tNotV (tCB (rIsi K) (tCons (tVar 0) (tCons (tC (.ty "bool")) tNil)))) (tOp rEq (tVar 0) (tVar 1)))))
  tNext)
  (tSeq (tIfS (tB (tCB (rIsi K) (tCons (tVar 1) (tCons (tC (.ty "str")) tNil))))
  (tRet (tAndV (tCB (rIsi K) (tCons (tVar 0) (tCons (tC (.ty "str")) tNil))) (tOp rEq (tVar 0) (tVar 1))))
  tNext)
  (tRet (tAndV (tOp rIsN (tVar 1) (tC .non)) (tOp rIsN (tVar 0) (tC .non))))))))
theorem rd_sm2 {K : PySem.W.Frag} {vs : List V} {H : Hp} {Q : VK} {E : XK} {N : List Str} (hN : N.length = 3) (h : spSm2 K vs H Q E) : t_sm2 K (ends Q) (L2.start N vs) H := by
  obtain ⟨a, b, xs, ys, n, w, rfl, ha, hb, lx, ly, n1, qx, qy, k⟩ := h
  rw [show L2.start N [.ref a, .ref b] = [some (.ref a), some (.ref b), none] by unfold L2.start; rw [hN]; rfl]
  unfold t_sm2
  walk_at "rd"
  refine k_isi (.lst hb) kit_list_tuple ?_
  walk_at "rd"
  refine k_isi (.lst hb) kit_list_list ?_
  walk_at "rd"
  refine k_isi (.lst ha) kit_list_tuple ?_
  walk_at "rd"
  refine k_isi (.lst hb) kit_list_tuple ?_
  walk_at "rd"
  refine k_iteN (fun z => absurd rfl z) (fun _ => ?_)
  walk_at "rd"
  refine k_isi (.lst ha) kit_list_list ?_
  walk_at "rd"
  refine k_isi (.lst hb) kit_list_list ?_
  walk_at "rd"
  refine k_iteN (fun z => absurd rfl z) (fun _ => ?_)
  walk_at "rd"
  refine k_lenL (SqL.of ha) ?_
  walk_at "rd"
  refine k_lenL (SqL.of hb) ?_
  rw [lx, ly]
  walk_at "rd"
  refine k_iteN (fun z => absurd rfl z) (fun _ => ?_)
  walk_at "rd"
  refine k_lenL (SqL.of hb) ?_
  rw [ly]
  refine ⟨_, rfl, by walk_at "om", by walk_at "om", ?_⟩
  rw [Int.toNat_natCast]
  refine fat_range (n := n) (fun m σ H2 => ∃ u2 : Option V, σ = [some (.ref a), some (.ref b), u2] ∧ H2 = H) ⟨none, rfl, rfl⟩ ?_ ?_
  · rintro m σ H2 hm ⟨u2, rfl, rfl⟩
    rw [Int.zero_add]
    obtain ⟨x, ex⟩ : ∃ x, xs[m]? = some x := ⟨_, List.getElem?_eq_getElem (by walk_at "om")⟩
    obtain ⟨y, ey⟩ : ∃ y, ys[m]? = some y := ⟨_, List.getElem?_eq_getElem (by walk_at "om")⟩
    walk_at "rd"
    refine k_ixQL (SqL.of ha) (v := x) (atI_nat ex) ?_
    walk_at "rd"
    refine k_ixQL (SqL.of hb) (v := y) (atI_nat ey) ?_
    walk_at "rd"
    refine ⟨x, y, _, rfl, qx m x ex, qy m y ey, ?_⟩
    walk_at "rd"
    exact ⟨_, rfl, rfl⟩
  · rintro σ H2 ⟨u2, rfl, rfl⟩
    walk_at "rd"
    exact k
end Tr

set_option Elab.async false
set_option linter.all false
set_option maxRecDepth 100000
set_option maxHeartbeats 4000000
namespace K85
open PySem L2 Fr G1 Sm Vs G2 Rk Sz Sf Rw Ti Lo Tr
open PySem.W (Dat kqdOk)
def top (i : Nat) : Stmt := PySem.Challenge.pw_vesselhall_k85_tree_weights.main.body.getD i (.Pass ⟨0, 0, 0, 0⟩)
def spLaw (K : PySem.W.Frag) : Sp := fun vs H Q _ => ∃ (a : Addr) (ns : List Int), vs = [.ref a] ∧ SqL K H a (ns.map V.int) ∧ ns.length ≤ 63 ∧ ∀ H', Q (.bl true) H'
structure Cn (K : PySem.W.Frag) (mg : Str → Option Value) (nq oq : Addr) : Prop where
  NOUGHT : mg "NOUGHT" = some (.ref nq)
  ONE : mg "ONE" = some (.ref oq)
  zero : ∀ H : Hp, SqT K H nq [.int 0, .int 1]
  one : ∀ H : Hp, SqT K H oq [.int 1, .int 1]
def t_law (K : PySem.W.Frag) : TS := (tSeq (tAsg (tCall (spVes2 K) [] E0 (tCons (tVar 0) (tCons (tC (.int 0)) tNil))) (gName 1))
  (tSeq (tAsg (tComp (iRng1 (tCons (tCB (rLenQ K) (tCons (tCall (spHeaps K) [] E0 (tCons (tVar 1) tNil)) tNil)) tNil)) (tCall (spLTrees K) [] E0 (tCons (tVar 2) (tCons (tVar 0) tNil)))) (gName 2))
  (tSeq (tAsg (tCall (spTrees K) [] E0 (tCons (tVar 1) tNil)) (gName 3))
  (tSeq (tIfS (tNot (tB (tCall (spSm2 K) [] E0 (tCons (tVar 3) (tCons (tVar 2) tNil)))))
  (tRet (tC (.bl false)))
  tNext)
  (tSeq (tDrop (tBM0 K "list" rClear (tVar 3)))
  (tRet (tCall (spSm2 K) [] E0 (tCons (tCall (spTrees K) [] E0 (tCons (tVar 1) tNil)) (tCons (tVar 2) tNil)))))))))
theorem rd_law {K : PySem.W.Frag} {vs : List V} {H : Hp} {Q : VK} {E : XK} (h : spLaw K vs H Q E) : t_law K (ends Q) (L2.start ["_law_script", "_law_vessel_here", "_law_due", "_law_found"] vs) H := by
  obtain ⟨a, ns, rfl, hS, hl, k⟩ := h
  show t_law K (ends Q) [some (.ref a), none, none, none] H
  unfold t_law
  walk_at "rd"
  refine ⟨a, ns, 0, rfl, hS, by decide, fun p H1 ws ts S1 vo rv => ?_⟩
  have h8 := heaps8 vo
  obtain ⟨hs, _, _, tk⟩ := vo.turns
  have t8 := tk.le
  have pa : Pacy ts := fun t ht => (tk.ok t ht).2.2.2
  walk_at "rd"
  refine ⟨.ref p, ws, ts, rfl, rv, by walk_at "om", fun ph H2 A2 => ?_⟩
  obtain ⟨gx, hph, rg⟩ := A2.at_
  have lg : gx.length = (hdd ts).length := by rw [rg.length, List.length_map]
  have rv2 := rv.same A2.same
  walk_at "rd"
  refine k_lenL (SqL.of hph) ?_
  rw [lg]
  refine ⟨_, rfl, by walk_at "om", by walk_at "om", ?_⟩
  rw [Int.toNat_natCast]
  refine comp_range (n := (hdd ts).length) fun D nD => ⟨fun j H3 => AccZ K H2 D H3 ((List.range j).map fun i => dQ (Wt ts i)), AccZ.start (Same.refl _) nD, ?_, ?_⟩
  · intro j H3 hj A
    rw [Int.zero_add]
    walk_at "rd"
    refine ⟨.ref p, ws, ts, j, rfl, rv2.same A.same, t8, h8, pa, hj, fun q H4 S4 r4 => ?_⟩
    refine pushed hj ?_
    refine (A.on S4).pushK r4 (small1000 (by rw [List.length_map, List.length_range]; walk_at "om")) fun H5 A5 => ?_
    show AccZ K H2 D H5 ((List.range (j + 1)).map fun i => dQ (Wt ts i))
    rw [List.range_succ, List.map_append]
    exact A5
  intro H3 A3
  obtain ⟨ys, hD, ry⟩ := A3.at_
  have ly : ys.length = (hdd ts).length := by rw [ry.length, List.length_map, List.length_range]
  have qy : ∀ {H' : Hp}, RzL K H' ys ((List.range (hdd ts).length).map fun i => dQ (Wt ts i)) → ∀ i y, ys[i]? = some y → Rz K H' y (dQ (Wt ts i)) := fun {H'} r i y e => by
    obtain ⟨d, g1, g2⟩ := r.get e
    have li := (List.getElem?_eq_some_iff.mp e).1
    rw [List.getElem?_map, List.getElem?_range (by walk_at "om")] at g1
    cases g1
    exact g2
  have rv3 := rv2.same A3.same
  walk_at "rd"
  refine ⟨.ref p, ws, ts, rfl, rv3, t8, h8, pa, fun f H4 fs nf S4 hf lf qf => ?_⟩
  walk_at "rd"
  refine ⟨f, D, fs, ys, (hdd ts).length, Wt ts, rfl, hf, S4 _ _ hD, lf, ly, by walk_at "om", qf, qy (ry.same S4), ?_⟩
  walk_at "rd"
  refine ⟨k_tyL hf, k_clear hf ?_⟩
  have nfD : D ≠ f := fun z => by rw [← z, hD] at nf; cases nf
  have hD5 : upd H4 f (.lst []) D = some (.lst ys) := by rw [upd_ne nfD]; exact S4 _ _ hD
  have ry5 : RzL K (upd H4 f (.lst [])) ys ((List.range (hdd ts).length).map fun i => dQ (Wt ts i)) := RzL.upd (ry.same S4) hf
  have rv5 : Rz K (upd H4 f (.lst [])) (.ref p) (dV ws ts) := Rz.upd (rv3.same S4) hf
  generalize upd H4 f (.lst []) = H5 at hD5 ry5 rv5 ⊢
  walk_at "rd"
  refine ⟨.ref p, ws, ts, rfl, rv5, t8, h8, pa, fun f2 H6 fs2 _ S6 hf2 lf2 qf2 => ?_⟩
  walk_at "rd"
  exact ⟨f2, D, fs2, ys, (hdd ts).length, Wt ts, rfl, hf2, S6 _ _ hD5, lf2, ly, by walk_at "om", qf2, qy (ry5.same S6), k _⟩
theorem sc_whole : FnScope ["value"] ["value"] (defScope (top 4)) := ⟨rfl, rfl, rfl, by decide +kernel, rfl, by decide +kernel, by decide +kernel⟩
theorem sc_greatest_divisor : FnScope ["one", "two", "rest"] ["one", "two"] (defScope (top 5)) := ⟨rfl, rfl, rfl, by decide +kernel, rfl, by decide +kernel, by decide +kernel⟩
theorem sc_fraction : FnScope ["top", "bottom", "divisor"] ["top", "bottom"] (defScope (top 6)) := ⟨rfl, rfl, rfl, by decide +kernel, rfl, by decide +kernel, by decide +kernel⟩
theorem sc_plus : FnScope ["one", "two"] ["one", "two"] (defScope (top 7)) := ⟨rfl, rfl, rfl, by decide +kernel, rfl, by decide +kernel, by decide +kernel⟩
theorem sc_times : FnScope ["one", "two"] ["one", "two"] (defScope (top 8)) := ⟨rfl, rfl, rfl, by decide +kernel, rfl, by decide +kernel, by decide +kernel⟩
theorem sc_heaps_of : FnScope ["turnings", "found", "turning"] ["turnings"] (defScope (top 11)) := ⟨rfl, rfl, rfl, by decide +kernel, rfl, by decide +kernel, by decide +kernel⟩
theorem sc_heaps : FnScope ["vessel"] ["vessel"] (defScope (top 12)) := ⟨rfl, rfl, rfl, by decide +kernel, rfl, by decide +kernel, by decide +kernel⟩
theorem sc_heap_numbers : FnScope ["vessel", "numbers", "number", "heap"] ["vessel"] (defScope (top 14)) := ⟨rfl, rfl, rfl, by decide +kernel, rfl, by decide +kernel, by decide +kernel⟩
theorem sc_places_of : FnScope ["things", "thing"] ["things", "thing"] (defScope (top 15)) := ⟨rfl, rfl, rfl, by decide +kernel, rfl, by decide +kernel, by decide +kernel⟩
theorem sc_lots : FnScope ["vessel", "firsts", "one", "two", "lesser", "greater"] ["vessel"] (defScope (top 16)) := ⟨rfl, rfl, rfl, by decide +kernel, rfl, by decide +kernel, by decide +kernel⟩
theorem sc_turnings_from : FnScope ["ends", "heap"] ["ends", "heap"] (defScope (top 19)) := ⟨rfl, rfl, rfl, by decide +kernel, rfl, by decide +kernel, by decide +kernel⟩
theorem sc_picks : FnScope ["ends", "some", "told", "heap", "longer", "pick"] ["ends", "some"] (defScope (top 20)) := ⟨rfl, rfl, rfl, by decide +kernel, rfl, by decide +kernel, by decide +kernel⟩
theorem sc_is_tree : FnScope ["ends", "pick", "heap", "steps", "number", "start", "here", "step"] ["ends", "pick", "heap"] (defScope (top 21)) := ⟨rfl, rfl, rfl, by decide +kernel, rfl, by decide +kernel, by decide +kernel⟩
theorem sc_pace_product : FnScope ["turnings", "pick", "product", "number"] ["turnings", "pick"] (defScope (top 22)) := ⟨rfl, rfl, rfl, by decide +kernel, rfl, by decide +kernel, by decide +kernel⟩
theorem sc_tree_weight : FnScope ["turnings", "ends", "lot", "heap", "weight", "pick"] ["turnings", "ends", "lot", "heap"] (defScope (top 23)) := ⟨rfl, rfl, rfl, by decide +kernel, rfl, by decide +kernel, by decide +kernel⟩
theorem sc_tree_weights : FnScope ["vessel", "ends", "weights", "lot", "heap"] ["vessel"] (defScope (top 24)) := ⟨rfl, rfl, rfl, by decide +kernel, rfl, by decide +kernel, by decide +kernel⟩
theorem sc_law_cell_at : FnScope ["_law_script", "_law_k"] ["_law_script", "_law_k"] (defScope (top 26)) := ⟨rfl, rfl, rfl, by decide +kernel, rfl, by decide +kernel, by decide +kernel⟩
theorem sc_law_mixed : FnScope ["_law_cell", "_law_place", "_law_number"] ["_law_cell", "_law_place"] (defScope (top 27)) := ⟨rfl, rfl, rfl, by decide +kernel, rfl, by decide +kernel, by decide +kernel⟩
theorem sc_law_divisor : FnScope ["_law_one", "_law_two"] ["_law_one", "_law_two"] (defScope (top 28)) := ⟨rfl, rfl, rfl, by decide +kernel, rfl, by decide +kernel, by decide +kernel⟩
theorem sc_law_lowest : FnScope ["_law_top", "_law_bottom", "_law_by"] ["_law_top", "_law_bottom"] (defScope (top 29)) := ⟨rfl, rfl, rfl, by decide +kernel, rfl, by decide +kernel, by decide +kernel⟩
theorem sc_law_words : FnScope ["_law_number", "_law_many", "_law_letters", "_law_found", "_law_k", "_law_first"] ["_law_number", "_law_many"] (defScope (top 30)) := ⟨rfl, rfl, rfl, by decide +kernel, rfl, by decide +kernel, by decide +kernel⟩
theorem sc_law_heap : FnScope ["_law_cell", "_law_k", "_law_many", "_law_top", "_law_plain", "_law_number", "_law_found", "_law_j"] ["_law_cell", "_law_k", "_law_many", "_law_top", "_law_plain"] (defScope (top 31)) := ⟨rfl, rfl, rfl, by decide +kernel, rfl, by decide +kernel, by decide +kernel⟩
theorem sc_law_pool : FnScope ["_law_script", "_law_at", "_law_many", "_law_size", "_law_top", "_law_plain", "_law_found", "_law_k", "_law_heap_here"] ["_law_script", "_law_at", "_law_many", "_law_size", "_law_top", "_law_plain"] (defScope (top 32)) := ⟨rfl, rfl, rfl, by decide +kernel, rfl, by decide +kernel, by decide +kernel⟩
theorem sc_law_pairs : FnScope ["_law_script", "_law_at", "_law_size", "_law_kind", "_law_plain", "_law_found", "_law_k", "_law_after", "_law_cell", "_law_one", "_law_step", "_law_chosen", "_law_two"] ["_law_script", "_law_at", "_law_size", "_law_kind", "_law_plain"] (defScope (top 33)) := ⟨rfl, rfl, rfl, by decide +kernel, rfl, by decide +kernel, by decide +kernel⟩
theorem sc_law_pace : FnScope ["_law_cell", "_law_kind"] ["_law_cell", "_law_kind"] (defScope (top 34)) := ⟨rfl, rfl, rfl, by decide +kernel, rfl, by decide +kernel, by decide +kernel⟩
theorem sc_law_vessel : FnScope ["_law_script", "_law_at", "_law_number", "_law_many", "_law_top", "_law_plain", "_law_pool_here", "_law_pairs_here", "_law_rows", "_law_k", "_law_cell", "_law_one", "_law_two"] ["_law_script", "_law_at"] (defScope (top 35)) := ⟨rfl, rfl, rfl, by decide +kernel, rfl, by decide +kernel, by decide +kernel⟩
theorem sc_law_heaps : FnScope ["_law_vessel_here", "_law_found", "_law_take", "_law_give", "_law_pace_here", "_law_heap_here"] ["_law_vessel_here"] (defScope (top 36)) := ⟨rfl, rfl, rfl, by decide +kernel, rfl, by decide +kernel, by decide +kernel⟩
theorem sc_law_ends : FnScope ["_law_vessel_here", "_law_told"] ["_law_vessel_here"] (defScope (top 37)) := ⟨rfl, rfl, rfl, by decide +kernel, rfl, by decide +kernel, by decide +kernel⟩
theorem sc_law_reach : FnScope ["_law_ends_here", "_law_one", "_law_seen", "_law_k", "_law_here", "_law_there"] ["_law_ends_here", "_law_one"] (defScope (top 38)) := ⟨rfl, rfl, rfl, by decide +kernel, rfl, by decide +kernel, by decide +kernel⟩
theorem sc_law_plus : FnScope ["_law_one", "_law_two"] ["_law_one", "_law_two"] (defScope (top 39)) := ⟨rfl, rfl, rfl, by decide +kernel, rfl, by decide +kernel, by decide +kernel⟩
theorem sc_law_times : FnScope ["_law_one", "_law_two"] ["_law_one", "_law_two"] (defScope (top 40)) := ⟨rfl, rfl, rfl, by decide +kernel, rfl, by decide +kernel, by decide +kernel⟩
theorem sc_law_trees : FnScope ["_law_vessel_here", "_law_root", "_law_ends_here", "_law_both", "_law_others", "_law_picks", "_law_heap_here", "_law_longer", "_law_some", "_law_found", "_law_goes", "_law_k", "_law_weight"] ["_law_vessel_here", "_law_root"] (defScope (top 41)) := ⟨rfl, rfl, rfl, by decide +kernel, rfl, by decide +kernel, by decide +kernel⟩
theorem sc_law_all_come : FnScope ["_law_goes", "_law_others", "_law_root", "_law_heap_here", "_law_here", "_law_step"] ["_law_goes", "_law_others", "_law_root"] (defScope (top 42)) := ⟨rfl, rfl, rfl, by decide +kernel, rfl, by decide +kernel, by decide +kernel⟩
theorem sc_law_same : FnScope ["_law_found", "_law_due", "_law_k"] ["_law_found", "_law_due"] (defScope (top 43)) := ⟨rfl, rfl, rfl, by decide +kernel, rfl, by decide +kernel, by decide +kernel⟩
theorem sc_law : FnScope ["_law_script", "_law_vessel_here", "_law_due", "_law_found"] ["_law_script"] (defScope (top 44)) := ⟨rfl, rfl, rfl, by decide +kernel, rfl, by decide +kernel, by decide +kernel⟩
section
variable {P : Program} {w : World} {K : PySem.W.Frag} {mg : Str → Option Value} {base : Heap}
theorem ok_whole {nq oq : Addr} (G : Cn K mg nq oq) (F : FunAt K mg "whole" (top 4) ["value"]) (B : Blt mg)  : FnC P w K mg base CX0 1 "whole" ["value"] spWhole := by
  refine F.ok sc_whole (fun vs H Q E h => len_whole h) (fun f cdv A outer s H vs Q E hr h => ?_)
  have nd := sc_whole.nd
  have hpo := fun {M A env} => @PassesOwn.never M A env
  have hu := hr.units
  have hu1 := Nat.lt_of_le_of_lt (Nat.add_le_add_left (by decide : 1 ≤ 64) _) hu
  have own : OwnFr (cxOf CX0 P w K mg base ["value"] "whole" (defScope (top 4)) f cdv A outer s H E).nox := ⟨rfl, rfl, rfl⟩
  exact ⟨tWhole K, (pss_one (ps_ret (pe_and (pe_callB call_isi rfl B.isinstance bb_isinstance (pa_cons (pv 0) (pa_cons (pe_bltn rfl B.int bb_int rfl) pa_nil))) (pe_one (pe_not (pe_callB call_isi rfl B.isinstance bb_isinstance (pa_cons (pv 0) (pa_cons (pe_bltn rfl B.bool bb_bool rfl) pa_nil)))))))), (by obtain ⟨i, rfl, k⟩ := h; exact rd_whole k)⟩
theorem ok_greatest_divisor {nq oq : Addr} (G : Cn K mg nq oq) (F : FunAt K mg "greatest_divisor" (top 5) ["one", "two"]) (B : Blt mg)  : FnC P w K mg base CX0 1 "greatest_divisor" ["one", "two"] spDiv := by
  refine F.ok sc_greatest_divisor (fun vs H Q E h => len_div h) (fun f cdv A outer s H vs Q E hr h => ?_)
  have nd := sc_greatest_divisor.nd
  have hpo := fun {M A env} => @PassesOwn.never M A env
  have hu := hr.units
  have hu1 := Nat.lt_of_le_of_lt (Nat.add_le_add_left (by decide : 1 ≤ 64) _) hu
  have own : OwnFr (cxOf CX0 P w K mg base ["one", "two", "rest"] "greatest_divisor" (defScope (top 5)) f cdv A outer s H E).nox := ⟨rfl, rfl, rfl⟩
  exact ⟨tDiv, (pss_cons (ps_while hpo (pt_cmpR op_ne (pv 1) pe_int (nomark _))
  (pss_cons (ps_set (i := 2) nd rfl (by first | exact Or.inl rfl | exact Or.inr rfl) (pe_op op_modN (pv 0) (pv 1)))
  (pss_cons (ps_set (i := 0) nd rfl (by first | exact Or.inl rfl | exact Or.inr rfl) (pv 1))
  (pss_one (ps_set (i := 1) nd rfl (by first | exact Or.inl rfl | exact Or.inr rfl) (pv 2))))))
  (pss_one (ps_ret (pe_callB call_abs rfl B.abs bb_abs (pa_cons (pv 0) pa_nil))))), (by obtain ⟨a, b, rfl, k⟩ := h; exact rd_div a b H _ k)⟩
theorem ok_fraction {nq oq : Addr} (G : Cn K mg nq oq) (F : FunAt K mg "fraction" (top 6) ["top", "bottom"]) (B : Blt mg) (c_greatest_divisor : FnC P w K mg base CX0 1 "greatest_divisor" ["one", "two"] spDiv) (c_whole : FnC P w K mg base CX0 1 "whole" ["value"] spWhole) : FnC P w K mg base CX0 2 "fraction" ["top", "bottom"] (spFracQ K) := by
  refine F.ok sc_fraction (fun vs H Q E h => len_fracQ h) (fun f cdv A outer s H vs Q E hr h => ?_)
  have nd := sc_fraction.nd
  have hpo := fun {M A env} => @PassesOwn.never M A env
  have hu := hr.units
  have hu1 := Nat.lt_of_le_of_lt (Nat.add_le_add_left (by decide : 1 ≤ 64) _) hu
  have own : OwnFr (cxOf CX0 P w K mg base ["top", "bottom", "divisor"] "fraction" (defScope (top 6)) f cdv A outer s H E).nox := ⟨rfl, rfl, rfl⟩
  exact ⟨t_fracQ K, (pss_cons (ps_if (PW.pt (pw_or (pt_not (pt_val (pe_callF c_whole hr rfl (pa_cons (pv 0) pa_nil)))) (pw_or1 (pt_not (pt_val (pe_callF c_whole hr rfl (pa_cons (pv 1) pa_nil)))))))
  pss_never
  pss_nil)
  (pss_cons (ps_if (pt_cmpR op_eq (pv 1) pe_int (nomark _))
  pss_never
  pss_nil)
  (pss_cons (ps_set (i := 2) nd rfl (by first | exact Or.inl rfl | exact Or.inr rfl) (pe_callF c_greatest_divisor hr rfl (pa_cons (pv 0) (pa_cons (pv 1) pa_nil))))
  (pss_cons (ps_if (pt_cmpR op_lt (pv 1) pe_int (nomark _))
  (pss_one (ps_set (i := 2) nd rfl (by first | exact Or.inl rfl | exact Or.inr rfl) (pe_un un_neg (pv 2))))
  pss_nil)
  (pss_one (ps_ret (pe_tup (pa_cons (pe_op op_fdivW (pv 0) (pv 2)) (pa_cons (pe_op op_fdivW (pv 1) (pv 2)) pa_nil))))))))), (rd_fracQ rfl h)⟩
theorem ok_plus {nq oq : Addr} (G : Cn K mg nq oq) (F : FunAt K mg "plus" (top 7) ["one", "two"]) (B : Blt mg) (c_fraction : FnC P w K mg base CX0 2 "fraction" ["top", "bottom"] (spFracQ K)) : FnC P w K mg base CX0 3 "plus" ["one", "two"] (spPlusQ K) := by
  refine F.ok sc_plus (fun vs H Q E h => len_plusQ h) (fun f cdv A outer s H vs Q E hr h => ?_)
  have nd := sc_plus.nd
  have hpo := fun {M A env} => @PassesOwn.never M A env
  have hu := hr.units
  have hu1 := Nat.lt_of_le_of_lt (Nat.add_le_add_left (by decide : 1 ≤ 64) _) hu
  have own : OwnFr (cxOf CX0 P w K mg base ["one", "two"] "plus" (defScope (top 7)) f cdv A outer s H E).nox := ⟨rfl, rfl, rfl⟩
  exact ⟨t_plusQ K, (pss_one (ps_ret (pe_callF c_fraction hr rfl (pa_cons (pe_op op_add (pe_op op_mulW (pe_ix ix_tup (pv 0) pe_int (fun _ _ => rfl)) (pe_ix ix_tup (pv 1) pe_int (fun _ _ => rfl))) (pe_op op_mulW (pe_ix ix_tup (pv 1) pe_int (fun _ _ => rfl)) (pe_ix ix_tup (pv 0) pe_int (fun _ _ => rfl)))) (pa_cons (pe_op op_mulW (pe_ix ix_tup (pv 0) pe_int (fun _ _ => rfl)) (pe_ix ix_tup (pv 1) pe_int (fun _ _ => rfl))) pa_nil))))), (rd_plusQ rfl h)⟩
theorem ok_times {nq oq : Addr} (G : Cn K mg nq oq) (F : FunAt K mg "times" (top 8) ["one", "two"]) (B : Blt mg) (c_fraction : FnC P w K mg base CX0 2 "fraction" ["top", "bottom"] (spFracQ K)) : FnC P w K mg base CX0 3 "times" ["one", "two"] (spTimesQ K) := by
  refine F.ok sc_times (fun vs H Q E h => len_timesQ h) (fun f cdv A outer s H vs Q E hr h => ?_)
  have nd := sc_times.nd
  have hpo := fun {M A env} => @PassesOwn.never M A env
  have hu := hr.units
  have hu1 := Nat.lt_of_le_of_lt (Nat.add_le_add_left (by decide : 1 ≤ 64) _) hu
  have own : OwnFr (cxOf CX0 P w K mg base ["one", "two"] "times" (defScope (top 8)) f cdv A outer s H E).nox := ⟨rfl, rfl, rfl⟩
  exact ⟨t_timesQ K, (pss_one (ps_ret (pe_callF c_fraction hr rfl (pa_cons (pe_op op_mulW (pe_ix ix_tup (pv 0) pe_int (fun _ _ => rfl)) (pe_ix ix_tup (pv 1) pe_int (fun _ _ => rfl))) (pa_cons (pe_op op_mulW (pe_ix ix_tup (pv 0) pe_int (fun _ _ => rfl)) (pe_ix ix_tup (pv 1) pe_int (fun _ _ => rfl))) pa_nil))))), (rd_timesQ rfl h)⟩
theorem ok_heaps_of {nq oq : Addr} (G : Cn K mg nq oq) (F : FunAt K mg "heaps_of" (top 11) ["turnings"]) (B : Blt mg)  : FnC P w K mg base CX0 1 "heaps_of" ["turnings"] (spHeapsOf K) := by
  refine F.ok sc_heaps_of (fun vs H Q E h => len_heapsOf h) (fun f cdv A outer s H vs Q E hr h => ?_)
  have nd := sc_heaps_of.nd
  have hpo := fun {M A env} => @PassesOwn.never M A env
  have hu := hr.units
  have hu1 := Nat.lt_of_le_of_lt (Nat.add_le_add_left (by decide : 1 ≤ 64) _) hu
  have own : OwnFr (cxOf CX0 P w K mg base ["turnings", "found", "turning"] "heaps_of" (defScope (top 11)) f cdv A outer s H E).nox := ⟨rfl, rfl, rfl⟩
  exact ⟨t_heapsOf K, (pss_cons (ps_set (i := 1) nd rfl (by first | exact Or.inl rfl | exact Or.inr rfl) pe_dnewT)
  (pss_cons (ps_for hpo rfl (pi_tup (pv 0)) (pg_name (i := 2) nd rfl (by first | exact Or.inl rfl | exact Or.inr rfl))
  (pss_cons (ps_dput hu1 (pv 1) (pe_ix ix_tup (pv 2) pe_int (fun _ _ => rfl)) pe_bl rfl)
  (pss_one (ps_dput hu1 (pv 1) (pe_ix ix_tup (pv 2) pe_int (fun _ _ => rfl)) pe_bl rfl))))
  (pss_one (ps_ret (pe_callTy (call_listD rfl) rfl B.list bb_list (pa_cons (pv 1) pa_nil)))))), (rd_heapsOf rfl h)⟩
theorem ok_heaps {nq oq : Addr} (G : Cn K mg nq oq) (F : FunAt K mg "heaps" (top 12) ["vessel"]) (B : Blt mg) (c_heaps_of : FnC P w K mg base CX0 1 "heaps_of" ["turnings"] (spHeapsOf K)) : FnC P w K mg base CX0 2 "heaps" ["vessel"] (spHeaps K) := by
  refine F.ok sc_heaps (fun vs H Q E h => len_heaps h) (fun f cdv A outer s H vs Q E hr h => ?_)
  have nd := sc_heaps.nd
  have hpo := fun {M A env} => @PassesOwn.never M A env
  have hu := hr.units
  have hu1 := Nat.lt_of_le_of_lt (Nat.add_le_add_left (by decide : 1 ≤ 64) _) hu
  have own : OwnFr (cxOf CX0 P w K mg base ["vessel"] "heaps" (defScope (top 12)) f cdv A outer s H E).nox := ⟨rfl, rfl, rfl⟩
  exact ⟨t_heaps K, (pss_one (ps_ret (pe_callF c_heaps_of hr rfl (pa_cons (pe_ix ix_tup (pv 0) pe_int (fun _ _ => rfl)) pa_nil)))), (rd_heaps rfl h)⟩
theorem ok_heap_numbers {nq oq : Addr} (G : Cn K mg nq oq) (F : FunAt K mg "heap_numbers" (top 14) ["vessel"]) (B : Blt mg) (c_heaps : FnC P w K mg base CX0 2 "heaps" ["vessel"] (spHeaps K)) : FnC P w K mg base CX0 3 "heap_numbers" ["vessel"] (spEnds K) := by
  refine F.ok sc_heap_numbers (fun vs H Q E h => len_ends h) (fun f cdv A outer s H vs Q E hr h => ?_)
  have nd := sc_heap_numbers.nd
  have hpo := fun {M A env} => @PassesOwn.never M A env
  have hu := hr.units
  have hu1 := Nat.lt_of_le_of_lt (Nat.add_le_add_left (by decide : 1 ≤ 64) _) hu
  have own : OwnFr (cxOf CX0 P w K mg base ["vessel", "numbers", "number", "heap"] "heap_numbers" (defScope (top 14)) f cdv A outer s H E).nox := ⟨rfl, rfl, rfl⟩
  exact ⟨t_hnum K, (pss_cons (ps_set (i := 1) nd rfl (by first | exact Or.inl rfl | exact Or.inr rfl) pe_dnewT)
  (pss_cons (ps_for hpo rfl (pi_enum rfl B.enumerate (pa_cons (pe_callF c_heaps hr rfl (pa_cons (pv 0) pa_nil)) pa_nil)) (pg_tup rfl (pgs_cons (pg_name (i := 2) nd rfl (by first | exact Or.inl rfl | exact Or.inr rfl)) (pgs_cons (pg_name (i := 3) nd rfl (by first | exact Or.inl rfl | exact Or.inr rfl)) pgs_nil)))
  (pss_one (ps_dput hu1 (pv 1) (pv 3) (pv 2) rfl)))
  (pss_one (ps_ret (pe_lc (M := ["vessel", "numbers", "number", "heap"]) (by show CompS (defScope (top 14)) ["vessel", "numbers", "number", "heap"] ["vessel", "numbers", "number", "heap"] _ _; exact ⟨rfl, by decide +kernel, by decide +kernel, by decide +kernel, by decide +kernel, rfl, by decide +kernel, by decide +kernel, by decide +kernel⟩) nd rfl (pi_tup (pe_ix ix_tup (pv 0) pe_int (fun _ _ => rfl))) (fun _ _ _ _ _ => (pe_tup (pa_cons (pe_dget hu1 (pv 2) (pe_ix ix_tup (pv 0) pe_int (fun _ _ => rfl)) (fun _ _ => rfl)) (pa_cons (pe_dget hu1 (pv 2) (pe_ix ix_tup (pv 0) pe_int (fun _ _ => rfl)) (fun _ _ => rfl)) pa_nil))))))))), (rd_hnum rfl h)⟩
theorem ok_places_of {nq oq : Addr} (G : Cn K mg nq oq) (F : FunAt K mg "places_of" (top 15) ["things", "thing"]) (B : Blt mg)  : FnC P w K mg base CX0 1 "places_of" ["things", "thing"] (spPlaces K) := by
  refine F.ok sc_places_of (fun vs H Q E h => len_places h) (fun f cdv A outer s H vs Q E hr h => ?_)
  have nd := sc_places_of.nd
  have hpo := fun {M A env} => @PassesOwn.never M A env
  have hu := hr.units
  have hu1 := Nat.lt_of_le_of_lt (Nat.add_le_add_left (by decide : 1 ≤ 64) _) hu
  have own : OwnFr (cxOf CX0 P w K mg base ["things", "thing"] "places_of" (defScope (top 15)) f cdv A outer s H E).nox := ⟨rfl, rfl, rfl⟩
  exact ⟨t_places K, (pss_one (ps_ret (pe_lcF ["place", "other"] ["things", "thing"] (by show CompS (defScope (top 15)) ["things", "thing"] ["things", "thing"] _ _; exact ⟨rfl, by decide +kernel, by decide +kernel, by decide +kernel, by decide +kernel, rfl, by decide +kernel, by decide +kernel, by decide +kernel⟩) rfl (pi_enum rfl B.enumerate (pa_cons (pv 0) pa_nil)) (fun _ _ _ _ _ => (pg_tup rfl (pgs_cons (pg_name (i := 0) (show (["place", "other", "things", "thing"] : List Str).Nodup by decide +kernel) rfl (by first | exact Or.inl rfl | exact Or.inr rfl)) (pgs_cons (pg_name (i := 1) (show (["place", "other", "things", "thing"] : List Str).Nodup by decide +kernel) rfl (by first | exact Or.inl rfl | exact Or.inr rfl)) pgs_nil)))) (fun _ _ _ _ _ => (pt_cmpR op_eq (pv 1) (pv 3) (nomark _))) (fun _ _ _ _ _ => (pv 0))))), (rd_places rfl h)⟩
theorem ok_lots {nq oq : Addr} (G : Cn K mg nq oq) (F : FunAt K mg "lots" (top 16) ["vessel"]) (B : Blt mg) (c_heap_numbers : FnC P w K mg base CX0 3 "heap_numbers" ["vessel"] (spEnds K)) (c_places_of : FnC P w K mg base CX0 3 "places_of" ["things", "thing"] (spPlaces K)) (c_heaps : FnC P w K mg base CX0 3 "heaps" ["vessel"] (spHeaps K)) : FnC P w K mg base CX0 4 "lots" ["vessel"] (spLots K) := by
  refine F.ok sc_lots (fun vs H Q E h => len_lots h) (fun f cdv A outer s H vs Q E hr h => ?_)
  have nd := sc_lots.nd
  have hpo := fun {M A env} => @PassesOwn.never M A env
  have hu := hr.units
  have hu1 := Nat.lt_of_le_of_lt (Nat.add_le_add_left (by decide : 1 ≤ 64) _) hu
  have own : OwnFr (cxOf CX0 P w K mg base ["vessel", "firsts", "one", "two", "lesser", "greater"] "lots" (defScope (top 16)) f cdv A outer s H E).nox := ⟨rfl, rfl, rfl⟩
  exact ⟨t_lots K, (pss_cons (ps_set (i := 1) nd rfl (by first | exact Or.inl rfl | exact Or.inr rfl) (pe_listrange rfl rfl B.list rfl B.range (pe_callB call_len_seq rfl B.len bb_len (pa_cons (pe_callF c_heaps hr rfl (pa_cons (pv 0) pa_nil)) pa_nil))))
  (pss_cons (ps_for hpo rfl (pi_list (pe_callF c_heap_numbers hr rfl (pa_cons (pv 0) pa_nil))) (pg_tup rfl (pgs_cons (pg_name (i := 2) nd rfl (by first | exact Or.inl rfl | exact Or.inr rfl)) (pgs_cons (pg_name (i := 3) nd rfl (by first | exact Or.inl rfl | exact Or.inr rfl)) pgs_nil)))
  (pss_cons (ps_set (i := 4) nd rfl (by first | exact Or.inl rfl | exact Or.inr rfl) (pe_callB (call_min2 rfl) rfl B.min bb_min (pa_cons (pe_ix ix_list (pv 1) (pv 2) (fun _ _ => rfl)) (pa_cons (pe_ix ix_list (pv 1) (pv 3) (fun _ _ => rfl)) pa_nil))))
  (pss_cons (ps_set (i := 5) nd rfl (by first | exact Or.inl rfl | exact Or.inr rfl) (pe_callB (call_max2 rfl) rfl B.max bb_max (pa_cons (pe_ix ix_list (pv 1) (pv 2) (fun _ _ => rfl)) (pa_cons (pe_ix ix_list (pv 1) (pv 3) (fun _ _ => rfl)) pa_nil))))
  (pss_one (ps_set (i := 1) nd rfl (by first | exact Or.inl rfl | exact Or.inr rfl) (pe_lc (M := ["vessel", "firsts", "one", "two", "lesser", "greater"]) (by show CompS (defScope (top 16)) ["vessel", "firsts", "one", "two", "lesser", "greater"] ["vessel", "firsts", "one", "two", "lesser", "greater"] _ _; exact ⟨rfl, by decide +kernel, by decide +kernel, by decide +kernel, by decide +kernel, rfl, by decide +kernel, by decide +kernel, by decide +kernel⟩) nd rfl (pi_list (pv 1)) (fun _ _ _ _ _ => (pe_ifExp (pt_cmpR op_eq (pv 0) (pv 6) (nomark _)) (pv 5) (pv 0)))))))))
  (pss_one (ps_ret (pe_lc (M := ["vessel", "firsts", "one", "two", "lesser", "greater"]) (by show CompS (defScope (top 16)) ["vessel", "firsts", "one", "two", "lesser", "greater"] ["vessel", "firsts", "one", "two", "lesser", "greater"] _ _; exact ⟨rfl, by decide +kernel, by decide +kernel, by decide +kernel, by decide +kernel, rfl, by decide +kernel, by decide +kernel, by decide +kernel⟩) nd rfl (pi_list (pe_sortset rfl rfl B.sorted rfl B.set (pv 1))) (fun _ _ _ _ _ => (pe_callF c_places_of hr rfl (pa_cons (pv 2) (pa_cons (pv 0) pa_nil))))))))), (rd_lots rfl h)⟩
theorem ok_turnings_from {nq oq : Addr} (G : Cn K mg nq oq) (F : FunAt K mg "turnings_from" (top 19) ["ends", "heap"]) (B : Blt mg)  : FnC P w K mg base CX0 1 "turnings_from" ["ends", "heap"] (spFrom K) := by
  refine F.ok sc_turnings_from (fun vs H Q E h => len_from h) (fun f cdv A outer s H vs Q E hr h => ?_)
  have nd := sc_turnings_from.nd
  have hpo := fun {M A env} => @PassesOwn.never M A env
  have hu := hr.units
  have hu1 := Nat.lt_of_le_of_lt (Nat.add_le_add_left (by decide : 1 ≤ 64) _) hu
  have own : OwnFr (cxOf CX0 P w K mg base ["ends", "heap"] "turnings_from" (defScope (top 19)) f cdv A outer s H E).nox := ⟨rfl, rfl, rfl⟩
  exact ⟨t_from K, (pss_one (ps_ret (pe_lcF ["number", "end"] ["ends", "heap"] (by show CompS (defScope (top 19)) ["ends", "heap"] ["ends", "heap"] _ _; exact ⟨rfl, by decide +kernel, by decide +kernel, by decide +kernel, by decide +kernel, rfl, by decide +kernel, by decide +kernel, by decide +kernel⟩) rfl (pi_enum rfl B.enumerate (pa_cons (pv 0) pa_nil)) (fun _ _ _ _ _ => (pg_tup rfl (pgs_cons (pg_name (i := 0) (show (["number", "end", "ends", "heap"] : List Str).Nodup by decide +kernel) rfl (by first | exact Or.inl rfl | exact Or.inr rfl)) (pgs_cons (pg_name (i := 1) (show (["number", "end", "ends", "heap"] : List Str).Nodup by decide +kernel) rfl (by first | exact Or.inl rfl | exact Or.inr rfl)) pgs_nil)))) (fun _ _ _ _ _ => (pt_cmpR op_eq (pe_ix ix_tup (pv 1) pe_int (fun _ _ => rfl)) (pv 3) (nomark _))) (fun _ _ _ _ _ => (pv 0))))), (rd_from rfl h)⟩
theorem ok_picks {nq oq : Addr} (G : Cn K mg nq oq) (F : FunAt K mg "picks" (top 20) ["ends", "some"]) (B : Blt mg) (c_turnings_from : FnC P w K mg base CX0 1 "turnings_from" ["ends", "heap"] (spFrom K)) : FnC P w K mg base CX0 2 "picks" ["ends", "some"] (spPicks K) := by
  refine F.ok sc_picks (fun vs H Q E h => len_picks h) (fun f cdv A outer s H vs Q E hr h => ?_)
  have nd := sc_picks.nd
  have hpo := fun {M A env} => @PassesOwn.never M A env
  have hu := hr.units
  have hu1 := Nat.lt_of_le_of_lt (Nat.add_le_add_left (by decide : 1 ≤ 64) _) hu
  have own : OwnFr (cxOf CX0 P w K mg base ["ends", "some", "told", "heap", "longer", "pick"] "picks" (defScope (top 20)) f cdv A outer s H E).nox := ⟨rfl, rfl, rfl⟩
  exact ⟨t_picks K, (pss_cons (ps_set (i := 2) nd rfl (by first | exact Or.inl rfl | exact Or.inr rfl) (pe_lst (pa_cons (pe_lst pa_nil) pa_nil)))
  (pss_cons (ps_for hpo rfl (pi_list (pv 1)) (pg_name (i := 3) nd rfl (by first | exact Or.inl rfl | exact Or.inr rfl))
  (pss_cons (ps_set (i := 4) nd rfl (by first | exact Or.inl rfl | exact Or.inr rfl) (pe_lst pa_nil))
  (pss_cons (ps_for hpo rfl (pi_list (pv 2)) (pg_name (i := 5) nd rfl (by first | exact Or.inl rfl | exact Or.inr rfl))
  (pss_one (ps_expr (pe_bm PySem.F.plainAttrs_list PySem.F.slot_list_extend PySem.F.type_list_extend mt_extend (pv 4) (pa_cons (pe_lc (M := ["ends", "some", "told", "heap", "longer", "pick"]) (by show CompS (defScope (top 20)) ["ends", "some", "told", "heap", "longer", "pick"] ["ends", "some", "told", "heap", "longer", "pick"] _ _; exact ⟨rfl, by decide +kernel, by decide +kernel, by decide +kernel, by decide +kernel, rfl, by decide +kernel, by decide +kernel, by decide +kernel⟩) nd rfl (pi_list (pe_callF c_turnings_from hr rfl (pa_cons (pv 0) (pa_cons (pv 3) pa_nil)))) (fun _ _ _ _ _ => (pe_op op_cat (pv 6) (pe_lst (pa_cons (pv 0) pa_nil))))) pa_nil)))))
  (pss_one (ps_set (i := 2) nd rfl (by first | exact Or.inl rfl | exact Or.inr rfl) (pv 4))))))
  (pss_one (ps_ret (pv 2))))), (rd_picks rfl h)⟩
theorem ok_is_tree {nq oq : Addr} (G : Cn K mg nq oq) (F : FunAt K mg "is_tree" (top 21) ["ends", "pick", "heap"]) (B : Blt mg)  : FnC P w K mg base CX0 1 "is_tree" ["ends", "pick", "heap"] (spTree K) := by
  refine F.ok sc_is_tree (fun vs H Q E h => len_tree h) (fun f cdv A outer s H vs Q E hr h => ?_)
  have nd := sc_is_tree.nd
  have hpo := fun {M A env} => @PassesOwn.never M A env
  have hu := hr.units
  have hu1 := Nat.lt_of_le_of_lt (Nat.add_le_add_left (by decide : 1 ≤ 64) _) hu
  have own : OwnFr (cxOf CX0 P w K mg base ["ends", "pick", "heap", "steps", "number", "start", "here", "step"] "is_tree" (defScope (top 21)) f cdv A outer s H E).nox := ⟨rfl, rfl, rfl⟩
  exact ⟨t_tree K, (pss_cons (ps_set (i := 3) nd rfl (by first | exact Or.inl rfl | exact Or.inr rfl) (pe_disp (pps_cons (pv 2) (pv 2) pps_nil) rfl rfl (by simp) (by decide)))
  (pss_cons (ps_for hpo rfl (pi_list (pv 1)) (pg_name (i := 4) nd rfl (by first | exact Or.inl rfl | exact Or.inr rfl))
  (pss_one (ps_dput hu1 (pv 3) (pe_ix ix_tup (pe_ix ix_list (pv 0) (pv 4) (fun _ _ => rfl)) pe_int (fun _ _ => rfl)) (pe_ix ix_tup (pe_ix ix_list (pv 0) (pv 4) (fun _ _ => rfl)) pe_int (fun _ _ => rfl)) rfl)))
  (pss_cons (ps_for hpo rfl (pi_list (pe_callTy (call_listDK rfl) rfl B.list bb_list (pa_cons (pv 3) pa_nil))) (pg_name (i := 5) nd rfl (by first | exact Or.inl rfl | exact Or.inr rfl))
  (pss_cons (ps_set (i := 6) nd rfl (by first | exact Or.inl rfl | exact Or.inr rfl) (pv 5))
  (pss_cons (ps_for hpo rfl (pi_range1 rfl B.range (pa_cons (pe_callB call_lenD rfl B.len bb_len (pa_cons (pv 3) pa_nil)) pa_nil)) (pg_name (i := 7) nd rfl (by first | exact Or.inl rfl | exact Or.inr rfl))
  (pss_one (ps_set (i := 6) nd rfl (by first | exact Or.inl rfl | exact Or.inr rfl) (pe_dget hu1 (pv 3) (pv 6) (fun _ _ => rfl)))))
  (pss_one (ps_if (pt_cmpR op_ne (pv 6) (pv 2) (nomark _))
  (pss_one (ps_ret pe_bl))
  pss_nil)))))
  (pss_one (ps_ret pe_bl))))), (rd_tree rfl h)⟩
theorem ok_pace_product {nq oq : Addr} (G : Cn K mg nq oq) (F : FunAt K mg "pace_product" (top 22) ["turnings", "pick"]) (B : Blt mg) (c_times : FnC P w K mg base CX0 3 "times" ["one", "two"] (spTimesQ K)) : FnC P w K mg base CX0 4 "pace_product" ["turnings", "pick"] (Tr.spPace K) := by
  refine F.ok sc_pace_product (fun vs H Q E h => len_pace h) (fun f cdv A outer s H vs Q E hr h => ?_)
  have nd := sc_pace_product.nd
  have hpo := fun {M A env} => @PassesOwn.never M A env
  have hu := hr.units
  have hu1 := Nat.lt_of_le_of_lt (Nat.add_le_add_left (by decide : 1 ≤ 64) _) hu
  have own : OwnFr (cxOf CX0 P w K mg base ["turnings", "pick", "product", "number"] "pace_product" (defScope (top 22)) f cdv A outer s H E).nox := ⟨rfl, rfl, rfl⟩
  exact ⟨t_pace K oq, (pss_cons (ps_set (i := 2) nd rfl (by first | exact Or.inl rfl | exact Or.inr rfl) (pe_glob rfl G.ONE rfl))
  (pss_cons (ps_for hpo rfl (pi_list (pv 1)) (pg_name (i := 3) nd rfl (by first | exact Or.inl rfl | exact Or.inr rfl))
  (pss_one (ps_set (i := 2) nd rfl (by first | exact Or.inl rfl | exact Or.inr rfl) (pe_callF c_times hr rfl (pa_cons (pv 2) (pa_cons (pe_ix ix_tup (pe_ix ix_tup (pv 0) (pv 3) (fun _ _ => rfl)) pe_int (fun _ _ => rfl)) pa_nil))))))
  (pss_one (ps_ret (pv 2))))), (rd_pace G.one rfl h)⟩
theorem ok_tree_weight {nq oq : Addr} (G : Cn K mg nq oq) (F : FunAt K mg "tree_weight" (top 23) ["turnings", "ends", "lot", "heap"]) (B : Blt mg) (c_picks : FnC P w K mg base CX0 4 "picks" ["ends", "some"] (spPicks K)) (c_is_tree : FnC P w K mg base CX0 4 "is_tree" ["ends", "pick", "heap"] (spTree K)) (c_plus : FnC P w K mg base CX0 4 "plus" ["one", "two"] (spPlusQ K)) (c_pace_product : FnC P w K mg base CX0 4 "pace_product" ["turnings", "pick"] (Tr.spPace K)) : FnC P w K mg base CX0 5 "tree_weight" ["turnings", "ends", "lot", "heap"] (spTreeW K) := by
  refine F.ok sc_tree_weight (fun vs H Q E h => len_treeW h) (fun f cdv A outer s H vs Q E hr h => ?_)
  have nd := sc_tree_weight.nd
  have hpo := fun {M A env} => @PassesOwn.never M A env
  have hu := hr.units
  have hu1 := Nat.lt_of_le_of_lt (Nat.add_le_add_left (by decide : 1 ≤ 64) _) hu
  have own : OwnFr (cxOf CX0 P w K mg base ["turnings", "ends", "lot", "heap", "weight", "pick"] "tree_weight" (defScope (top 23)) f cdv A outer s H E).nox := ⟨rfl, rfl, rfl⟩
  exact ⟨t_treeW K nq, (pss_cons (ps_set (i := 4) nd rfl (by first | exact Or.inl rfl | exact Or.inr rfl) (pe_glob rfl G.NOUGHT rfl))
  (pss_cons (ps_for hpo rfl (pi_list (pe_callF c_picks hr rfl (pa_cons (pv 1) (pa_cons (pe_lcF ["other"] ["turnings", "ends", "lot", "heap", "weight", "pick"] (by show CompS (defScope (top 23)) ["turnings", "ends", "lot", "heap", "weight", "pick"] ["turnings", "ends", "lot", "heap", "weight", "pick"] _ _; exact ⟨rfl, by decide +kernel, by decide +kernel, by decide +kernel, by decide +kernel, rfl, by decide +kernel, by decide +kernel, by decide +kernel⟩) rfl (pi_list (pv 2)) (fun _ _ _ _ _ => (pg_name (i := 0) (show (["other", "turnings", "ends", "lot", "heap", "weight", "pick"] : List Str).Nodup by decide +kernel) rfl (by first | exact Or.inl rfl | exact Or.inr rfl))) (fun _ _ _ _ _ => (pt_cmpR op_ne (pv 0) (pv 4) (nomark _))) (fun _ _ _ _ _ => (pv 0))) pa_nil)))) (pg_name (i := 5) nd rfl (by first | exact Or.inl rfl | exact Or.inr rfl))
  (pss_one (ps_if (pt_val (pe_callF c_is_tree hr rfl (pa_cons (pv 1) (pa_cons (pv 5) (pa_cons (pv 3) pa_nil)))))
  (pss_one (ps_set (i := 4) nd rfl (by first | exact Or.inl rfl | exact Or.inr rfl) (pe_callF c_plus hr rfl (pa_cons (pv 4) (pa_cons (pe_callF c_pace_product hr rfl (pa_cons (pv 0) (pa_cons (pv 5) pa_nil))) pa_nil)))))
  pss_nil)))
  (pss_one (ps_ret (pv 4))))), (rd_treeW G.zero rfl h)⟩
theorem ok_tree_weights {nq oq : Addr} (G : Cn K mg nq oq) (F : FunAt K mg "tree_weights" (top 24) ["vessel"]) (B : Blt mg) (c_heap_numbers : FnC P w K mg base CX0 5 "heap_numbers" ["vessel"] (spEnds K)) (c_lots : FnC P w K mg base CX0 5 "lots" ["vessel"] (spLots K)) (c_tree_weight : FnC P w K mg base CX0 5 "tree_weight" ["turnings", "ends", "lot", "heap"] (spTreeW K)) : FnC P w K mg base CX0 6 "tree_weights" ["vessel"] (spTrees K) := by
  refine F.ok sc_tree_weights (fun vs H Q E h => len_trees h) (fun f cdv A outer s H vs Q E hr h => ?_)
  have nd := sc_tree_weights.nd
  have hpo := fun {M A env} => @PassesOwn.never M A env
  have hu := hr.units
  have hu1 := Nat.lt_of_le_of_lt (Nat.add_le_add_left (by decide : 1 ≤ 64) _) hu
  have own : OwnFr (cxOf CX0 P w K mg base ["vessel", "ends", "weights", "lot", "heap"] "tree_weights" (defScope (top 24)) f cdv A outer s H E).nox := ⟨rfl, rfl, rfl⟩
  exact ⟨t_trees K, (pss_cons (ps_set (i := 1) nd rfl (by first | exact Or.inl rfl | exact Or.inr rfl) (pe_callF c_heap_numbers hr rfl (pa_cons (pv 0) pa_nil)))
  (pss_cons (ps_set (i := 2) nd rfl (by first | exact Or.inl rfl | exact Or.inr rfl) pe_dnewK)
  (pss_cons (ps_for hpo rfl (pi_list (pe_callF c_lots hr rfl (pa_cons (pv 0) pa_nil))) (pg_name (i := 3) nd rfl (by first | exact Or.inl rfl | exact Or.inr rfl))
  (pss_one (ps_for hpo rfl (pi_list (pv 3)) (pg_name (i := 4) nd rfl (by first | exact Or.inl rfl | exact Or.inr rfl))
  (pss_one (ps_dput hu1 (pv 2) (pv 4) (pe_callF c_tree_weight hr rfl (pa_cons (pe_ix ix_tup (pv 0) pe_int (fun _ _ => rfl)) (pa_cons (pv 1) (pa_cons (pv 3) (pa_cons (pv 4) pa_nil))))) rfl)))))
  (pss_one (ps_ret (pe_lc (M := ["vessel", "ends", "weights", "lot", "#heap"]) (by show CompS (defScope (top 24)) ["vessel", "ends", "weights", "lot", "heap"] ["vessel", "ends", "weights", "lot", "#heap"] _ _; exact ⟨rfl, by decide +kernel, by decide +kernel, by decide +kernel, by decide +kernel, rfl, by decide +kernel, by decide +kernel, by decide +kernel⟩) nd rfl (pi_range1 rfl B.range (pa_cons (pe_callB call_lenD rfl B.len bb_len (pa_cons (pv 2) pa_nil)) pa_nil)) (fun _ _ _ _ _ => (pe_dget hu1 (pv 3) (pv 0) (fun _ _ => rfl))))))))), (rd_trees rfl h)⟩
theorem ok_law_cell_at {nq oq : Addr} (G : Cn K mg nq oq) (F : FunAt K mg "_law_cell_at" (top 26) ["_law_script", "_law_k"]) (B : Blt mg)  : FnC P w K mg base CX0 1 "_law_cell_at" ["_law_script", "_law_k"] (spCell K) := by
  refine F.ok sc_law_cell_at (fun vs H Q E h => len_cell h) (fun f cdv A outer s H vs Q E hr h => ?_)
  have nd := sc_law_cell_at.nd
  have hpo := fun {M A env} => @PassesOwn.never M A env
  have hu := hr.units
  have hu1 := Nat.lt_of_le_of_lt (Nat.add_le_add_left (by decide : 1 ≤ 64) _) hu
  have own : OwnFr (cxOf CX0 P w K mg base ["_law_script", "_law_k"] "_law_cell_at" (defScope (top 26)) f cdv A outer s H E).nox := ⟨rfl, rfl, rfl⟩
  exact ⟨tCell K, (pss_cons (ps_if (pt_cmpR op_lt (pv 1) (pe_callB call_len_seq rfl B.len bb_len (pa_cons (pv 0) pa_nil)) (nomark _))
  (pss_one (ps_ret (pe_ix ix_list (pv 0) (pv 1) (fun _ _ => rfl))))
  pss_nil)
  (pss_one (ps_ret pe_int))), (by obtain ⟨a, ns, k, rfl, hS, h0, q⟩ := h; exact rd_cell hS h0 q)⟩
theorem ok_law_mixed {nq oq : Addr} (G : Cn K mg nq oq) (F : FunAt K mg "_law_mixed" (top 27) ["_law_cell", "_law_place"]) (B : Blt mg)  : FnC P w K mg base CX0 1 "_law_mixed" ["_law_cell", "_law_place"] spMix2 := by
  refine F.ok sc_law_mixed (fun vs H Q E h => len_mix2 h) (fun f cdv A outer s H vs Q E hr h => ?_)
  have nd := sc_law_mixed.nd
  have hpo := fun {M A env} => @PassesOwn.never M A env
  have hu := hr.units
  have hu1 := Nat.lt_of_le_of_lt (Nat.add_le_add_left (by decide : 1 ≤ 64) _) hu
  have own : OwnFr (cxOf CX0 P w K mg base ["_law_cell", "_law_place", "_law_number"] "_law_mixed" (defScope (top 27)) f cdv A outer s H E).nox := ⟨rfl, rfl, rfl⟩
  exact ⟨t_mix2 K, (pss_cons (ps_set (i := 2) nd rfl (by first | exact Or.inl rfl | exact Or.inr rfl) (pe_op op_mod (pe_op op_add (pe_op op_add (pe_op op_mul (pe_op op_mod (pv 0) pe_int) pe_int) (pe_op op_mul pe_int (pv 1))) pe_int) pe_int))
  (pss_cons (ps_set (i := 2) nd rfl (by first | exact Or.inl rfl | exact Or.inr rfl) (pe_op op_mod (pe_op op_add (pe_op op_add (pe_op op_mul (pv 2) (pv 2)) (pe_op op_mul pe_int (pv 1))) pe_int) pe_int))
  (pss_one (ps_ret (pe_op op_mod (pe_op op_add (pe_op op_mul (pv 2) (pv 2)) pe_int) pe_int))))), (rd_mix2 rfl h)⟩
theorem ok_law_divisor {nq oq : Addr} (G : Cn K mg nq oq) (F : FunAt K mg "_law_divisor" (top 28) ["_law_one", "_law_two"]) (B : Blt mg)  : FnC P w K mg base CX0 1 "_law_divisor" ["_law_one", "_law_two"] spDiv := by
  refine F.ok sc_law_divisor (fun vs H Q E h => len_div h) (fun f cdv A outer s H vs Q E hr h => ?_)
  have nd := sc_law_divisor.nd
  have hpo := fun {M A env} => @PassesOwn.never M A env
  have hu := hr.units
  have hu1 := Nat.lt_of_le_of_lt (Nat.add_le_add_left (by decide : 1 ≤ 64) _) hu
  have own : OwnFr (cxOf CX0 P w K mg base ["_law_one", "_law_two"] "_law_divisor" (defScope (top 28)) f cdv A outer s H E).nox := ⟨rfl, rfl, rfl⟩
  exact ⟨t_div2 K, (pss_cons (ps_while hpo (pt_cmpR op_ne (pv 1) pe_int (nomark _))
  (pss_one (ps_par (i := 0) (j := 1) rfl nd rfl rfl (by decide) rfl rfl (pa_cons (pv 1) (pa_cons (pe_op op_modN (pv 0) (pv 1)) pa_nil)) rfl)))
  (pss_one (ps_ret (pe_callB call_abs rfl B.abs bb_abs (pa_cons (pv 0) pa_nil))))), (rd_div2 rfl h)⟩
theorem ok_law_lowest {nq oq : Addr} (G : Cn K mg nq oq) (F : FunAt K mg "_law_lowest" (top 29) ["_law_top", "_law_bottom"]) (B : Blt mg) (c_law_divisor : FnC P w K mg base CX0 1 "_law_divisor" ["_law_one", "_law_two"] spDiv) : FnC P w K mg base CX0 2 "_law_lowest" ["_law_top", "_law_bottom"] (spLowQ K) := by
  refine F.ok sc_law_lowest (fun vs H Q E h => len_lowQ h) (fun f cdv A outer s H vs Q E hr h => ?_)
  have nd := sc_law_lowest.nd
  have hpo := fun {M A env} => @PassesOwn.never M A env
  have hu := hr.units
  have hu1 := Nat.lt_of_le_of_lt (Nat.add_le_add_left (by decide : 1 ≤ 64) _) hu
  have own : OwnFr (cxOf CX0 P w K mg base ["_law_top", "_law_bottom", "_law_by"] "_law_lowest" (defScope (top 29)) f cdv A outer s H E).nox := ⟨rfl, rfl, rfl⟩
  exact ⟨t_lowQ K, (pss_cons (ps_set (i := 2) nd rfl (by first | exact Or.inl rfl | exact Or.inr rfl) (pe_callF c_law_divisor hr rfl (pa_cons (pv 0) (pa_cons (pv 1) pa_nil))))
  (pss_one (ps_ret (pe_tup (pa_cons (pe_op op_fdivW (pv 0) (pv 2)) (pa_cons (pe_op op_fdivW (pv 1) (pv 2)) pa_nil)))))), (rd_lowQ rfl h)⟩
theorem ok_law_words {nq oq : Addr} (G : Cn K mg nq oq) (F : FunAt K mg "_law_words" (top 30) ["_law_number", "_law_many"]) (B : Blt mg)  : FnC P w K mg base CX0 1 "_law_words" ["_law_number", "_law_many"] (spWords2 K) := by
  refine F.ok sc_law_words (fun vs H Q E h => len_words2 h) (fun f cdv A outer s H vs Q E hr h => ?_)
  have nd := sc_law_words.nd
  have hpo := fun {M A env} => @PassesOwn.never M A env
  have hu := hr.units
  have hu1 := Nat.lt_of_le_of_lt (Nat.add_le_add_left (by decide : 1 ≤ 64) _) hu
  have own : OwnFr (cxOf CX0 P w K mg base ["_law_number", "_law_many", "_law_letters", "_law_found", "_law_k", "_law_first"] "_law_words" (defScope (top 30)) f cdv A outer s H E).nox := ⟨rfl, rfl, rfl⟩
  exact ⟨t_words2 K, (pss_cons (ps_set (i := 2) nd rfl (by first | exact Or.inl rfl | exact Or.inr rfl) pe_str)
  (pss_cons (ps_set (i := 3) nd rfl (by first | exact Or.inl rfl | exact Or.inr rfl) (pe_lst pa_nil))
  (pss_cons (ps_for hpo rfl (pi_range1 rfl B.range (pa_cons (pv 1) pa_nil)) (pg_name (i := 4) nd rfl (by first | exact Or.inl rfl | exact Or.inr rfl))
  (pss_cons (ps_set (i := 5) nd rfl (by first | exact Or.inl rfl | exact Or.inr rfl) (pe_ix ix_str (pv 2) (pe_op op_mod (pe_op op_add (pv 0) (pe_op op_mul pe_int (pv 4))) pe_int) (fun _ _ => rfl)))
  (pss_one (ps_expr (pe_bm PySem.F.plainAttrs_list PySem.F.slot_list_append PySem.F.type_list_append mt_append (pv 3) (pa_cons (pe_op op_add_str (pe_op op_add_str (pv 5) (pe_slice sl_str pe_str po_none (po_some (pe_op op_mod (pe_op op_fdiv (pv 0) pe_int) pe_int)))) (pe_op op_repS (pv 5) (pe_op op_mod (pe_op op_fdiv (pv 0) pe_int) pe_int))) pa_nil))))))
  (pss_one (ps_ret (pe_callTy call_tuple_of rfl B.tuple bb_tuple (pa_cons (pv 3) pa_nil))))))), (rd_words2 rfl h)⟩
theorem ok_law_heap {nq oq : Addr} (G : Cn K mg nq oq) (F : FunAt K mg "_law_heap" (top 31) ["_law_cell", "_law_k", "_law_many", "_law_top", "_law_plain"]) (B : Blt mg) (c_law_mixed : FnC P w K mg base CX0 1 "_law_mixed" ["_law_cell", "_law_place"] spMix2) : FnC P w K mg base CX0 2 "_law_heap" ["_law_cell", "_law_k", "_law_many", "_law_top", "_law_plain"] (spHeap2 K) := by
  refine F.ok sc_law_heap (fun vs H Q E h => len_heap2 h) (fun f cdv A outer s H vs Q E hr h => ?_)
  have nd := sc_law_heap.nd
  have hpo := fun {M A env} => @PassesOwn.never M A env
  have hu := hr.units
  have hu1 := Nat.lt_of_le_of_lt (Nat.add_le_add_left (by decide : 1 ≤ 64) _) hu
  have own : OwnFr (cxOf CX0 P w K mg base ["_law_cell", "_law_k", "_law_many", "_law_top", "_law_plain", "_law_number", "_law_found", "_law_j"] "_law_heap" (defScope (top 31)) f cdv A outer s H E).nox := ⟨rfl, rfl, rfl⟩
  exact ⟨t_heap2 K, (pss_cons (ps_set (i := 5) nd rfl (by first | exact Or.inl rfl | exact Or.inr rfl) (pv 0))
  (pss_cons (ps_if (pt_cmpR op_gt (pv 1) pe_int (nomark _))
  (pss_one (ps_set (i := 5) nd rfl (by first | exact Or.inl rfl | exact Or.inr rfl) (pe_op op_fdiv (pv 0) pe_int)))
  pss_nil)
  (pss_cons (ps_set (i := 6) nd rfl (by first | exact Or.inl rfl | exact Or.inr rfl) (pe_lst pa_nil))
  (pss_cons (ps_for hpo rfl (pi_range1 rfl B.range (pa_cons (pv 2) pa_nil)) (pg_name (i := 7) nd rfl (by first | exact Or.inl rfl | exact Or.inr rfl))
  (pss_one (ps_if (pt_val (pv 4))
  (pss_cons (ps_expr (pe_bm PySem.F.plainAttrs_list PySem.F.slot_list_append PySem.F.type_list_append mt_append (pv 6) (pa_cons (pe_op op_mod (pv 5) (pv 3)) pa_nil)))
  (pss_one (ps_set (i := 5) nd rfl (by first | exact Or.inl rfl | exact Or.inr rfl) (pe_op op_fdiv (pv 5) (pv 3)))))
  (pss_one (ps_expr (pe_bm PySem.F.plainAttrs_list PySem.F.slot_list_append PySem.F.type_list_append mt_append (pv 6) (pa_cons (pe_op op_mod (pe_callF c_law_mixed hr rfl (pa_cons (pv 0) (pa_cons (pe_op op_add (pe_op op_mul pe_int (pv 1)) (pv 7)) pa_nil))) (pv 3)) pa_nil)))))))
  (pss_one (ps_ret (pe_callTy call_tuple_of rfl B.tuple bb_tuple (pa_cons (pv 6) pa_nil)))))))), (rd_heap2 rfl h)⟩
theorem ok_law_pool {nq oq : Addr} (G : Cn K mg nq oq) (F : FunAt K mg "_law_pool" (top 32) ["_law_script", "_law_at", "_law_many", "_law_size", "_law_top", "_law_plain"]) (B : Blt mg) (c_law_heap : FnC P w K mg base CX0 2 "_law_heap" ["_law_cell", "_law_k", "_law_many", "_law_top", "_law_plain"] (spHeap2 K)) (c_law_cell_at : FnC P w K mg base CX0 2 "_law_cell_at" ["_law_script", "_law_k"] (spCell K)) : FnC P w K mg base CX0 3 "_law_pool" ["_law_script", "_law_at", "_law_many", "_law_size", "_law_top", "_law_plain"] (spPool2 K) := by
  refine F.ok sc_law_pool (fun vs H Q E h => len_pool2 h) (fun f cdv A outer s H vs Q E hr h => ?_)
  have nd := sc_law_pool.nd
  have hpo := fun {M A env} => @PassesOwn.never M A env
  have hu := hr.units
  have hu1 := Nat.lt_of_le_of_lt (Nat.add_le_add_left (by decide : 1 ≤ 64) _) hu
  have own : OwnFr (cxOf CX0 P w K mg base ["_law_script", "_law_at", "_law_many", "_law_size", "_law_top", "_law_plain", "_law_found", "_law_k", "_law_heap_here"] "_law_pool" (defScope (top 32)) f cdv A outer s H E).nox := ⟨rfl, rfl, rfl⟩
  exact ⟨t_pool2 K, (pss_cons (ps_set (i := 6) nd rfl (by first | exact Or.inl rfl | exact Or.inr rfl) (pe_lst pa_nil))
  (pss_cons (ps_for hpo rfl (pi_range1 rfl B.range (pa_cons (pv 3) pa_nil)) (pg_name (i := 7) nd rfl (by first | exact Or.inl rfl | exact Or.inr rfl))
  (pss_cons (ps_set (i := 8) nd rfl (by first | exact Or.inl rfl | exact Or.inr rfl) (pe_callF c_law_heap hr rfl (pa_cons (pe_callF c_law_cell_at hr rfl (pa_cons (pv 0) (pa_cons (pe_op op_add (pv 1) (pe_op op_mod (pv 7) pe_int)) pa_nil))) (pa_cons (pv 7) (pa_cons (pv 2) (pa_cons (pv 4) (pa_cons (pv 5) pa_nil)))))))
  (pss_one (ps_if (pt_cmpR (op_notInD hu) (pv 8) (pv 6) (by with_unfolding_all rfl))
  (pss_one (ps_expr (pe_bm PySem.F.plainAttrs_list PySem.F.slot_list_append PySem.F.type_list_append mt_append (pv 6) (pa_cons (pv 8) pa_nil))))
  pss_nil))))
  (pss_cons (ps_if (pt_cmpR op_eq (pe_callB call_len_seq rfl B.len bb_len (pa_cons (pv 6) pa_nil)) pe_int (nomark _))
  (pss_one (ps_expr (pe_bm PySem.F.plainAttrs_list PySem.F.slot_list_append PySem.F.type_list_append mt_append (pv 6) (pa_cons (pe_callTy call_tuple_of rfl B.tuple bb_tuple (pa_cons (pe_lc (M := ["_law_script", "_law_at", "_law_many", "_law_size", "_law_top", "_law_plain", "_law_found", "_law_k", "_law_heap_here"]) (by show CompS (defScope (top 32)) ["_law_script", "_law_at", "_law_many", "_law_size", "_law_top", "_law_plain", "_law_found", "_law_k", "_law_heap_here"] ["_law_script", "_law_at", "_law_many", "_law_size", "_law_top", "_law_plain", "_law_found", "_law_k", "_law_heap_here"] _ _; exact ⟨rfl, by decide +kernel, by decide +kernel, by decide +kernel, by decide +kernel, rfl, by decide +kernel, by decide +kernel, by decide +kernel⟩) nd rfl (pi_range1 rfl B.range (pa_cons (pv 2) pa_nil)) (fun _ _ _ _ _ => (pe_callTy call_int1 rfl B.int bb_int (pa_cons (pe_and (pe_cmpR op_eq (pv 0) pe_int (nomark _)) (pe_one (pe_cmpR op_eq (pe_ix ix_tup (pe_ix ix_list (pv 7) pe_int (fun _ _ => rfl)) pe_int (fun _ _ => rfl)) pe_int (nomark _)))) pa_nil)))) pa_nil)) pa_nil))))
  pss_nil)
  (pss_one (ps_ret (pv 6)))))), (rd_pool2 rfl h)⟩
theorem ok_law_pairs {nq oq : Addr} (G : Cn K mg nq oq) (F : FunAt K mg "_law_pairs" (top 33) ["_law_script", "_law_at", "_law_size", "_law_kind", "_law_plain"]) (B : Blt mg) (c_law_cell_at : FnC P w K mg base CX0 1 "_law_cell_at" ["_law_script", "_law_k"] (spCell K)) (c_law_mixed : FnC P w K mg base CX0 1 "_law_mixed" ["_law_cell", "_law_place"] spMix2) : FnC P w K mg base CX0 2 "_law_pairs" ["_law_script", "_law_at", "_law_size", "_law_kind", "_law_plain"] (spPairs2 K) := by
  refine F.ok sc_law_pairs (fun vs H Q E h => len_pairs2 h) (fun f cdv A outer s H vs Q E hr h => ?_)
  have nd := sc_law_pairs.nd
  have hpo := fun {M A env} => @PassesOwn.never M A env
  have hu := hr.units
  have hu1 := Nat.lt_of_le_of_lt (Nat.add_le_add_left (by decide : 1 ≤ 64) _) hu
  have own : OwnFr (cxOf CX0 P w K mg base ["_law_script", "_law_at", "_law_size", "_law_kind", "_law_plain", "_law_found", "_law_k", "_law_after", "_law_cell", "_law_one", "_law_step", "_law_chosen", "_law_two"] "_law_pairs" (defScope (top 33)) f cdv A outer s H E).nox := ⟨rfl, rfl, rfl⟩
  exact ⟨t_pairs2 K, (pss_cons (ps_set (i := 5) nd rfl (by first | exact Or.inl rfl | exact Or.inr rfl) (pe_lst pa_nil))
  (pss_cons (ps_for hpo rfl (pi_range1 rfl B.range (pa_cons (pv 2) pa_nil)) (pg_name (i := 6) nd rfl (by first | exact Or.inl rfl | exact Or.inr rfl))
  (pss_cons (ps_set (i := 7) nd rfl (by first | exact Or.inl rfl | exact Or.inr rfl) (pe_op op_mod (pe_op op_add (pv 6) pe_int) (pv 2)))
  (pss_cons (ps_if (PW.pt (pw_and (pt_cmpR op_eq (pv 3) pe_int (nomark _)) (pw_and1 (pt_cmpR op_gt (pv 2) pe_int (nomark _)))))
  (pss_one (ps_expr (pe_bm PySem.F.plainAttrs_list PySem.F.slot_list_append PySem.F.type_list_append mt_append (pv 5) (pa_cons (pe_tup (pa_cons (pv 6) (pa_cons (pe_op op_add (pe_op op_mul (pe_op op_fdiv (pv 6) pe_int) pe_int) (pe_op op_mod (pe_op op_add (pv 6) pe_int) pe_int)) pa_nil))) pa_nil))))
  (pss_one (ps_if (pt_cmpR op_gt (pv 3) pe_int (nomark _))
  (pss_one (ps_expr (pe_bm PySem.F.plainAttrs_list PySem.F.slot_list_append PySem.F.type_list_append mt_append (pv 5) (pa_cons (pe_tup (pa_cons (pv 6) (pa_cons (pv 7) pa_nil))) pa_nil))))
  pss_nil)))
  (pss_one (ps_if (pt_cmpR op_eq (pv 3) pe_int (nomark _))
  (pss_one (ps_expr (pe_bm PySem.F.plainAttrs_list PySem.F.slot_list_append PySem.F.type_list_append mt_append (pv 5) (pa_cons (pe_tup (pa_cons (pv 7) (pa_cons (pv 6) pa_nil))) pa_nil))))
  pss_nil)))))
  (pss_cons (ps_for hpo rfl (pi_range1 rfl B.range (pa_cons pe_int pa_nil)) (pg_name (i := 6) nd rfl (by first | exact Or.inl rfl | exact Or.inr rfl))
  (pss_cons (ps_set (i := 8) nd rfl (by first | exact Or.inl rfl | exact Or.inr rfl) (pe_callF c_law_cell_at hr rfl (pa_cons (pv 0) (pa_cons (pe_op op_add (pv 1) (pv 6)) pa_nil))))
  (pss_one (ps_if (PW.pt (pw_or (pt_cmpR op_eq (pv 3) pe_int (nomark _)) (pw_or1 (pt_cmpR op_eq (pe_op op_mod (pv 8) pe_int) pe_int (nomark _)))))
  (pss_cons (ps_set (i := 9) nd rfl (by first | exact Or.inl rfl | exact Or.inr rfl) (pe_op op_mod (pe_callF c_law_mixed hr rfl (pa_cons (pv 8) (pa_cons pe_int pa_nil))) (pv 2)))
  (pss_cons (ps_set (i := 10) nd rfl (by first | exact Or.inl rfl | exact Or.inr rfl) (pe_op op_mod (pe_callF c_law_mixed hr rfl (pa_cons (pv 8) (pa_cons pe_int pa_nil))) (pe_op op_sub (pv 2) pe_int)))
  (pss_cons (ps_if (pt_val (pv 4))
  (pss_cons (ps_set (i := 9) nd rfl (by first | exact Or.inl rfl | exact Or.inr rfl) (pe_op op_mod (pe_op op_mod (pe_op op_fdiv (pv 8) pe_int) pe_int) (pv 2)))
  (pss_one (ps_set (i := 10) nd rfl (by first | exact Or.inl rfl | exact Or.inr rfl) (pe_op op_mod (pe_op op_mod (pe_op op_fdiv (pv 8) pe_int) pe_int) (pe_op op_sub (pv 2) pe_int)))))
  pss_nil)
  (pss_one (ps_expr (pe_bm PySem.F.plainAttrs_list PySem.F.slot_list_append PySem.F.type_list_append mt_append (pv 5) (pa_cons (pe_tup (pa_cons (pv 9) (pa_cons (pe_op op_mod (pe_op op_add (pe_op op_add (pv 9) pe_int) (pv 10)) (pv 2)) pa_nil))) pa_nil)))))))
  pss_nil))))
  (pss_cons (ps_set (i := 11) nd rfl (by first | exact Or.inl rfl | exact Or.inr rfl) (pe_lst pa_nil))
  (pss_cons (ps_for hpo rfl (pi_list (pv 5)) (pg_tup rfl (pgs_cons (pg_name (i := 9) nd rfl (by first | exact Or.inl rfl | exact Or.inr rfl)) (pgs_cons (pg_name (i := 12) nd rfl (by first | exact Or.inl rfl | exact Or.inr rfl)) pgs_nil)))
  (pss_one (ps_if (PW.pt (pw_and (pt_cmpR (op_notInD hu) (pe_tup (pa_cons (pv 9) (pa_cons (pv 12) pa_nil))) (pv 11) (by with_unfolding_all rfl)) (pw_and (pt_cmpR op_lt (pv 12) (pv 2) (nomark _)) (pw_and1 (pt_cmpR op_lt (pe_callB call_len_seq rfl B.len bb_len (pa_cons (pv 11) pa_nil)) pe_int (nomark _))))))
  (pss_one (ps_expr (pe_bm PySem.F.plainAttrs_list PySem.F.slot_list_append PySem.F.type_list_append mt_append (pv 11) (pa_cons (pe_tup (pa_cons (pv 9) (pa_cons (pv 12) pa_nil))) pa_nil))))
  pss_nil)))
  (pss_one (ps_ret (pv 11)))))))), (rd_pairs2 rfl h)⟩
theorem ok_law_pace {nq oq : Addr} (G : Cn K mg nq oq) (F : FunAt K mg "_law_pace" (top 34) ["_law_cell", "_law_kind"]) (B : Blt mg) (c_law_lowest : FnC P w K mg base CX0 2 "_law_lowest" ["_law_top", "_law_bottom"] (spLowQ K)) : FnC P w K mg base CX0 3 "_law_pace" ["_law_cell", "_law_kind"] (spPace2 K) := by
  refine F.ok sc_law_pace (fun vs H Q E h => len_pace2 h) (fun f cdv A outer s H vs Q E hr h => ?_)
  have nd := sc_law_pace.nd
  have hpo := fun {M A env} => @PassesOwn.never M A env
  have hu := hr.units
  have hu1 := Nat.lt_of_le_of_lt (Nat.add_le_add_left (by decide : 1 ≤ 64) _) hu
  have own : OwnFr (cxOf CX0 P w K mg base ["_law_cell", "_law_kind"] "_law_pace" (defScope (top 34)) f cdv A outer s H E).nox := ⟨rfl, rfl, rfl⟩
  exact ⟨t_paceQ K, (pss_cons (ps_if (pt_cmpR op_eq (pv 1) pe_int (nomark _))
  (pss_one (ps_ret (pe_tup (pa_cons pe_int (pa_cons pe_int pa_nil)))))
  pss_nil)
  (pss_cons (ps_if (pt_cmpR op_eq (pv 1) pe_int (nomark _))
  (pss_one (ps_ret (pe_callF c_law_lowest hr rfl (pa_cons (pe_op op_add pe_int (pe_op op_mod (pv 0) pe_int)) (pa_cons (pe_op op_add pe_int (pe_op op_mod (pe_op op_fdiv (pv 0) pe_int) pe_int)) pa_nil)))))
  pss_nil)
  (pss_one (ps_ret (pe_callF c_law_lowest hr rfl (pa_cons (pe_op op_add pe_int (pe_op op_mod (pv 0) (pe_op op_pow pe_int pe_int))) (pa_cons (pe_op op_add pe_int (pe_op op_mod (pe_op op_fdiv (pv 0) (pe_op op_pow pe_int pe_int)) (pe_op op_pow pe_int pe_int))) pa_nil))))))), (rd_paceQ rfl h)⟩
theorem ok_law_vessel {nq oq : Addr} (G : Cn K mg nq oq) (F : FunAt K mg "_law_vessel" (top 35) ["_law_script", "_law_at"]) (B : Blt mg) (c_law_mixed : FnC P w K mg base CX0 3 "_law_mixed" ["_law_cell", "_law_place"] spMix2) (c_law_pool : FnC P w K mg base CX0 3 "_law_pool" ["_law_script", "_law_at", "_law_many", "_law_size", "_law_top", "_law_plain"] (spPool2 K)) (c_law_pairs : FnC P w K mg base CX0 3 "_law_pairs" ["_law_script", "_law_at", "_law_size", "_law_kind", "_law_plain"] (spPairs2 K)) (c_law_cell_at : FnC P w K mg base CX0 3 "_law_cell_at" ["_law_script", "_law_k"] (spCell K)) (c_law_words : FnC P w K mg base CX0 3 "_law_words" ["_law_number", "_law_many"] (spWords2 K)) (c_law_pace : FnC P w K mg base CX0 3 "_law_pace" ["_law_cell", "_law_kind"] (spPace2 K)) : FnC P w K mg base CX0 4 "_law_vessel" ["_law_script", "_law_at"] (spVes2 K) := by
  refine F.ok sc_law_vessel (fun vs H Q E h => len_ves2 h) (fun f cdv A outer s H vs Q E hr h => ?_)
  have nd := sc_law_vessel.nd
  have hpo := fun {M A env} => @PassesOwn.never M A env
  have hu := hr.units
  have hu1 := Nat.lt_of_le_of_lt (Nat.add_le_add_left (by decide : 1 ≤ 64) _) hu
  have own : OwnFr (cxOf CX0 P w K mg base ["_law_script", "_law_at", "_law_number", "_law_many", "_law_top", "_law_plain", "_law_pool_here", "_law_pairs_here", "_law_rows", "_law_k", "_law_cell", "_law_one", "_law_two"] "_law_vessel" (defScope (top 35)) f cdv A outer s H E).nox := ⟨rfl, rfl, rfl⟩
  exact ⟨t_ves2 K, (pss_cons (ps_set (i := 2) nd rfl (by first | exact Or.inl rfl | exact Or.inr rfl) (pe_callF c_law_mixed hr rfl (pa_cons (pe_callF c_law_cell_at hr rfl (pa_cons (pv 0) (pa_cons (pv 1) pa_nil))) (pa_cons pe_int pa_nil))))
  (pss_cons (ps_set (i := 3) nd rfl (by first | exact Or.inl rfl | exact Or.inr rfl) (pe_op op_add pe_int (pe_op op_mod (pv 2) pe_int)))
  (pss_cons (ps_set (i := 4) nd rfl (by first | exact Or.inl rfl | exact Or.inr rfl) (pe_op op_add pe_int (pe_op op_mod (pe_op op_fdiv (pv 2) pe_int) pe_int)))
  (pss_cons (ps_set (i := 5) nd rfl (by first | exact Or.inl rfl | exact Or.inr rfl) (pe_cmpR op_eq (pe_op op_mod (pe_op op_fdiv (pv 2) pe_int) pe_int) pe_int (nomark _)))
  (pss_cons (ps_set (i := 6) nd rfl (by first | exact Or.inl rfl | exact Or.inr rfl) (pe_callF c_law_pool hr rfl (pa_cons (pv 0) (pa_cons (pe_op op_add (pv 1) pe_int) (pa_cons (pv 3) (pa_cons (pe_op op_add pe_int (pe_op op_mod (pe_op op_fdiv (pv 2) pe_int) pe_int)) (pa_cons (pv 4) (pa_cons (pv 5) pa_nil))))))))
  (pss_cons (ps_set (i := 7) nd rfl (by first | exact Or.inl rfl | exact Or.inr rfl) (pe_callF c_law_pairs hr rfl (pa_cons (pv 0) (pa_cons (pe_op op_add (pv 1) pe_int) (pa_cons (pe_callB call_len_seq rfl B.len bb_len (pa_cons (pv 6) pa_nil)) (pa_cons (pe_op op_mod (pe_op op_fdiv (pv 2) pe_int) pe_int) (pa_cons (pv 5) pa_nil)))))))
  (pss_cons (ps_set (i := 8) nd rfl (by first | exact Or.inl rfl | exact Or.inr rfl) (pe_lst pa_nil))
  (pss_cons (ps_for hpo rfl (pi_range1 rfl B.range (pa_cons (pe_callB call_len_seq rfl B.len bb_len (pa_cons (pv 7) pa_nil)) pa_nil)) (pg_name (i := 9) nd rfl (by first | exact Or.inl rfl | exact Or.inr rfl))
  (pss_cons (ps_set (i := 10) nd rfl (by first | exact Or.inl rfl | exact Or.inr rfl) (pe_callF c_law_cell_at hr rfl (pa_cons (pv 0) (pa_cons (pe_op op_add (pe_op op_add (pv 1) pe_int) (pv 9)) pa_nil))))
  (pss_cons (ps_asg (pe_ix ix_list (pv 7) (pv 9) (fun _ _ => rfl)) (pg_tup rfl (pgs_cons (pg_name (i := 11) nd rfl (by first | exact Or.inl rfl | exact Or.inr rfl)) (pgs_cons (pg_name (i := 12) nd rfl (by first | exact Or.inl rfl | exact Or.inr rfl)) pgs_nil))))
  (pss_one (ps_expr (pe_bm PySem.F.plainAttrs_list PySem.F.slot_list_append PySem.F.type_list_append mt_append (pv 8) (pa_cons (pe_tup (pa_cons (pe_ix ix_list (pv 6) (pv 11) (fun _ _ => rfl)) (pa_cons (pe_ix ix_list (pv 6) (pv 12) (fun _ _ => rfl)) (pa_cons (pe_callF c_law_pace hr rfl (pa_cons (pe_op op_fdiv (pv 10) pe_int) (pa_cons (pe_op op_mod (pe_op op_fdiv (pv 2) pe_int) pe_int) pa_nil))) pa_nil)))) pa_nil)))))))
  (pss_one (ps_ret (pe_tup (pa_cons (pe_callF c_law_words hr rfl (pa_cons (pe_op op_fdiv (pv 2) pe_int) (pa_cons (pv 3) pa_nil))) (pa_cons (pe_callTy call_tuple_of rfl B.tuple bb_tuple (pa_cons (pv 8) pa_nil)) pa_nil))))))))))))), (rd_ves2 rfl h)⟩
theorem ok_law_heaps {nq oq : Addr} (G : Cn K mg nq oq) (F : FunAt K mg "_law_heaps" (top 36) ["_law_vessel_here"]) (B : Blt mg)  : FnC P w K mg base CX0 1 "_law_heaps" ["_law_vessel_here"] (spHeaps K) := by
  refine F.ok sc_law_heaps (fun vs H Q E h => len_heaps h) (fun f cdv A outer s H vs Q E hr h => ?_)
  have nd := sc_law_heaps.nd
  have hpo := fun {M A env} => @PassesOwn.never M A env
  have hu := hr.units
  have hu1 := Nat.lt_of_le_of_lt (Nat.add_le_add_left (by decide : 1 ≤ 64) _) hu
  have own : OwnFr (cxOf CX0 P w K mg base ["_law_vessel_here", "_law_found", "_law_take", "_law_give", "_law_pace_here", "_law_heap_here"] "_law_heaps" (defScope (top 36)) f cdv A outer s H E).nox := ⟨rfl, rfl, rfl⟩
  exact ⟨t_lheaps K, (pss_cons (ps_set (i := 1) nd rfl (by first | exact Or.inl rfl | exact Or.inr rfl) (pe_lst pa_nil))
  (pss_cons (ps_for hpo rfl (pi_tup (pe_ix ix_tup (pv 0) pe_int (fun _ _ => rfl))) (pg_tup rfl (pgs_cons (pg_name (i := 2) nd rfl (by first | exact Or.inl rfl | exact Or.inr rfl)) (pgs_cons (pg_name (i := 3) nd rfl (by first | exact Or.inl rfl | exact Or.inr rfl)) (pgs_cons (pg_name (i := 4) nd rfl (by first | exact Or.inl rfl | exact Or.inr rfl)) pgs_nil))))
  (pss_one (ps_for hpo rfl (pi_list (pe_lst (pa_cons (pv 2) (pa_cons (pv 3) pa_nil)))) (pg_name (i := 5) nd rfl (by first | exact Or.inl rfl | exact Or.inr rfl))
  (pss_one (ps_if (pt_cmpR (op_notInD hu) (pv 5) (pv 1) (by with_unfolding_all rfl))
  (pss_one (ps_expr (pe_bm PySem.F.plainAttrs_list PySem.F.slot_list_append PySem.F.type_list_append mt_append (pv 1) (pa_cons (pv 5) pa_nil))))
  pss_nil)))))
  (pss_one (ps_ret (pv 1))))), (rd_lheaps rfl h)⟩
theorem ok_law_ends {nq oq : Addr} (G : Cn K mg nq oq) (F : FunAt K mg "_law_ends" (top 37) ["_law_vessel_here"]) (B : Blt mg) (c_law_heaps : FnC P w K mg base CX0 1 "_law_heaps" ["_law_vessel_here"] (spHeaps K)) : FnC P w K mg base CX0 2 "_law_ends" ["_law_vessel_here"] (spEnds K) := by
  refine F.ok sc_law_ends (fun vs H Q E h => len_ends h) (fun f cdv A outer s H vs Q E hr h => ?_)
  have nd := sc_law_ends.nd
  have hpo := fun {M A env} => @PassesOwn.never M A env
  have hu := hr.units
  have hu1 := Nat.lt_of_le_of_lt (Nat.add_le_add_left (by decide : 1 ≤ 64) _) hu
  have own : OwnFr (cxOf CX0 P w K mg base ["_law_vessel_here", "_law_told"] "_law_ends" (defScope (top 37)) f cdv A outer s H E).nox := ⟨rfl, rfl, rfl⟩
  exact ⟨t_lends K, (pss_cons (ps_set (i := 1) nd rfl (by first | exact Or.inl rfl | exact Or.inr rfl) (pe_callF c_law_heaps hr rfl (pa_cons (pv 0) pa_nil)))
  (pss_one (ps_ret (pe_lc (M := ["_law_vessel_here", "_law_told"]) (by show CompS (defScope (top 37)) ["_law_vessel_here", "_law_told"] ["_law_vessel_here", "_law_told"] _ _; exact ⟨rfl, by decide +kernel, by decide +kernel, by decide +kernel, by decide +kernel, rfl, by decide +kernel, by decide +kernel, by decide +kernel⟩) nd rfl (pi_tup (pe_ix ix_tup (pv 0) pe_int (fun _ _ => rfl))) (fun _ _ _ _ _ => (pe_tup (pa_cons (pe_bm PySem.F.plainAttrs_list PySem.F.slot_list_index PySem.F.type_list_index (mt_index hu) (pv 2) (pa_cons (pe_ix ix_tup (pv 0) pe_int (fun _ _ => rfl)) pa_nil)) (pa_cons (pe_bm PySem.F.plainAttrs_list PySem.F.slot_list_index PySem.F.type_list_index (mt_index hu) (pv 2) (pa_cons (pe_ix ix_tup (pv 0) pe_int (fun _ _ => rfl)) pa_nil)) pa_nil)))))))), (rd_lends rfl h)⟩
theorem ok_law_reach {nq oq : Addr} (G : Cn K mg nq oq) (F : FunAt K mg "_law_reach" (top 38) ["_law_ends_here", "_law_one"]) (B : Blt mg)  : FnC P w K mg base CX0 1 "_law_reach" ["_law_ends_here", "_law_one"] (spReach K) := by
  refine F.ok sc_law_reach (fun vs H Q E h => len_reach h) (fun f cdv A outer s H vs Q E hr h => ?_)
  have nd := sc_law_reach.nd
  have hpo := fun {M A env} => @PassesOwn.never M A env
  have hu := hr.units
  have hu1 := Nat.lt_of_le_of_lt (Nat.add_le_add_left (by decide : 1 ≤ 64) _) hu
  have own : OwnFr (cxOf CX0 P w K mg base ["_law_ends_here", "_law_one", "_law_seen", "_law_k", "_law_here", "_law_there"] "_law_reach" (defScope (top 38)) f cdv A outer s H E).nox := ⟨rfl, rfl, rfl⟩
  exact ⟨t_reach K, (pss_cons (ps_set (i := 2) nd rfl (by first | exact Or.inl rfl | exact Or.inr rfl) (pe_lst (pa_cons (pv 1) pa_nil)))
  (pss_cons (ps_for hpo rfl (pi_range1 rfl B.range (pa_cons (pe_callB call_len_seq rfl B.len bb_len (pa_cons (pv 0) pa_nil)) pa_nil)) (pg_name (i := 3) nd rfl (by first | exact Or.inl rfl | exact Or.inr rfl))
  (pss_one (ps_for hpo rfl (pi_list (pv 0)) (pg_tup rfl (pgs_cons (pg_name (i := 4) nd rfl (by first | exact Or.inl rfl | exact Or.inr rfl)) (pgs_cons (pg_name (i := 5) nd rfl (by first | exact Or.inl rfl | exact Or.inr rfl)) pgs_nil)))
  (pss_one (ps_if (PW.pt (pw_and (pt_cmpR (op_inD hu) (pv 4) (pv 2) (by with_unfolding_all rfl)) (pw_and1 (pt_cmpR (op_notInD hu) (pv 5) (pv 2) (by with_unfolding_all rfl)))))
  (pss_one (ps_expr (pe_bm PySem.F.plainAttrs_list PySem.F.slot_list_append PySem.F.type_list_append mt_append (pv 2) (pa_cons (pv 5) pa_nil))))
  pss_nil)))))
  (pss_one (ps_ret (pv 2))))), (rd_reach rfl h)⟩
theorem ok_law_plus {nq oq : Addr} (G : Cn K mg nq oq) (F : FunAt K mg "_law_plus" (top 39) ["_law_one", "_law_two"]) (B : Blt mg) (c_law_lowest : FnC P w K mg base CX0 2 "_law_lowest" ["_law_top", "_law_bottom"] (spLowQ K)) : FnC P w K mg base CX0 3 "_law_plus" ["_law_one", "_law_two"] (spPlusQ K) := by
  refine F.ok sc_law_plus (fun vs H Q E h => len_plusQ h) (fun f cdv A outer s H vs Q E hr h => ?_)
  have nd := sc_law_plus.nd
  have hpo := fun {M A env} => @PassesOwn.never M A env
  have hu := hr.units
  have hu1 := Nat.lt_of_le_of_lt (Nat.add_le_add_left (by decide : 1 ≤ 64) _) hu
  have own : OwnFr (cxOf CX0 P w K mg base ["_law_one", "_law_two"] "_law_plus" (defScope (top 39)) f cdv A outer s H E).nox := ⟨rfl, rfl, rfl⟩
  exact ⟨t_lplus K, (pss_one (ps_ret (pe_callF c_law_lowest hr rfl (pa_cons (pe_op op_add (pe_op op_mulW (pe_ix ix_tup (pv 0) pe_int (fun _ _ => rfl)) (pe_ix ix_tup (pv 1) pe_int (fun _ _ => rfl))) (pe_op op_mulW (pe_ix ix_tup (pv 1) pe_int (fun _ _ => rfl)) (pe_ix ix_tup (pv 0) pe_int (fun _ _ => rfl)))) (pa_cons (pe_op op_mulW (pe_ix ix_tup (pv 0) pe_int (fun _ _ => rfl)) (pe_ix ix_tup (pv 1) pe_int (fun _ _ => rfl))) pa_nil))))), (rd_lplus rfl h)⟩
theorem ok_law_times {nq oq : Addr} (G : Cn K mg nq oq) (F : FunAt K mg "_law_times" (top 40) ["_law_one", "_law_two"]) (B : Blt mg) (c_law_lowest : FnC P w K mg base CX0 2 "_law_lowest" ["_law_top", "_law_bottom"] (spLowQ K)) : FnC P w K mg base CX0 3 "_law_times" ["_law_one", "_law_two"] (spTimesQ K) := by
  refine F.ok sc_law_times (fun vs H Q E h => len_timesQ h) (fun f cdv A outer s H vs Q E hr h => ?_)
  have nd := sc_law_times.nd
  have hpo := fun {M A env} => @PassesOwn.never M A env
  have hu := hr.units
  have hu1 := Nat.lt_of_le_of_lt (Nat.add_le_add_left (by decide : 1 ≤ 64) _) hu
  have own : OwnFr (cxOf CX0 P w K mg base ["_law_one", "_law_two"] "_law_times" (defScope (top 40)) f cdv A outer s H E).nox := ⟨rfl, rfl, rfl⟩
  exact ⟨t_ltimes K, (pss_one (ps_ret (pe_callF c_law_lowest hr rfl (pa_cons (pe_op op_mulW (pe_ix ix_tup (pv 0) pe_int (fun _ _ => rfl)) (pe_ix ix_tup (pv 1) pe_int (fun _ _ => rfl))) (pa_cons (pe_op op_mulW (pe_ix ix_tup (pv 0) pe_int (fun _ _ => rfl)) (pe_ix ix_tup (pv 1) pe_int (fun _ _ => rfl))) pa_nil))))), (rd_ltimes rfl h)⟩
theorem ok_law_trees {nq oq : Addr} (G : Cn K mg nq oq) (F : FunAt K mg "_law_trees" (top 41) ["_law_vessel_here", "_law_root"]) (B : Blt mg) (c_law_ends : FnC P w K mg base CX0 3 "_law_ends" ["_law_vessel_here"] (spEnds K)) (c_law_all_come : FnC P w K mg base CX0 3 "_law_all_come" ["_law_goes", "_law_others", "_law_root"] (spCome K)) (c_law_reach : FnC P w K mg base CX0 3 "_law_reach" ["_law_ends_here", "_law_one"] (spReach K)) (c_law_plus : FnC P w K mg base CX0 3 "_law_plus" ["_law_one", "_law_two"] (spPlusQ K)) (c_law_times : FnC P w K mg base CX0 3 "_law_times" ["_law_one", "_law_two"] (spTimesQ K)) : FnC P w K mg base CX0 4 "_law_trees" ["_law_vessel_here", "_law_root"] (spLTrees K) := by
  refine F.ok sc_law_trees (fun vs H Q E h => len_ltrees h) (fun f cdv A outer s H vs Q E hr h => ?_)
  have nd := sc_law_trees.nd
  have hpo := fun {M A env} => @PassesOwn.never M A env
  have hu := hr.units
  have hu1 := Nat.lt_of_le_of_lt (Nat.add_le_add_left (by decide : 1 ≤ 64) _) hu
  have own : OwnFr (cxOf CX0 P w K mg base ["_law_vessel_here", "_law_root", "_law_ends_here", "_law_both", "_law_others", "_law_picks", "_law_heap_here", "_law_longer", "_law_some", "_law_found", "_law_goes", "_law_k", "_law_weight"] "_law_trees" (defScope (top 41)) f cdv A outer s H E).nox := ⟨rfl, rfl, rfl⟩
  exact ⟨t_ltrees K, (pss_cons (ps_set (i := 2) nd rfl (by first | exact Or.inl rfl | exact Or.inr rfl) (pe_callF c_law_ends hr rfl (pa_cons (pv 0) pa_nil)))
  (pss_cons (ps_set (i := 3) nd rfl (by first | exact Or.inl rfl | exact Or.inr rfl) (pe_op op_cat (pv 2) (pe_lcN ["_law_one", "_law_two"] ["_law_vessel_here", "_law_root", "_law_ends_here", "_law_both", "_law_others", "_law_picks", "_law_heap_here", "_law_longer", "_law_some", "_law_found", "_law_goes", "_law_k", "_law_weight"] (by show CompS (defScope (top 41)) ["_law_vessel_here", "_law_root", "_law_ends_here", "_law_both", "_law_others", "_law_picks", "_law_heap_here", "_law_longer", "_law_some", "_law_found", "_law_goes", "_law_k", "_law_weight"] ["_law_vessel_here", "_law_root", "_law_ends_here", "_law_both", "_law_others", "_law_picks", "_law_heap_here", "_law_longer", "_law_some", "_law_found", "_law_goes", "_law_k", "_law_weight"] _ _; exact ⟨rfl, by decide +kernel, by decide +kernel, by decide +kernel, by decide +kernel, rfl, by decide +kernel, by decide +kernel, by decide +kernel⟩) rfl (pi_list (pv 2)) (fun _ _ _ _ _ => (pg_tup rfl (pgs_cons (pg_name (i := 0) (show (["_law_one", "_law_two", "_law_vessel_here", "_law_root", "_law_ends_here", "_law_both", "_law_others", "_law_picks", "_law_heap_here", "_law_longer", "_law_some", "_law_found", "_law_goes", "_law_k", "_law_weight"] : List Str).Nodup by decide +kernel) rfl (by first | exact Or.inl rfl | exact Or.inr rfl)) (pgs_cons (pg_name (i := 1) (show (["_law_one", "_law_two", "_law_vessel_here", "_law_root", "_law_ends_here", "_law_both", "_law_others", "_law_picks", "_law_heap_here", "_law_longer", "_law_some", "_law_found", "_law_goes", "_law_k", "_law_weight"] : List Str).Nodup by decide +kernel) rfl (by first | exact Or.inl rfl | exact Or.inr rfl)) pgs_nil)))) (fun _ _ _ _ _ => (pe_tup (pa_cons (pv 1) (pa_cons (pv 0) pa_nil)))))))
  (pss_cons (ps_lcF (i := 4) ["_law_heap_here"] ["_law_vessel_here", "_law_root", "_law_ends_here", "_law_both", "_law_others", "_law_picks", "#_law_heap_here", "_law_longer", "_law_some", "_law_found", "_law_goes", "_law_k", "_law_weight"] nd rfl rfl (by show CompS (defScope (top 41)) ["_law_vessel_here", "_law_root", "_law_ends_here", "_law_both", "_law_others", "_law_picks", "_law_heap_here", "_law_longer", "_law_some", "_law_found", "_law_goes", "_law_k", "_law_weight"] ["_law_vessel_here", "_law_root", "_law_ends_here", "_law_both", "_law_others", "_law_picks", "#_law_heap_here", "_law_longer", "_law_some", "_law_found", "_law_goes", "_law_k", "_law_weight"] _ _; exact ⟨rfl, by decide +kernel, by decide +kernel, by decide +kernel, by decide +kernel, rfl, by decide +kernel, by decide +kernel, by decide +kernel⟩) rfl (pi_list (pe_callF c_law_reach hr rfl (pa_cons (pv 3) (pa_cons (pv 1) pa_nil)))) (fun _ _ _ _ _ => (pg_name (i := 0) (show (["_law_heap_here", "_law_vessel_here", "_law_root", "_law_ends_here", "_law_both", "_law_others", "_law_picks", "#_law_heap_here", "_law_longer", "_law_some", "_law_found", "_law_goes", "_law_k", "_law_weight"] : List Str).Nodup by decide +kernel) rfl (by first | exact Or.inl rfl | exact Or.inr rfl))) (fun _ _ _ _ _ => (pt_cmpR op_ne (pv 0) (pv 2) (nomark _))) (fun _ _ _ _ _ => (pv 0)))
  (pss_cons (ps_set (i := 5) nd rfl (by first | exact Or.inl rfl | exact Or.inr rfl) (pe_lst (pa_cons (pe_lst pa_nil) pa_nil)))
  (pss_cons (ps_for hpo rfl (pi_list (pv 4)) (pg_name (i := 6) nd rfl (by first | exact Or.inl rfl | exact Or.inr rfl))
  (pss_cons (ps_set (i := 7) nd rfl (by first | exact Or.inl rfl | exact Or.inr rfl) (pe_lst pa_nil))
  (pss_cons (ps_for hpo rfl (pi_list (pv 5)) (pg_name (i := 8) nd rfl (by first | exact Or.inl rfl | exact Or.inr rfl))
  (pss_one (ps_set (i := 7) nd rfl (by first | exact Or.inl rfl | exact Or.inr rfl) (pe_op op_cat (pv 7) (pe_lcF ["_law_k"] ["_law_vessel_here", "_law_root", "_law_ends_here", "_law_both", "_law_others", "_law_picks", "_law_heap_here", "_law_longer", "_law_some", "_law_found", "_law_goes", "#_law_k", "_law_weight"] (by show CompS (defScope (top 41)) ["_law_vessel_here", "_law_root", "_law_ends_here", "_law_both", "_law_others", "_law_picks", "_law_heap_here", "_law_longer", "_law_some", "_law_found", "_law_goes", "_law_k", "_law_weight"] ["_law_vessel_here", "_law_root", "_law_ends_here", "_law_both", "_law_others", "_law_picks", "_law_heap_here", "_law_longer", "_law_some", "_law_found", "_law_goes", "#_law_k", "_law_weight"] _ _; exact ⟨rfl, by decide +kernel, by decide +kernel, by decide +kernel, by decide +kernel, rfl, by decide +kernel, by decide +kernel, by decide +kernel⟩) rfl (pi_range1 rfl B.range (pa_cons (pe_callB call_len_seq rfl B.len bb_len (pa_cons (pv 2) pa_nil)) pa_nil)) (fun _ _ _ _ _ => (pg_name (i := 0) (show (["_law_k", "_law_vessel_here", "_law_root", "_law_ends_here", "_law_both", "_law_others", "_law_picks", "_law_heap_here", "_law_longer", "_law_some", "_law_found", "_law_goes", "#_law_k", "_law_weight"] : List Str).Nodup by decide +kernel) rfl (by first | exact Or.inl rfl | exact Or.inr rfl))) (fun _ _ _ _ _ => (pt_cmpR op_eq (pe_ix ix_tup (pe_ix ix_list (pv 3) (pv 0) (fun _ _ => rfl)) pe_int (fun _ _ => rfl)) (pv 7) (nomark _))) (fun _ _ _ _ _ => (pe_op op_cat (pv 9) (pe_lst (pa_cons (pv 0) pa_nil)))))))))
  (pss_one (ps_set (i := 5) nd rfl (by first | exact Or.inl rfl | exact Or.inr rfl) (pv 7))))))
  (pss_cons (ps_set (i := 9) nd rfl (by first | exact Or.inl rfl | exact Or.inr rfl) (pe_tup (pa_cons pe_int (pa_cons pe_int pa_nil))))
  (pss_cons (ps_for hpo rfl (pi_list (pv 5)) (pg_name (i := 8) nd rfl (by first | exact Or.inl rfl | exact Or.inr rfl))
  (pss_cons (ps_set (i := 10) nd rfl (by first | exact Or.inl rfl | exact Or.inr rfl) pe_dnewK)
  (pss_cons (ps_for hpo rfl (pi_list (pv 8)) (pg_name (i := 11) nd rfl (by first | exact Or.inl rfl | exact Or.inr rfl))
  (pss_one (ps_dput hu1 (pv 10) (pe_ix ix_tup (pe_ix ix_list (pv 2) (pv 11) (fun _ _ => rfl)) pe_int (fun _ _ => rfl)) (pe_ix ix_tup (pe_ix ix_list (pv 2) (pv 11) (fun _ _ => rfl)) pe_int (fun _ _ => rfl)) rfl)))
  (pss_one (ps_if (pt_val (pe_callF c_law_all_come hr rfl (pa_cons (pv 10) (pa_cons (pv 4) (pa_cons (pv 1) pa_nil)))))
  (pss_cons (ps_set (i := 12) nd rfl (by first | exact Or.inl rfl | exact Or.inr rfl) (pe_tup (pa_cons pe_int (pa_cons pe_int pa_nil))))
  (pss_cons (ps_for hpo rfl (pi_list (pv 8)) (pg_name (i := 11) nd rfl (by first | exact Or.inl rfl | exact Or.inr rfl))
  (pss_one (ps_set (i := 12) nd rfl (by first | exact Or.inl rfl | exact Or.inr rfl) (pe_callF c_law_times hr rfl (pa_cons (pv 12) (pa_cons (pe_ix ix_tup (pe_ix ix_tup (pe_ix ix_tup (pv 0) pe_int (fun _ _ => rfl)) (pv 11) (fun _ _ => rfl)) pe_int (fun _ _ => rfl)) pa_nil))))))
  (pss_one (ps_set (i := 9) nd rfl (by first | exact Or.inl rfl | exact Or.inr rfl) (pe_callF c_law_plus hr rfl (pa_cons (pv 9) (pa_cons (pv 12) pa_nil)))))))
  pss_nil)))))
  (pss_one (ps_ret (pv 9)))))))))), (rd_ltrees rfl h)⟩
theorem ok_law_all_come {nq oq : Addr} (G : Cn K mg nq oq) (F : FunAt K mg "_law_all_come" (top 42) ["_law_goes", "_law_others", "_law_root"]) (B : Blt mg)  : FnC P w K mg base CX0 1 "_law_all_come" ["_law_goes", "_law_others", "_law_root"] (spCome K) := by
  refine F.ok sc_law_all_come (fun vs H Q E h => len_come h) (fun f cdv A outer s H vs Q E hr h => ?_)
  have nd := sc_law_all_come.nd
  have hpo := fun {M A env} => @PassesOwn.never M A env
  have hu := hr.units
  have hu1 := Nat.lt_of_le_of_lt (Nat.add_le_add_left (by decide : 1 ≤ 64) _) hu
  have own : OwnFr (cxOf CX0 P w K mg base ["_law_goes", "_law_others", "_law_root", "_law_heap_here", "_law_here", "_law_step"] "_law_all_come" (defScope (top 42)) f cdv A outer s H E).nox := ⟨rfl, rfl, rfl⟩
  exact ⟨t_come K, (pss_cons (ps_for hpo rfl (pi_list (pv 1)) (pg_name (i := 3) nd rfl (by first | exact Or.inl rfl | exact Or.inr rfl))
  (pss_cons (ps_set (i := 4) nd rfl (by first | exact Or.inl rfl | exact Or.inr rfl) (pv 3))
  (pss_cons (ps_for hpo rfl (pi_range1 rfl B.range (pa_cons (pe_callB call_len_seq rfl B.len bb_len (pa_cons (pv 1) pa_nil)) pa_nil)) (pg_name (i := 5) nd rfl (by first | exact Or.inl rfl | exact Or.inr rfl))
  (pss_one (ps_if (pt_cmpR op_ne (pv 4) (pv 2) (nomark _))
  (pss_one (ps_set (i := 4) nd rfl (by first | exact Or.inl rfl | exact Or.inr rfl) (pe_dget hu1 (pv 0) (pv 4) (fun _ _ => rfl))))
  pss_nil)))
  (pss_one (ps_if (pt_cmpR op_ne (pv 4) (pv 2) (nomark _))
  (pss_one (ps_ret pe_bl))
  pss_nil)))))
  (pss_one (ps_ret pe_bl))), (rd_come rfl h)⟩
theorem ok_same0 (F : FunAt K mg "_law_same" (top 43) ["_law_found", "_law_due"]) (B : Blt mg) : FnC P w K mg base CX0 1 "_law_same" ["_law_found", "_law_due"] (spSame K 0) := by
  refine F.ok sc_law_same (fun vs H Q E h => len_same h) (fun f cdv A outer s H vs Q E hr h => ?_)
  have nd := sc_law_same.nd
  have hpo := fun {M A env} => @PassesOwn.never M A env
  have hu := hr.units
  exact ⟨t_same0 K, (pss_cons (ps_if (PW.pt (pw_or (pt_val (pe_callB call_isi rfl B.isinstance bb_isinstance (pa_cons (pv 1) (pa_cons (pe_bltn rfl B.tuple bb_tuple rfl) pa_nil)))) (pw_or1 (pt_val (pe_callB call_isi rfl B.isinstance bb_isinstance (pa_cons (pv 1) (pa_cons (pe_bltn rfl B.list bb_list rfl) pa_nil)))))))
  pss_never
  pss_nil)
  (pss_cons (ps_if (pt_val (pe_callB call_isi rfl B.isinstance bb_isinstance (pa_cons (pv 1) (pa_cons (pe_bltn rfl B.bool bb_bool rfl) pa_nil))))
  (pss_one (ps_ret (pe_and (pe_callB call_isi rfl B.isinstance bb_isinstance (pa_cons (pv 0) (pa_cons (pe_bltn rfl B.bool bb_bool rfl) pa_nil))) (pe_one (pe_cmpR op_eq (pv 0) (pv 1) (nomark _))))))
  pss_nil)
  (pss_cons (ps_if (pt_val (pe_callB call_isi rfl B.isinstance bb_isinstance (pa_cons (pv 1) (pa_cons (pe_bltn rfl B.int bb_int rfl) pa_nil))))
  (pss_one (ps_ret (pe_and (pe_callB call_isi rfl B.isinstance bb_isinstance (pa_cons (pv 0) (pa_cons (pe_bltn rfl B.int bb_int rfl) pa_nil))) (pe_and (pe_not (pe_callB call_isi rfl B.isinstance bb_isinstance (pa_cons (pv 0) (pa_cons (pe_bltn rfl B.bool bb_bool rfl) pa_nil)))) (pe_one (pe_cmpR op_eq (pv 0) (pv 1) (nomark _)))))))
  pss_nil)
  (pss_cons (ps_if (pt_val (pe_callB call_isi rfl B.isinstance bb_isinstance (pa_cons (pv 1) (pa_cons (pe_bltn rfl B.str bb_str rfl) pa_nil))))
  (pss_one (ps_ret (pe_and (pe_callB call_isi rfl B.isinstance bb_isinstance (pa_cons (pv 0) (pa_cons (pe_bltn rfl B.str bb_str rfl) pa_nil))) (pe_one (pe_cmpR op_eq (pv 0) (pv 1) (nomark _))))))
  pss_nil)
  (pss_one (ps_ret (pe_and (pe_cmpR op_isN (pv 1) pe_non (nomark _)) (pe_one (pe_cmpR op_isN (pv 0) pe_non (nomark _)))))))))), (rd_same0 rfl h)⟩
theorem ok_sm1 (F : FunAt K mg "_law_same" (top 43) ["_law_found", "_law_due"]) (B : Blt mg) (c_law_same : FnC P w K mg base CX0 1 "_law_same" ["_law_found", "_law_due"] (spSame K 0)) : FnC P w K mg base CX0 2 "_law_same" ["_law_found", "_law_due"] (spSm1 K) := by
  refine F.ok sc_law_same (fun vs H Q E h => len_sm1 h) (fun f cdv A outer s H vs Q E hr h => ?_)
  have nd := sc_law_same.nd
  have hpo := fun {M A env} => @PassesOwn.never M A env
  have hu := hr.units
  exact ⟨t_sm1 K, (pss_cons (ps_if (PW.pt (pw_or (pt_val (pe_callB call_isi rfl B.isinstance bb_isinstance (pa_cons (pv 1) (pa_cons (pe_bltn rfl B.tuple bb_tuple rfl) pa_nil)))) (pw_or1 (pt_val (pe_callB call_isi rfl B.isinstance bb_isinstance (pa_cons (pv 1) (pa_cons (pe_bltn rfl B.list bb_list rfl) pa_nil)))))))
  (pss_cons (ps_if (PW.pt (pw_or (pt_cmpR op_ne (pe_callB call_isiQ rfl B.isinstance bb_isinstance (pa_cons (pv 0) (pa_cons (pe_bltn rfl B.tuple bb_tuple rfl) pa_nil))) (pe_callB call_isi rfl B.isinstance bb_isinstance (pa_cons (pv 1) (pa_cons (pe_bltn rfl B.tuple bb_tuple rfl) pa_nil))) (nomark _)) (pw_or1 (pt_cmpR op_ne (pe_callB call_isiQ rfl B.isinstance bb_isinstance (pa_cons (pv 0) (pa_cons (pe_bltn rfl B.list bb_list rfl) pa_nil))) (pe_callB call_isi rfl B.isinstance bb_isinstance (pa_cons (pv 1) (pa_cons (pe_bltn rfl B.list bb_list rfl) pa_nil))) (nomark _)))))
  (pss_one (ps_ret pe_bl))
  pss_nil)
  (pss_cons (ps_if (pt_cmpR op_ne (pe_callB call_len_seq rfl B.len bb_len (pa_cons (pv 0) pa_nil)) (pe_callB call_len_seq rfl B.len bb_len (pa_cons (pv 1) pa_nil)) (nomark _))
  (pss_one (ps_ret pe_bl))
  pss_nil)
  (pss_cons (ps_for hpo rfl (pi_range1 rfl B.range (pa_cons (pe_callB call_len_seq rfl B.len bb_len (pa_cons (pv 1) pa_nil)) pa_nil)) (pg_name (i := 2) nd rfl (by first | exact Or.inl rfl | exact Or.inr rfl))
  (pss_one (ps_if (pt_not (pt_val (pe_callF c_law_same hr rfl (pa_cons (pe_ix ix_seq (pv 0) (pv 2) (fun _ _ => rfl)) (pa_cons (pe_ix ix_seq (pv 1) (pv 2) (fun _ _ => rfl)) pa_nil)))))
  (pss_one (ps_ret pe_bl))
  pss_nil)))
  (pss_one (ps_ret pe_bl)))))
  pss_nil)
  (pss_cons (ps_if (pt_val (pe_callB call_isi rfl B.isinstance bb_isinstance (pa_cons (pv 1) (pa_cons (pe_bltn rfl B.bool bb_bool rfl) pa_nil))))
  (pss_one (ps_ret (pe_and (pe_callB call_isi rfl B.isinstance bb_isinstance (pa_cons (pv 0) (pa_cons (pe_bltn rfl B.bool bb_bool rfl) pa_nil))) (pe_one (pe_cmpR op_eq (pv 0) (pv 1) (nomark _))))))
  pss_nil)
  (pss_cons (ps_if (pt_val (pe_callB call_isi rfl B.isinstance bb_isinstance (pa_cons (pv 1) (pa_cons (pe_bltn rfl B.int bb_int rfl) pa_nil))))
  (pss_one (ps_ret (pe_and (pe_callB call_isi rfl B.isinstance bb_isinstance (pa_cons (pv 0) (pa_cons (pe_bltn rfl B.int bb_int rfl) pa_nil))) (pe_and (pe_not (pe_callB call_isi rfl B.isinstance bb_isinstance (pa_cons (pv 0) (pa_cons (pe_bltn rfl B.bool bb_bool rfl) pa_nil)))) (pe_one (pe_cmpR op_eq (pv 0) (pv 1) (nomark _)))))))
  pss_nil)
  (pss_cons (ps_if (pt_val (pe_callB call_isi rfl B.isinstance bb_isinstance (pa_cons (pv 1) (pa_cons (pe_bltn rfl B.str bb_str rfl) pa_nil))))
  (pss_one (ps_ret (pe_and (pe_callB call_isi rfl B.isinstance bb_isinstance (pa_cons (pv 0) (pa_cons (pe_bltn rfl B.str bb_str rfl) pa_nil))) (pe_one (pe_cmpR op_eq (pv 0) (pv 1) (nomark _))))))
  pss_nil)
  (pss_one (ps_ret (pe_and (pe_cmpR op_isN (pv 1) pe_non (nomark _)) (pe_one (pe_cmpR op_isN (pv 0) pe_non (nomark _)))))))))), (rd_sm1 rfl h)⟩
theorem ok_sm2 (F : FunAt K mg "_law_same" (top 43) ["_law_found", "_law_due"]) (B : Blt mg) (c_law_same : FnC P w K mg base CX0 2 "_law_same" ["_law_found", "_law_due"] (spSm1 K)) : FnC P w K mg base CX0 3 "_law_same" ["_law_found", "_law_due"] (spSm2 K) := by
  refine F.ok sc_law_same (fun vs H Q E h => len_sm2 h) (fun f cdv A outer s H vs Q E hr h => ?_)
  have nd := sc_law_same.nd
  have hpo := fun {M A env} => @PassesOwn.never M A env
  have hu := hr.units
  exact ⟨t_sm2 K, (pss_cons (ps_if (PW.pt (pw_or (pt_val (pe_callB call_isi rfl B.isinstance bb_isinstance (pa_cons (pv 1) (pa_cons (pe_bltn rfl B.tuple bb_tuple rfl) pa_nil)))) (pw_or1 (pt_val (pe_callB call_isi rfl B.isinstance bb_isinstance (pa_cons (pv 1) (pa_cons (pe_bltn rfl B.list bb_list rfl) pa_nil)))))))
  (pss_cons (ps_if (PW.pt (pw_or (pt_cmpR op_ne (pe_callB call_isi rfl B.isinstance bb_isinstance (pa_cons (pv 0) (pa_cons (pe_bltn rfl B.tuple bb_tuple rfl) pa_nil))) (pe_callB call_isi rfl B.isinstance bb_isinstance (pa_cons (pv 1) (pa_cons (pe_bltn rfl B.tuple bb_tuple rfl) pa_nil))) (nomark _)) (pw_or1 (pt_cmpR op_ne (pe_callB call_isi rfl B.isinstance bb_isinstance (pa_cons (pv 0) (pa_cons (pe_bltn rfl B.list bb_list rfl) pa_nil))) (pe_callB call_isi rfl B.isinstance bb_isinstance (pa_cons (pv 1) (pa_cons (pe_bltn rfl B.list bb_list rfl) pa_nil))) (nomark _)))))
  (pss_one (ps_ret pe_bl))
  pss_nil)
  (pss_cons (ps_if (pt_cmpR op_ne (pe_callB call_len_seq rfl B.len bb_len (pa_cons (pv 0) pa_nil)) (pe_callB call_len_seq rfl B.len bb_len (pa_cons (pv 1) pa_nil)) (nomark _))
  (pss_one (ps_ret pe_bl))
  pss_nil)
  (pss_cons (ps_for hpo rfl (pi_range1 rfl B.range (pa_cons (pe_callB call_len_seq rfl B.len bb_len (pa_cons (pv 1) pa_nil)) pa_nil)) (pg_name (i := 2) nd rfl (by first | exact Or.inl rfl | exact Or.inr rfl))
  (pss_one (ps_if (pt_not (pt_val (pe_callF c_law_same hr rfl (pa_cons (pe_ix ix_seq (pv 0) (pv 2) (fun _ _ => rfl)) (pa_cons (pe_ix ix_seq (pv 1) (pv 2) (fun _ _ => rfl)) pa_nil)))))
  (pss_one (ps_ret pe_bl))
  pss_nil)))
  (pss_one (ps_ret pe_bl)))))
  pss_nil)
  (pss_cons (ps_if (pt_val (pe_callB call_isi rfl B.isinstance bb_isinstance (pa_cons (pv 1) (pa_cons (pe_bltn rfl B.bool bb_bool rfl) pa_nil))))
  (pss_one (ps_ret (pe_and (pe_callB call_isi rfl B.isinstance bb_isinstance (pa_cons (pv 0) (pa_cons (pe_bltn rfl B.bool bb_bool rfl) pa_nil))) (pe_one (pe_cmpR op_eq (pv 0) (pv 1) (nomark _))))))
  pss_nil)
  (pss_cons (ps_if (pt_val (pe_callB call_isi rfl B.isinstance bb_isinstance (pa_cons (pv 1) (pa_cons (pe_bltn rfl B.int bb_int rfl) pa_nil))))
  (pss_one (ps_ret (pe_and (pe_callB call_isi rfl B.isinstance bb_isinstance (pa_cons (pv 0) (pa_cons (pe_bltn rfl B.int bb_int rfl) pa_nil))) (pe_and (pe_not (pe_callB call_isi rfl B.isinstance bb_isinstance (pa_cons (pv 0) (pa_cons (pe_bltn rfl B.bool bb_bool rfl) pa_nil)))) (pe_one (pe_cmpR op_eq (pv 0) (pv 1) (nomark _)))))))
  pss_nil)
  (pss_cons (ps_if (pt_val (pe_callB call_isi rfl B.isinstance bb_isinstance (pa_cons (pv 1) (pa_cons (pe_bltn rfl B.str bb_str rfl) pa_nil))))
  (pss_one (ps_ret (pe_and (pe_callB call_isi rfl B.isinstance bb_isinstance (pa_cons (pv 0) (pa_cons (pe_bltn rfl B.str bb_str rfl) pa_nil))) (pe_one (pe_cmpR op_eq (pv 0) (pv 1) (nomark _))))))
  pss_nil)
  (pss_one (ps_ret (pe_and (pe_cmpR op_isN (pv 1) pe_non (nomark _)) (pe_one (pe_cmpR op_isN (pv 0) pe_non (nomark _)))))))))), (rd_sm2 rfl h)⟩
theorem ok_law {nq oq : Addr} (G : Cn K mg nq oq) {f : Addr} {fd : FuncData} (F : Fun K "law" "law" (top 44) f fd) (B : Blt mg) (c_law_vessel : FnC P w K mg base CX0 6 "_law_vessel" ["_law_script", "_law_at"] (spVes2 K)) (c_tree_weights : FnC P w K mg base CX0 6 "tree_weights" ["vessel"] (spTrees K)) (c_law_same : FnC P w K mg base CX0 6 "_law_same" ["_law_found", "_law_due"] (spSm2 K)) (c_law_trees : FnC P w K mg base CX0 6 "_law_trees" ["_law_vessel_here", "_law_root"] (spLTrees K)) (c_law_heaps : FnC P w K mg base CX0 6 "_law_heaps" ["_law_vessel_here"] (spHeaps K)) : FnOk P w K mg base CX0 7 f fd ["_law_script"] (spLaw K) := by
  refine F.ok sc_law (fun vs H Q E h => ?_) (fun cdv A outer s H vs Q E hr h => ?_)
  · obtain ⟨a, ns, rfl, _⟩ := h
    rfl
  have nd := sc_law.nd
  have hpo := fun {M A env} => @PassesOwn.never M A env
  have hu := hr.units
  have hu1 := Nat.lt_of_le_of_lt (Nat.add_le_add_left (by decide : 1 ≤ 64) _) hu
  exact ⟨t_law K, (pss_cons (ps_set (i := 1) nd rfl (by first | exact Or.inl rfl | exact Or.inr rfl) (pe_callF c_law_vessel hr rfl (pa_cons (pv 0) (pa_cons pe_int pa_nil))))
  (pss_cons (ps_lc (M := ["_law_script", "_law_vessel_here", "_law_due", "_law_found"]) (i := 2) nd rfl rfl (by show CompS (defScope (top 44)) ["_law_script", "_law_vessel_here", "_law_due", "_law_found"] ["_law_script", "_law_vessel_here", "_law_due", "_law_found"] _ _; exact ⟨rfl, by decide +kernel, by decide +kernel, by decide +kernel, by decide +kernel, rfl, by decide +kernel, by decide +kernel, by decide +kernel⟩) rfl (pi_range1 rfl B.range (pa_cons (pe_callB call_len_seq rfl B.len bb_len (pa_cons (pe_callF c_law_heaps hr rfl (pa_cons (pv 1) pa_nil)) pa_nil)) pa_nil)) (fun _ _ _ _ _ => (pe_callF c_law_trees hr rfl (pa_cons (pv 2) (pa_cons (pv 0) pa_nil)))))
  (pss_cons (ps_set (i := 3) nd rfl (by first | exact Or.inl rfl | exact Or.inr rfl) (pe_callF c_tree_weights hr rfl (pa_cons (pv 1) pa_nil)))
  (pss_cons (ps_if (pt_not (pt_val (pe_callF c_law_same hr rfl (pa_cons (pv 3) (pa_cons (pv 2) pa_nil)))))
  (pss_one (ps_ret pe_bl))
  pss_nil)
  (pss_cons (ps_expr (pe_bm0 PySem.F.plainAttrs_list PySem.F.slot_list_clear PySem.F.type_list_clear mt_clear (pv 3)))
  (pss_one (ps_ret (pe_callF c_law_same hr rfl (pa_cons (pe_callF c_tree_weights hr rfl (pa_cons (pv 1) pa_nil)) (pa_cons (pv 2) pa_nil)))))))))), (rd_law h)⟩
end
section
variable {P : Program} {w : World} {K : PySem.W.Frag} {mg : Str → Option Value} {base : Heap}
theorem ok_all {nq oq : Addr} (G : Cn K mg nq oq) {f : Addr} {fd : FuncData} (F : Fun K "law" "law" (top 44) f fd) (B : Blt mg) (F0 : FunAt K mg "whole" (top 4) ["value"]) (F1 : FunAt K mg "greatest_divisor" (top 5) ["one", "two"]) (F2 : FunAt K mg "fraction" (top 6) ["top", "bottom"]) (F3 : FunAt K mg "plus" (top 7) ["one", "two"]) (F4 : FunAt K mg "times" (top 8) ["one", "two"]) (F5 : FunAt K mg "heaps_of" (top 11) ["turnings"]) (F6 : FunAt K mg "heaps" (top 12) ["vessel"]) (F7 : FunAt K mg "heap_numbers" (top 14) ["vessel"]) (F8 : FunAt K mg "places_of" (top 15) ["things", "thing"]) (F9 : FunAt K mg "lots" (top 16) ["vessel"]) (F10 : FunAt K mg "turnings_from" (top 19) ["ends", "heap"]) (F11 : FunAt K mg "picks" (top 20) ["ends", "some"]) (F12 : FunAt K mg "is_tree" (top 21) ["ends", "pick", "heap"]) (F13 : FunAt K mg "pace_product" (top 22) ["turnings", "pick"]) (F14 : FunAt K mg "tree_weight" (top 23) ["turnings", "ends", "lot", "heap"]) (F15 : FunAt K mg "tree_weights" (top 24) ["vessel"]) (F16 : FunAt K mg "_law_cell_at" (top 26) ["_law_script", "_law_k"]) (F17 : FunAt K mg "_law_mixed" (top 27) ["_law_cell", "_law_place"]) (F18 : FunAt K mg "_law_divisor" (top 28) ["_law_one", "_law_two"]) (F19 : FunAt K mg "_law_lowest" (top 29) ["_law_top", "_law_bottom"]) (F20 : FunAt K mg "_law_words" (top 30) ["_law_number", "_law_many"]) (F21 : FunAt K mg "_law_heap" (top 31) ["_law_cell", "_law_k", "_law_many", "_law_top", "_law_plain"]) (F22 : FunAt K mg "_law_pool" (top 32) ["_law_script", "_law_at", "_law_many", "_law_size", "_law_top", "_law_plain"]) (F23 : FunAt K mg "_law_pairs" (top 33) ["_law_script", "_law_at", "_law_size", "_law_kind", "_law_plain"]) (F24 : FunAt K mg "_law_pace" (top 34) ["_law_cell", "_law_kind"]) (F25 : FunAt K mg "_law_vessel" (top 35) ["_law_script", "_law_at"]) (F26 : FunAt K mg "_law_heaps" (top 36) ["_law_vessel_here"]) (F27 : FunAt K mg "_law_ends" (top 37) ["_law_vessel_here"]) (F28 : FunAt K mg "_law_reach" (top 38) ["_law_ends_here", "_law_one"]) (F29 : FunAt K mg "_law_plus" (top 39) ["_law_one", "_law_two"]) (F30 : FunAt K mg "_law_times" (top 40) ["_law_one", "_law_two"]) (F31 : FunAt K mg "_law_trees" (top 41) ["_law_vessel_here", "_law_root"]) (F32 : FunAt K mg "_law_all_come" (top 42) ["_law_goes", "_law_others", "_law_root"]) (F33 : FunAt K mg "_law_same" (top 43) ["_law_found", "_law_due"]) : FnOk P w K mg base CX0 7 f fd ["_law_script"] (spLaw K) := by
  have c_whole := ok_whole (P := P) (w := w) (base := base) G F0 B 
  have c_greatest_divisor := ok_greatest_divisor (P := P) (w := w) (base := base) G F1 B 
  have c_heaps_of := ok_heaps_of (P := P) (w := w) (base := base) G F5 B 
  have c_places_of := ok_places_of (P := P) (w := w) (base := base) G F8 B 
  have c_turnings_from := ok_turnings_from (P := P) (w := w) (base := base) G F10 B 
  have c_is_tree := ok_is_tree (P := P) (w := w) (base := base) G F12 B 
  have c_law_cell_at := ok_law_cell_at (P := P) (w := w) (base := base) G F16 B 
  have c_law_mixed := ok_law_mixed (P := P) (w := w) (base := base) G F17 B 
  have c_law_divisor := ok_law_divisor (P := P) (w := w) (base := base) G F18 B 
  have c_law_words := ok_law_words (P := P) (w := w) (base := base) G F20 B 
  have c_law_heaps := ok_law_heaps (P := P) (w := w) (base := base) G F26 B 
  have c_law_reach := ok_law_reach (P := P) (w := w) (base := base) G F28 B 
  have c_law_all_come := ok_law_all_come (P := P) (w := w) (base := base) G F32 B 
  have c_fraction := ok_fraction (P := P) (w := w) (base := base) G F2 B (c_greatest_divisor.mono (by decide : 1 ≤ 1)) (c_whole.mono (by decide : 1 ≤ 1))
  have c_heaps := ok_heaps (P := P) (w := w) (base := base) G F6 B (c_heaps_of.mono (by decide : 1 ≤ 1))
  have c_picks := ok_picks (P := P) (w := w) (base := base) G F11 B (c_turnings_from.mono (by decide : 1 ≤ 1))
  have c_law_lowest := ok_law_lowest (P := P) (w := w) (base := base) G F19 B (c_law_divisor.mono (by decide : 1 ≤ 1))
  have c_law_heap := ok_law_heap (P := P) (w := w) (base := base) G F21 B (c_law_mixed.mono (by decide : 1 ≤ 1))
  have c_law_pairs := ok_law_pairs (P := P) (w := w) (base := base) G F23 B (c_law_cell_at.mono (by decide : 1 ≤ 1)) (c_law_mixed.mono (by decide : 1 ≤ 1))
  have c_law_ends := ok_law_ends (P := P) (w := w) (base := base) G F27 B (c_law_heaps.mono (by decide : 1 ≤ 1))
  have c_plus := ok_plus (P := P) (w := w) (base := base) G F3 B (c_fraction.mono (by decide : 2 ≤ 2))
  have c_times := ok_times (P := P) (w := w) (base := base) G F4 B (c_fraction.mono (by decide : 2 ≤ 2))
  have c_heap_numbers := ok_heap_numbers (P := P) (w := w) (base := base) G F7 B (c_heaps.mono (by decide : 2 ≤ 2))
  have c_law_pool := ok_law_pool (P := P) (w := w) (base := base) G F22 B (c_law_heap.mono (by decide : 2 ≤ 2)) (c_law_cell_at.mono (by decide : 1 ≤ 2))
  have c_law_pace := ok_law_pace (P := P) (w := w) (base := base) G F24 B (c_law_lowest.mono (by decide : 2 ≤ 2))
  have c_law_plus := ok_law_plus (P := P) (w := w) (base := base) G F29 B (c_law_lowest.mono (by decide : 2 ≤ 2))
  have c_law_times := ok_law_times (P := P) (w := w) (base := base) G F30 B (c_law_lowest.mono (by decide : 2 ≤ 2))
  have c_law_same := ok_sm2 (P := P) (w := w) (base := base) F33 B (ok_sm1 F33 B (ok_same0 F33 B))
  have c_lots := ok_lots (P := P) (w := w) (base := base) G F9 B (c_heap_numbers.mono (by decide : 3 ≤ 3)) (c_places_of.mono (by decide : 1 ≤ 3)) (c_heaps.mono (by decide : 2 ≤ 3))
  have c_pace_product := ok_pace_product (P := P) (w := w) (base := base) G F13 B (c_times.mono (by decide : 3 ≤ 3))
  have c_law_vessel := ok_law_vessel (P := P) (w := w) (base := base) G F25 B (c_law_mixed.mono (by decide : 1 ≤ 3)) (c_law_pool.mono (by decide : 3 ≤ 3)) (c_law_pairs.mono (by decide : 2 ≤ 3)) (c_law_cell_at.mono (by decide : 1 ≤ 3)) (c_law_words.mono (by decide : 1 ≤ 3)) (c_law_pace.mono (by decide : 3 ≤ 3))
  have c_law_trees := ok_law_trees (P := P) (w := w) (base := base) G F31 B (c_law_ends.mono (by decide : 2 ≤ 3)) (c_law_all_come.mono (by decide : 1 ≤ 3)) (c_law_reach.mono (by decide : 1 ≤ 3)) (c_law_plus.mono (by decide : 3 ≤ 3)) (c_law_times.mono (by decide : 3 ≤ 3))
  have c_tree_weight := ok_tree_weight (P := P) (w := w) (base := base) G F14 B (c_picks.mono (by decide : 2 ≤ 4)) (c_is_tree.mono (by decide : 1 ≤ 4)) (c_plus.mono (by decide : 3 ≤ 4)) (c_pace_product.mono (by decide : 4 ≤ 4))
  have c_tree_weights := ok_tree_weights (P := P) (w := w) (base := base) G F15 B (c_heap_numbers.mono (by decide : 3 ≤ 5)) (c_lots.mono (by decide : 4 ≤ 5)) (c_tree_weight.mono (by decide : 5 ≤ 5))
  exact ok_law (P := P) (w := w) (base := base) G F B (c_law_vessel.mono (by decide : 4 ≤ 6)) (c_tree_weights.mono (by decide : 6 ≤ 6)) (c_law_same.mono (by decide : 3 ≤ 6)) (c_law_trees.mono (by decide : 4 ≤ 6)) (c_law_heaps.mono (by decide : 1 ≤ 6))
end
theorem bd1 {G : Value → Value → Value → Option Addr → Value → Value → FuncData} {ps : List Str} (e : ps.length = 1) (h : ∀ (a b c : Value) (d : Option Addr) (x y u0 : Value), bindArgs (G a b c d x y) ⟨[u0], []⟩ = pure (ps.zip [u0])) (a b c : Value) (d : Option Addr) (x y : Value) (us : List Value) (hl : us.length = ps.length) : bindArgs (G a b c d x y) ⟨us, []⟩ = pure (ps.zip us) := by
  have e0 : us.length = 1 := hl.trans e; obtain ⟨u0, us, rfl⟩ := List.exists_cons_of_length_eq_add_one e0; cases List.eq_nil_of_length_eq_zero (Nat.succ.inj e0); exact h a b c d x y u0
theorem bd2 {G : Value → Value → Value → Option Addr → Value → Value → FuncData} {ps : List Str} (e : ps.length = 2) (h : ∀ (a b c : Value) (d : Option Addr) (x y u0 u1 : Value), bindArgs (G a b c d x y) ⟨[u0, u1], []⟩ = pure (ps.zip [u0, u1])) (a b c : Value) (d : Option Addr) (x y : Value) (us : List Value) (hl : us.length = ps.length) : bindArgs (G a b c d x y) ⟨us, []⟩ = pure (ps.zip us) := by
  have e0 : us.length = 2 := hl.trans e; obtain ⟨u0, us, rfl⟩ := List.exists_cons_of_length_eq_add_one e0; have e1 : us.length = 1 := Nat.succ.inj e0; obtain ⟨u1, us, rfl⟩ := List.exists_cons_of_length_eq_add_one e1; cases List.eq_nil_of_length_eq_zero (Nat.succ.inj e1); exact h a b c d x y u0 u1
theorem bd3 {G : Value → Value → Value → Option Addr → Value → Value → FuncData} {ps : List Str} (e : ps.length = 3) (h : ∀ (a b c : Value) (d : Option Addr) (x y u0 u1 u2 : Value), bindArgs (G a b c d x y) ⟨[u0, u1, u2], []⟩ = pure (ps.zip [u0, u1, u2])) (a b c : Value) (d : Option Addr) (x y : Value) (us : List Value) (hl : us.length = ps.length) : bindArgs (G a b c d x y) ⟨us, []⟩ = pure (ps.zip us) := by
  have e0 : us.length = 3 := hl.trans e; obtain ⟨u0, us, rfl⟩ := List.exists_cons_of_length_eq_add_one e0; have e1 : us.length = 2 := Nat.succ.inj e0; obtain ⟨u1, us, rfl⟩ := List.exists_cons_of_length_eq_add_one e1; have e2 : us.length = 1 := Nat.succ.inj e1; obtain ⟨u2, us, rfl⟩ := List.exists_cons_of_length_eq_add_one e2; cases List.eq_nil_of_length_eq_zero (Nat.succ.inj e2); exact h a b c d x y u0 u1 u2
theorem bd4 {G : Value → Value → Value → Option Addr → Value → Value → FuncData} {ps : List Str} (e : ps.length = 4) (h : ∀ (a b c : Value) (d : Option Addr) (x y u0 u1 u2 u3 : Value), bindArgs (G a b c d x y) ⟨[u0, u1, u2, u3], []⟩ = pure (ps.zip [u0, u1, u2, u3])) (a b c : Value) (d : Option Addr) (x y : Value) (us : List Value) (hl : us.length = ps.length) : bindArgs (G a b c d x y) ⟨us, []⟩ = pure (ps.zip us) := by
  have e0 : us.length = 4 := hl.trans e; obtain ⟨u0, us, rfl⟩ := List.exists_cons_of_length_eq_add_one e0; have e1 : us.length = 3 := Nat.succ.inj e0; obtain ⟨u1, us, rfl⟩ := List.exists_cons_of_length_eq_add_one e1; have e2 : us.length = 2 := Nat.succ.inj e1; obtain ⟨u2, us, rfl⟩ := List.exists_cons_of_length_eq_add_one e2; have e3 : us.length = 1 := Nat.succ.inj e2; obtain ⟨u3, us, rfl⟩ := List.exists_cons_of_length_eq_add_one e3; cases List.eq_nil_of_length_eq_zero (Nat.succ.inj e3); exact h a b c d x y u0 u1 u2 u3
theorem bd5 {G : Value → Value → Value → Option Addr → Value → Value → FuncData} {ps : List Str} (e : ps.length = 5) (h : ∀ (a b c : Value) (d : Option Addr) (x y u0 u1 u2 u3 u4 : Value), bindArgs (G a b c d x y) ⟨[u0, u1, u2, u3, u4], []⟩ = pure (ps.zip [u0, u1, u2, u3, u4])) (a b c : Value) (d : Option Addr) (x y : Value) (us : List Value) (hl : us.length = ps.length) : bindArgs (G a b c d x y) ⟨us, []⟩ = pure (ps.zip us) := by
  have e0 : us.length = 5 := hl.trans e; obtain ⟨u0, us, rfl⟩ := List.exists_cons_of_length_eq_add_one e0; have e1 : us.length = 4 := Nat.succ.inj e0; obtain ⟨u1, us, rfl⟩ := List.exists_cons_of_length_eq_add_one e1; have e2 : us.length = 3 := Nat.succ.inj e1; obtain ⟨u2, us, rfl⟩ := List.exists_cons_of_length_eq_add_one e2; have e3 : us.length = 2 := Nat.succ.inj e2; obtain ⟨u3, us, rfl⟩ := List.exists_cons_of_length_eq_add_one e3; have e4 : us.length = 1 := Nat.succ.inj e3; obtain ⟨u4, us, rfl⟩ := List.exists_cons_of_length_eq_add_one e4; cases List.eq_nil_of_length_eq_zero (Nat.succ.inj e4); exact h a b c d x y u0 u1 u2 u3 u4
theorem bd6 {G : Value → Value → Value → Option Addr → Value → Value → FuncData} {ps : List Str} (e : ps.length = 6) (h : ∀ (a b c : Value) (d : Option Addr) (x y u0 u1 u2 u3 u4 u5 : Value), bindArgs (G a b c d x y) ⟨[u0, u1, u2, u3, u4, u5], []⟩ = pure (ps.zip [u0, u1, u2, u3, u4, u5])) (a b c : Value) (d : Option Addr) (x y : Value) (us : List Value) (hl : us.length = ps.length) : bindArgs (G a b c d x y) ⟨us, []⟩ = pure (ps.zip us) := by
  have e0 : us.length = 6 := hl.trans e; obtain ⟨u0, us, rfl⟩ := List.exists_cons_of_length_eq_add_one e0; have e1 : us.length = 5 := Nat.succ.inj e0; obtain ⟨u1, us, rfl⟩ := List.exists_cons_of_length_eq_add_one e1; have e2 : us.length = 4 := Nat.succ.inj e1; obtain ⟨u2, us, rfl⟩ := List.exists_cons_of_length_eq_add_one e2; have e3 : us.length = 3 := Nat.succ.inj e2; obtain ⟨u3, us, rfl⟩ := List.exists_cons_of_length_eq_add_one e3; have e4 : us.length = 2 := Nat.succ.inj e3; obtain ⟨u4, us, rfl⟩ := List.exists_cons_of_length_eq_add_one e4; have e5 : us.length = 1 := Nat.succ.inj e4; obtain ⟨u5, us, rfl⟩ := List.exists_cons_of_length_eq_add_one e5; cases List.eq_nil_of_length_eq_zero (Nat.succ.inj e5); exact h a b c d x y u0 u1 u2 u3 u4 u5
theorem all_mk {l : PySem.W.OpenLaw} {w : World} {K : PySem.W.Frag} {h : Heap} {mg : Str → Option Value} {fa f0 f1 f2 f3 f4 f5 f6 f7 f8 f9 f10 f11 f12 f13 f14 f15 f16 f17 f18 f19 f20 f21 f22 f23 f24 f25 f26 f27 f28 f29 f30 f31 f32 f33 f34 : Addr} (X : K.In h) (G : h.Ns mainGlobals mg) (hfa : mg "law" = some (.ref fa))
    {od0 an0 od1 an1 od2 an2 od3 an3 od4 an4 od5 an5 od6 an6 od7 an7 od8 an8 od9 an9 od10 an10 od11 an11 od12 an12 od13 an13 od14 an14 od15 an15 od16 an16 od17 an17 od18 an18 od19 an19 od20 an20 od21 an21 od22 an22 od23 an23 od24 an24 od25 an25 od26 an26 od27 an27 od28 an28 od29 an29 od30 an30 od31 an31 od32 an32 od33 an33 od34 an34 : Option Addr} {sl0 sl1 sl2 sl3 sl4 sl5 sl6 sl7 sl8 sl9 sl10 sl11 sl12 sl13 sl14 sl15 sl16 sl17 sl18 sl19 sl20 sl21 sl22 sl23 sl24 sl25 sl26 sl27 sl28 sl29 sl30 sl31 sl32 sl33 sl34 : Array (Option Value)} {oc0 kV0 dc0 pm0 cd0 ct0 oc1 kV1 dc1 pm1 cd1 ct1 oc2 kV2 dc2 pm2 cd2 ct2 oc3 kV3 dc3 pm3 cd3 ct3 oc4 kV4 dc4 pm4 cd4 ct4 oc5 kV5 dc5 pm5 cd5 ct5 oc6 kV6 dc6 pm6 cd6 ct6 oc7 kV7 dc7 pm7 cd7 ct7 oc8 kV8 dc8 pm8 cd8 ct8 oc9 kV9 dc9 pm9 cd9 ct9 oc10 kV10 dc10 pm10 cd10 ct10 oc11 kV11 dc11 pm11 cd11 ct11 oc12 kV12 dc12 pm12 cd12 ct12 oc13 kV13 dc13 pm13 cd13 ct13 oc14 kV14 dc14 pm14 cd14 ct14 oc15 kV15 dc15 pm15 cd15 ct15 oc16 kV16 dc16 pm16 cd16 ct16 oc17 kV17 dc17 pm17 cd17 ct17 oc18 kV18 dc18 pm18 cd18 ct18 oc19 kV19 dc19 pm19 cd19 ct19 oc20 kV20 dc20 pm20 cd20 ct20 oc21 kV21 dc21 pm21 cd21 ct21 oc22 kV22 dc22 pm22 cd22 ct22 oc23 kV23 dc23 pm23 cd23 ct23 oc24 kV24 dc24 pm24 cd24 ct24 oc25 kV25 dc25 pm25 cd25 ct25 oc26 kV26 dc26 pm26 cd26 ct26 oc27 kV27 dc27 pm27 cd27 ct27 oc28 kV28 dc28 pm28 cd28 ct28 oc29 kV29 dc29 pm29 cd29 ct29 oc30 kV30 dc30 pm30 cd30 ct30 oc31 kV31 dc31 pm31 cd31 ct31 oc32 kV32 dc32 pm32 cd32 ct32 oc33 kV33 dc33 pm33 cd33 ct33 oc34 kV34 dc34 pm34 cd34 ct34 : Value}
    (a0 : PySem.W.nsIn K mainGlobals "whole" = some (some (.ref f0))) (l0 : K.lookup f0 = some ⟨oc0, od0, .func (PySem.W.fnOf "whole" "whole" (defArgs (top 4)) (defBody (top 4)) (defScope (top 4)) .none kV0 dc0 pm0 an0 cd0 ct0), sl0⟩) (c0 : PySem.W.codeIn K cd0 "whole" = true) (k0 : PySem.W.keepIn K (.ref f0) = true)
    (a1 : PySem.W.nsIn K mainGlobals "greatest_divisor" = some (some (.ref f1))) (l1 : K.lookup f1 = some ⟨oc1, od1, .func (PySem.W.fnOf "greatest_divisor" "greatest_divisor" (defArgs (top 5)) (defBody (top 5)) (defScope (top 5)) .none kV1 dc1 pm1 an1 cd1 ct1), sl1⟩) (c1 : PySem.W.codeIn K cd1 "greatest_divisor" = true) (k1 : PySem.W.keepIn K (.ref f1) = true)
    (a2 : PySem.W.nsIn K mainGlobals "fraction" = some (some (.ref f2))) (l2 : K.lookup f2 = some ⟨oc2, od2, .func (PySem.W.fnOf "fraction" "fraction" (defArgs (top 6)) (defBody (top 6)) (defScope (top 6)) .none kV2 dc2 pm2 an2 cd2 ct2), sl2⟩) (c2 : PySem.W.codeIn K cd2 "fraction" = true) (k2 : PySem.W.keepIn K (.ref f2) = true)
    (a3 : PySem.W.nsIn K mainGlobals "plus" = some (some (.ref f3))) (l3 : K.lookup f3 = some ⟨oc3, od3, .func (PySem.W.fnOf "plus" "plus" (defArgs (top 7)) (defBody (top 7)) (defScope (top 7)) .none kV3 dc3 pm3 an3 cd3 ct3), sl3⟩) (c3 : PySem.W.codeIn K cd3 "plus" = true) (k3 : PySem.W.keepIn K (.ref f3) = true)
    (a4 : PySem.W.nsIn K mainGlobals "times" = some (some (.ref f4))) (l4 : K.lookup f4 = some ⟨oc4, od4, .func (PySem.W.fnOf "times" "times" (defArgs (top 8)) (defBody (top 8)) (defScope (top 8)) .none kV4 dc4 pm4 an4 cd4 ct4), sl4⟩) (c4 : PySem.W.codeIn K cd4 "times" = true) (k4 : PySem.W.keepIn K (.ref f4) = true)
    (a5 : PySem.W.nsIn K mainGlobals "heaps_of" = some (some (.ref f5))) (l5 : K.lookup f5 = some ⟨oc5, od5, .func (PySem.W.fnOf "heaps_of" "heaps_of" (defArgs (top 11)) (defBody (top 11)) (defScope (top 11)) .none kV5 dc5 pm5 an5 cd5 ct5), sl5⟩) (c5 : PySem.W.codeIn K cd5 "heaps_of" = true) (k5 : PySem.W.keepIn K (.ref f5) = true)
    (a6 : PySem.W.nsIn K mainGlobals "heaps" = some (some (.ref f6))) (l6 : K.lookup f6 = some ⟨oc6, od6, .func (PySem.W.fnOf "heaps" "heaps" (defArgs (top 12)) (defBody (top 12)) (defScope (top 12)) .none kV6 dc6 pm6 an6 cd6 ct6), sl6⟩) (c6 : PySem.W.codeIn K cd6 "heaps" = true) (k6 : PySem.W.keepIn K (.ref f6) = true)
    (a7 : PySem.W.nsIn K mainGlobals "heap_numbers" = some (some (.ref f7))) (l7 : K.lookup f7 = some ⟨oc7, od7, .func (PySem.W.fnOf "heap_numbers" "heap_numbers" (defArgs (top 14)) (defBody (top 14)) (defScope (top 14)) .none kV7 dc7 pm7 an7 cd7 ct7), sl7⟩) (c7 : PySem.W.codeIn K cd7 "heap_numbers" = true) (k7 : PySem.W.keepIn K (.ref f7) = true)
    (a8 : PySem.W.nsIn K mainGlobals "places_of" = some (some (.ref f8))) (l8 : K.lookup f8 = some ⟨oc8, od8, .func (PySem.W.fnOf "places_of" "places_of" (defArgs (top 15)) (defBody (top 15)) (defScope (top 15)) .none kV8 dc8 pm8 an8 cd8 ct8), sl8⟩) (c8 : PySem.W.codeIn K cd8 "places_of" = true) (k8 : PySem.W.keepIn K (.ref f8) = true)
    (a9 : PySem.W.nsIn K mainGlobals "lots" = some (some (.ref f9))) (l9 : K.lookup f9 = some ⟨oc9, od9, .func (PySem.W.fnOf "lots" "lots" (defArgs (top 16)) (defBody (top 16)) (defScope (top 16)) .none kV9 dc9 pm9 an9 cd9 ct9), sl9⟩) (c9 : PySem.W.codeIn K cd9 "lots" = true) (k9 : PySem.W.keepIn K (.ref f9) = true)
    (a10 : PySem.W.nsIn K mainGlobals "turnings_from" = some (some (.ref f10))) (l10 : K.lookup f10 = some ⟨oc10, od10, .func (PySem.W.fnOf "turnings_from" "turnings_from" (defArgs (top 19)) (defBody (top 19)) (defScope (top 19)) .none kV10 dc10 pm10 an10 cd10 ct10), sl10⟩) (c10 : PySem.W.codeIn K cd10 "turnings_from" = true) (k10 : PySem.W.keepIn K (.ref f10) = true)
    (a11 : PySem.W.nsIn K mainGlobals "picks" = some (some (.ref f11))) (l11 : K.lookup f11 = some ⟨oc11, od11, .func (PySem.W.fnOf "picks" "picks" (defArgs (top 20)) (defBody (top 20)) (defScope (top 20)) .none kV11 dc11 pm11 an11 cd11 ct11), sl11⟩) (c11 : PySem.W.codeIn K cd11 "picks" = true) (k11 : PySem.W.keepIn K (.ref f11) = true)
    (a12 : PySem.W.nsIn K mainGlobals "is_tree" = some (some (.ref f12))) (l12 : K.lookup f12 = some ⟨oc12, od12, .func (PySem.W.fnOf "is_tree" "is_tree" (defArgs (top 21)) (defBody (top 21)) (defScope (top 21)) .none kV12 dc12 pm12 an12 cd12 ct12), sl12⟩) (c12 : PySem.W.codeIn K cd12 "is_tree" = true) (k12 : PySem.W.keepIn K (.ref f12) = true)
    (a13 : PySem.W.nsIn K mainGlobals "pace_product" = some (some (.ref f13))) (l13 : K.lookup f13 = some ⟨oc13, od13, .func (PySem.W.fnOf "pace_product" "pace_product" (defArgs (top 22)) (defBody (top 22)) (defScope (top 22)) .none kV13 dc13 pm13 an13 cd13 ct13), sl13⟩) (c13 : PySem.W.codeIn K cd13 "pace_product" = true) (k13 : PySem.W.keepIn K (.ref f13) = true)
    (a14 : PySem.W.nsIn K mainGlobals "tree_weight" = some (some (.ref f14))) (l14 : K.lookup f14 = some ⟨oc14, od14, .func (PySem.W.fnOf "tree_weight" "tree_weight" (defArgs (top 23)) (defBody (top 23)) (defScope (top 23)) .none kV14 dc14 pm14 an14 cd14 ct14), sl14⟩) (c14 : PySem.W.codeIn K cd14 "tree_weight" = true) (k14 : PySem.W.keepIn K (.ref f14) = true)
    (a15 : PySem.W.nsIn K mainGlobals "tree_weights" = some (some (.ref f15))) (l15 : K.lookup f15 = some ⟨oc15, od15, .func (PySem.W.fnOf "tree_weights" "tree_weights" (defArgs (top 24)) (defBody (top 24)) (defScope (top 24)) .none kV15 dc15 pm15 an15 cd15 ct15), sl15⟩) (c15 : PySem.W.codeIn K cd15 "tree_weights" = true) (k15 : PySem.W.keepIn K (.ref f15) = true)
    (a16 : PySem.W.nsIn K mainGlobals "_law_cell_at" = some (some (.ref f16))) (l16 : K.lookup f16 = some ⟨oc16, od16, .func (PySem.W.fnOf "_law_cell_at" "_law_cell_at" (defArgs (top 26)) (defBody (top 26)) (defScope (top 26)) .none kV16 dc16 pm16 an16 cd16 ct16), sl16⟩) (c16 : PySem.W.codeIn K cd16 "_law_cell_at" = true) (k16 : PySem.W.keepIn K (.ref f16) = true)
    (a17 : PySem.W.nsIn K mainGlobals "_law_mixed" = some (some (.ref f17))) (l17 : K.lookup f17 = some ⟨oc17, od17, .func (PySem.W.fnOf "_law_mixed" "_law_mixed" (defArgs (top 27)) (defBody (top 27)) (defScope (top 27)) .none kV17 dc17 pm17 an17 cd17 ct17), sl17⟩) (c17 : PySem.W.codeIn K cd17 "_law_mixed" = true) (k17 : PySem.W.keepIn K (.ref f17) = true)
    (a18 : PySem.W.nsIn K mainGlobals "_law_divisor" = some (some (.ref f18))) (l18 : K.lookup f18 = some ⟨oc18, od18, .func (PySem.W.fnOf "_law_divisor" "_law_divisor" (defArgs (top 28)) (defBody (top 28)) (defScope (top 28)) .none kV18 dc18 pm18 an18 cd18 ct18), sl18⟩) (c18 : PySem.W.codeIn K cd18 "_law_divisor" = true) (k18 : PySem.W.keepIn K (.ref f18) = true)
    (a19 : PySem.W.nsIn K mainGlobals "_law_lowest" = some (some (.ref f19))) (l19 : K.lookup f19 = some ⟨oc19, od19, .func (PySem.W.fnOf "_law_lowest" "_law_lowest" (defArgs (top 29)) (defBody (top 29)) (defScope (top 29)) .none kV19 dc19 pm19 an19 cd19 ct19), sl19⟩) (c19 : PySem.W.codeIn K cd19 "_law_lowest" = true) (k19 : PySem.W.keepIn K (.ref f19) = true)
    (a20 : PySem.W.nsIn K mainGlobals "_law_words" = some (some (.ref f20))) (l20 : K.lookup f20 = some ⟨oc20, od20, .func (PySem.W.fnOf "_law_words" "_law_words" (defArgs (top 30)) (defBody (top 30)) (defScope (top 30)) .none kV20 dc20 pm20 an20 cd20 ct20), sl20⟩) (c20 : PySem.W.codeIn K cd20 "_law_words" = true) (k20 : PySem.W.keepIn K (.ref f20) = true)
    (a21 : PySem.W.nsIn K mainGlobals "_law_heap" = some (some (.ref f21))) (l21 : K.lookup f21 = some ⟨oc21, od21, .func (PySem.W.fnOf "_law_heap" "_law_heap" (defArgs (top 31)) (defBody (top 31)) (defScope (top 31)) .none kV21 dc21 pm21 an21 cd21 ct21), sl21⟩) (c21 : PySem.W.codeIn K cd21 "_law_heap" = true) (k21 : PySem.W.keepIn K (.ref f21) = true)
    (a22 : PySem.W.nsIn K mainGlobals "_law_pool" = some (some (.ref f22))) (l22 : K.lookup f22 = some ⟨oc22, od22, .func (PySem.W.fnOf "_law_pool" "_law_pool" (defArgs (top 32)) (defBody (top 32)) (defScope (top 32)) .none kV22 dc22 pm22 an22 cd22 ct22), sl22⟩) (c22 : PySem.W.codeIn K cd22 "_law_pool" = true) (k22 : PySem.W.keepIn K (.ref f22) = true)
    (a23 : PySem.W.nsIn K mainGlobals "_law_pairs" = some (some (.ref f23))) (l23 : K.lookup f23 = some ⟨oc23, od23, .func (PySem.W.fnOf "_law_pairs" "_law_pairs" (defArgs (top 33)) (defBody (top 33)) (defScope (top 33)) .none kV23 dc23 pm23 an23 cd23 ct23), sl23⟩) (c23 : PySem.W.codeIn K cd23 "_law_pairs" = true) (k23 : PySem.W.keepIn K (.ref f23) = true)
    (a24 : PySem.W.nsIn K mainGlobals "_law_pace" = some (some (.ref f24))) (l24 : K.lookup f24 = some ⟨oc24, od24, .func (PySem.W.fnOf "_law_pace" "_law_pace" (defArgs (top 34)) (defBody (top 34)) (defScope (top 34)) .none kV24 dc24 pm24 an24 cd24 ct24), sl24⟩) (c24 : PySem.W.codeIn K cd24 "_law_pace" = true) (k24 : PySem.W.keepIn K (.ref f24) = true)
    (a25 : PySem.W.nsIn K mainGlobals "_law_vessel" = some (some (.ref f25))) (l25 : K.lookup f25 = some ⟨oc25, od25, .func (PySem.W.fnOf "_law_vessel" "_law_vessel" (defArgs (top 35)) (defBody (top 35)) (defScope (top 35)) .none kV25 dc25 pm25 an25 cd25 ct25), sl25⟩) (c25 : PySem.W.codeIn K cd25 "_law_vessel" = true) (k25 : PySem.W.keepIn K (.ref f25) = true)
    (a26 : PySem.W.nsIn K mainGlobals "_law_heaps" = some (some (.ref f26))) (l26 : K.lookup f26 = some ⟨oc26, od26, .func (PySem.W.fnOf "_law_heaps" "_law_heaps" (defArgs (top 36)) (defBody (top 36)) (defScope (top 36)) .none kV26 dc26 pm26 an26 cd26 ct26), sl26⟩) (c26 : PySem.W.codeIn K cd26 "_law_heaps" = true) (k26 : PySem.W.keepIn K (.ref f26) = true)
    (a27 : PySem.W.nsIn K mainGlobals "_law_ends" = some (some (.ref f27))) (l27 : K.lookup f27 = some ⟨oc27, od27, .func (PySem.W.fnOf "_law_ends" "_law_ends" (defArgs (top 37)) (defBody (top 37)) (defScope (top 37)) .none kV27 dc27 pm27 an27 cd27 ct27), sl27⟩) (c27 : PySem.W.codeIn K cd27 "_law_ends" = true) (k27 : PySem.W.keepIn K (.ref f27) = true)
    (a28 : PySem.W.nsIn K mainGlobals "_law_reach" = some (some (.ref f28))) (l28 : K.lookup f28 = some ⟨oc28, od28, .func (PySem.W.fnOf "_law_reach" "_law_reach" (defArgs (top 38)) (defBody (top 38)) (defScope (top 38)) .none kV28 dc28 pm28 an28 cd28 ct28), sl28⟩) (c28 : PySem.W.codeIn K cd28 "_law_reach" = true) (k28 : PySem.W.keepIn K (.ref f28) = true)
    (a29 : PySem.W.nsIn K mainGlobals "_law_plus" = some (some (.ref f29))) (l29 : K.lookup f29 = some ⟨oc29, od29, .func (PySem.W.fnOf "_law_plus" "_law_plus" (defArgs (top 39)) (defBody (top 39)) (defScope (top 39)) .none kV29 dc29 pm29 an29 cd29 ct29), sl29⟩) (c29 : PySem.W.codeIn K cd29 "_law_plus" = true) (k29 : PySem.W.keepIn K (.ref f29) = true)
    (a30 : PySem.W.nsIn K mainGlobals "_law_times" = some (some (.ref f30))) (l30 : K.lookup f30 = some ⟨oc30, od30, .func (PySem.W.fnOf "_law_times" "_law_times" (defArgs (top 40)) (defBody (top 40)) (defScope (top 40)) .none kV30 dc30 pm30 an30 cd30 ct30), sl30⟩) (c30 : PySem.W.codeIn K cd30 "_law_times" = true) (k30 : PySem.W.keepIn K (.ref f30) = true)
    (a31 : PySem.W.nsIn K mainGlobals "_law_trees" = some (some (.ref f31))) (l31 : K.lookup f31 = some ⟨oc31, od31, .func (PySem.W.fnOf "_law_trees" "_law_trees" (defArgs (top 41)) (defBody (top 41)) (defScope (top 41)) .none kV31 dc31 pm31 an31 cd31 ct31), sl31⟩) (c31 : PySem.W.codeIn K cd31 "_law_trees" = true) (k31 : PySem.W.keepIn K (.ref f31) = true)
    (a32 : PySem.W.nsIn K mainGlobals "_law_all_come" = some (some (.ref f32))) (l32 : K.lookup f32 = some ⟨oc32, od32, .func (PySem.W.fnOf "_law_all_come" "_law_all_come" (defArgs (top 42)) (defBody (top 42)) (defScope (top 42)) .none kV32 dc32 pm32 an32 cd32 ct32), sl32⟩) (c32 : PySem.W.codeIn K cd32 "_law_all_come" = true) (k32 : PySem.W.keepIn K (.ref f32) = true)
    (a33 : PySem.W.nsIn K mainGlobals "_law_same" = some (some (.ref f33))) (l33 : K.lookup f33 = some ⟨oc33, od33, .func (PySem.W.fnOf "_law_same" "_law_same" (defArgs (top 43)) (defBody (top 43)) (defScope (top 43)) .none kV33 dc33 pm33 an33 cd33 ct33), sl33⟩) (c33 : PySem.W.codeIn K cd33 "_law_same" = true) (k33 : PySem.W.keepIn K (.ref f33) = true)
    (a34 : PySem.W.nsIn K mainGlobals "law" = some (some (.ref f34))) (l34 : K.lookup f34 = some ⟨oc34, od34, .func (PySem.W.fnOf "law" "law" (defArgs (top 44)) (defBody (top 44)) (defScope (top 44)) .none kV34 dc34 pm34 an34 cd34 ct34), sl34⟩) (c34 : PySem.W.codeIn K cd34 "law" = true) (k34 : PySem.W.keepIn K (.ref f34) = true)
    (z_len : PySem.W.nsIn K mainGlobals "len" = some none)
    (z_abs : PySem.W.nsIn K mainGlobals "abs" = some none)
    (z_range : PySem.W.nsIn K mainGlobals "range" = some none)
    (z_isinstance : PySem.W.nsIn K mainGlobals "isinstance" = some none)
    (z_int : PySem.W.nsIn K mainGlobals "int" = some none)
    (z_bool : PySem.W.nsIn K mainGlobals "bool" = some none)
    (z_tuple : PySem.W.nsIn K mainGlobals "tuple" = some none)
    (z_list : PySem.W.nsIn K mainGlobals "list" = some none)
    (z_str : PySem.W.nsIn K mainGlobals "str" = some none)
    (z_zip : PySem.W.nsIn K mainGlobals "zip" = some none)
    (z_set : PySem.W.nsIn K mainGlobals "set" = some none)
    (z_all : PySem.W.nsIn K mainGlobals "all" = some none)
    (z_any : PySem.W.nsIn K mainGlobals "any" = some none)
    (z_min : PySem.W.nsIn K mainGlobals "min" = some none)
    (z_max : PySem.W.nsIn K mainGlobals "max" = some none)
    (z_sum : PySem.W.nsIn K mainGlobals "sum" = some none)
    (z_sorted : PySem.W.nsIn K mainGlobals "sorted" = some none)
    (z_enumerate : PySem.W.nsIn K mainGlobals "enumerate" = some none)
    (z_reversed : PySem.W.nsIn K mainGlobals "reversed" = some none)
    (z_dict : PySem.W.nsIn K mainGlobals "dict" = some none)
    (z_ord : PySem.W.nsIn K mainGlobals "ord" = some none)
    (z_divmod : PySem.W.nsIn K mainGlobals "divmod" = some none)
    {tn0 tn1 to0 to1 : Tok} {nq oq : Addr} {nqd oqd : Option Addr} {nqn oqn : Nat} {nqs oqs : Array (Option Value)}
    (hcnN : PySem.W.nsIn K mainGlobals "NOUGHT" = some (some (.ref nq)))
    (hcnL : K.lookup nq = some ⟨.type "tuple", nqd, .seq #[.int 0 tn0, .int 1 tn1] nqn, nqs⟩)
    (hcnO : PySem.W.nsIn K mainGlobals "ONE" = some (some (.ref oq)))
    (hcnM : K.lookup oq = some ⟨.type "tuple", oqd, .seq #[.int 1 to0, .int 1 to1] oqn, oqs⟩)
    : ∃ fd : FuncData, (∀ (s : Shared) (v : Value), BindsTo s fd ⟨[v], []⟩ [("_law_script", v)]) ∧ ∀ base : Heap, K.In base → base.Ns mainGlobals mg → FnOk l.prog w K mg base CX0 7 fa fd ["_law_script"] (spLaw K) := by
  have e := hfa.symm.trans (PySem.W.mg_of X G a34)
  cases e
  have B : Blt mg := ⟨PySem.W.mg_none_of X G z_len, PySem.W.mg_none_of X G z_abs, PySem.W.mg_none_of X G z_range, PySem.W.mg_none_of X G z_isinstance, PySem.W.mg_none_of X G z_int, PySem.W.mg_none_of X G z_bool, PySem.W.mg_none_of X G z_tuple, PySem.W.mg_none_of X G z_list, PySem.W.mg_none_of X G z_str, PySem.W.mg_none_of X G z_zip, PySem.W.mg_none_of X G z_set, PySem.W.mg_none_of X G z_all, PySem.W.mg_none_of X G z_any, PySem.W.mg_none_of X G z_min, PySem.W.mg_none_of X G z_max, PySem.W.mg_none_of X G z_sum, PySem.W.mg_none_of X G z_sorted, PySem.W.mg_none_of X G z_enumerate, PySem.W.mg_none_of X G z_reversed, PySem.W.mg_none_of X G z_dict, PySem.W.mg_none_of X G z_ord, PySem.W.mg_none_of X G z_divmod⟩
  have F0 : FunAt K mg "whole" (top 4) ["value"] := funAt_mk X G a0 l0 c0 k0 (bd1 rfl fun _ _ _ _ _ _ _ => rfl)
  have F1 : FunAt K mg "greatest_divisor" (top 5) ["one", "two"] := funAt_mk X G a1 l1 c1 k1 (bd2 rfl fun _ _ _ _ _ _ _ _ => rfl)
  have F2 : FunAt K mg "fraction" (top 6) ["top", "bottom"] := funAt_mk X G a2 l2 c2 k2 (bd2 rfl fun _ _ _ _ _ _ _ _ => rfl)
  have F3 : FunAt K mg "plus" (top 7) ["one", "two"] := funAt_mk X G a3 l3 c3 k3 (bd2 rfl fun _ _ _ _ _ _ _ _ => rfl)
  have F4 : FunAt K mg "times" (top 8) ["one", "two"] := funAt_mk X G a4 l4 c4 k4 (bd2 rfl fun _ _ _ _ _ _ _ _ => rfl)
  have F5 : FunAt K mg "heaps_of" (top 11) ["turnings"] := funAt_mk X G a5 l5 c5 k5 (bd1 rfl fun _ _ _ _ _ _ _ => rfl)
  have F6 : FunAt K mg "heaps" (top 12) ["vessel"] := funAt_mk X G a6 l6 c6 k6 (bd1 rfl fun _ _ _ _ _ _ _ => rfl)
  have F7 : FunAt K mg "heap_numbers" (top 14) ["vessel"] := funAt_mk X G a7 l7 c7 k7 (bd1 rfl fun _ _ _ _ _ _ _ => rfl)
  have F8 : FunAt K mg "places_of" (top 15) ["things", "thing"] := funAt_mk X G a8 l8 c8 k8 (bd2 rfl fun _ _ _ _ _ _ _ _ => rfl)
  have F9 : FunAt K mg "lots" (top 16) ["vessel"] := funAt_mk X G a9 l9 c9 k9 (bd1 rfl fun _ _ _ _ _ _ _ => rfl)
  have F10 : FunAt K mg "turnings_from" (top 19) ["ends", "heap"] := funAt_mk X G a10 l10 c10 k10 (bd2 rfl fun _ _ _ _ _ _ _ _ => rfl)
  have F11 : FunAt K mg "picks" (top 20) ["ends", "some"] := funAt_mk X G a11 l11 c11 k11 (bd2 rfl fun _ _ _ _ _ _ _ _ => rfl)
  have F12 : FunAt K mg "is_tree" (top 21) ["ends", "pick", "heap"] := funAt_mk X G a12 l12 c12 k12 (bd3 rfl fun _ _ _ _ _ _ _ _ _ => rfl)
  have F13 : FunAt K mg "pace_product" (top 22) ["turnings", "pick"] := funAt_mk X G a13 l13 c13 k13 (bd2 rfl fun _ _ _ _ _ _ _ _ => rfl)
  have F14 : FunAt K mg "tree_weight" (top 23) ["turnings", "ends", "lot", "heap"] := funAt_mk X G a14 l14 c14 k14 (bd4 rfl fun _ _ _ _ _ _ _ _ _ _ => rfl)
  have F15 : FunAt K mg "tree_weights" (top 24) ["vessel"] := funAt_mk X G a15 l15 c15 k15 (bd1 rfl fun _ _ _ _ _ _ _ => rfl)
  have F16 : FunAt K mg "_law_cell_at" (top 26) ["_law_script", "_law_k"] := funAt_mk X G a16 l16 c16 k16 (bd2 rfl fun _ _ _ _ _ _ _ _ => rfl)
  have F17 : FunAt K mg "_law_mixed" (top 27) ["_law_cell", "_law_place"] := funAt_mk X G a17 l17 c17 k17 (bd2 rfl fun _ _ _ _ _ _ _ _ => rfl)
  have F18 : FunAt K mg "_law_divisor" (top 28) ["_law_one", "_law_two"] := funAt_mk X G a18 l18 c18 k18 (bd2 rfl fun _ _ _ _ _ _ _ _ => rfl)
  have F19 : FunAt K mg "_law_lowest" (top 29) ["_law_top", "_law_bottom"] := funAt_mk X G a19 l19 c19 k19 (bd2 rfl fun _ _ _ _ _ _ _ _ => rfl)
  have F20 : FunAt K mg "_law_words" (top 30) ["_law_number", "_law_many"] := funAt_mk X G a20 l20 c20 k20 (bd2 rfl fun _ _ _ _ _ _ _ _ => rfl)
  have F21 : FunAt K mg "_law_heap" (top 31) ["_law_cell", "_law_k", "_law_many", "_law_top", "_law_plain"] := funAt_mk X G a21 l21 c21 k21 (bd5 rfl fun _ _ _ _ _ _ _ _ _ _ _ => rfl)
  have F22 : FunAt K mg "_law_pool" (top 32) ["_law_script", "_law_at", "_law_many", "_law_size", "_law_top", "_law_plain"] := funAt_mk X G a22 l22 c22 k22 (bd6 rfl fun _ _ _ _ _ _ _ _ _ _ _ _ => rfl)
  have F23 : FunAt K mg "_law_pairs" (top 33) ["_law_script", "_law_at", "_law_size", "_law_kind", "_law_plain"] := funAt_mk X G a23 l23 c23 k23 (bd5 rfl fun _ _ _ _ _ _ _ _ _ _ _ => rfl)
  have F24 : FunAt K mg "_law_pace" (top 34) ["_law_cell", "_law_kind"] := funAt_mk X G a24 l24 c24 k24 (bd2 rfl fun _ _ _ _ _ _ _ _ => rfl)
  have F25 : FunAt K mg "_law_vessel" (top 35) ["_law_script", "_law_at"] := funAt_mk X G a25 l25 c25 k25 (bd2 rfl fun _ _ _ _ _ _ _ _ => rfl)
  have F26 : FunAt K mg "_law_heaps" (top 36) ["_law_vessel_here"] := funAt_mk X G a26 l26 c26 k26 (bd1 rfl fun _ _ _ _ _ _ _ => rfl)
  have F27 : FunAt K mg "_law_ends" (top 37) ["_law_vessel_here"] := funAt_mk X G a27 l27 c27 k27 (bd1 rfl fun _ _ _ _ _ _ _ => rfl)
  have F28 : FunAt K mg "_law_reach" (top 38) ["_law_ends_here", "_law_one"] := funAt_mk X G a28 l28 c28 k28 (bd2 rfl fun _ _ _ _ _ _ _ _ => rfl)
  have F29 : FunAt K mg "_law_plus" (top 39) ["_law_one", "_law_two"] := funAt_mk X G a29 l29 c29 k29 (bd2 rfl fun _ _ _ _ _ _ _ _ => rfl)
  have F30 : FunAt K mg "_law_times" (top 40) ["_law_one", "_law_two"] := funAt_mk X G a30 l30 c30 k30 (bd2 rfl fun _ _ _ _ _ _ _ _ => rfl)
  have F31 : FunAt K mg "_law_trees" (top 41) ["_law_vessel_here", "_law_root"] := funAt_mk X G a31 l31 c31 k31 (bd2 rfl fun _ _ _ _ _ _ _ _ => rfl)
  have F32 : FunAt K mg "_law_all_come" (top 42) ["_law_goes", "_law_others", "_law_root"] := funAt_mk X G a32 l32 c32 k32 (bd3 rfl fun _ _ _ _ _ _ _ _ _ => rfl)
  have F33 : FunAt K mg "_law_same" (top 43) ["_law_found", "_law_due"] := funAt_mk X G a33 l33 c33 k33 (bd2 rfl fun _ _ _ _ _ _ _ _ => rfl)
  refine ⟨PySem.W.fnOf "law" "law" (defArgs (top 44)) (defBody (top 44)) (defScope (top 44)) .none kV34 dc34 pm34 an34 cd34 ct34, fun s v => .of_eq rfl, fun base _ _ => ?_⟩
  have G : Cn K mg nq oq := ⟨PySem.W.mg_of X G hcnN, PySem.W.mg_of X G hcnO, fun H => .inr ⟨_, _, _, hcnL, rfl, rfl, by show 2 ≤ sizeLine; decide, .cons ⟨_, rfl⟩ (.cons ⟨_, rfl⟩ .nil)⟩, fun H => .inr ⟨_, _, _, hcnM, rfl, rfl, by show 2 ≤ sizeLine; decide, .cons ⟨_, rfl⟩ (.cons ⟨_, rfl⟩ .nil)⟩⟩
  exact ok_all G (fun_mk (st := top 44) l34 c34 k34) B F0 F1 F2 F3 F4 F5 F6 F7 F8 F9 F10 F11 F12 F13 F14 F15 F16 F17 F18 F19 F20 F21 F22 F23 F24 F25 F26 F27 F28 F29 F30 F31 F32 F33
theorem walk {l : PySem.W.OpenLaw} {q : Program} {loose : List Str} {XP : (Str → Option Value) → Heap → Prop} {YP : World → Heap → Prop} {d : DefRec} {K : Params → PySem.W.Frag} (hn : l.most = some 63) (hdf : d.params.defaults = [])
    (hY : ∀ (w : World) (h : Heap), YP w h → (K w.params).In h)
    (F : ∀ (w : World) (mg : Str → Option Value) (fa : Addr) (h : Heap), (K w.params).In h → h.Ns mainGlobals mg → mg d.name = some (.ref fa) →
      ∃ fd : FuncData, (∀ (s : Shared) (u : Value), BindsTo s fd ⟨[u], []⟩ [("_law_script", u)]) ∧ ∀ base : Heap, (K w.params).In base → base.Ns mainGlobals mg → FnOk l.prog w (K w.params) mg base CX0 7 fa fd ["_law_script"] (spLaw (K w.params))) :
    PySem.W.WalkO q loose XP YP l.row.toRowW d [] (fun f vs => PySem.call f vs) :=
  L2.walk_of (n := 63) (k := 7) (x := "_law_script") (CX := fun _ => CX0) (sp := fun w => spLaw (K w.params)) hn (by decide) hdf ⟨rfl, by decide, by decide⟩ hY F (fun _ _ a ns hl _ hS => ⟨a, ns, rfl, hS, hl, fun _ => rfl⟩) fun _ _ _ _ _ z => z
end K85
open PySem PySem.W PyProof.Rows
set_option maxRecDepth 100000 in
set_option maxHeartbeats 0 in
theorem PySem.Challenge.cw_vesselhall_k85_tree_weights_holds : PySem.Challenge.rw_vesselhall_k85_tree_weights.Holds := by
  w_on; o_law; k_head; (case hw => w_witness2)
  k_fill
  refine K85.walk (l := PySem.Challenge.rw_vesselhall_k85_tree_weights) rfl rfl (fun w h Y => PySem.W.kIn_of Y) ?F
  case F =>
    intro w mg fa h KX G hmg
    refine' K85.all_mk KX G hmg ?a0 ?l0 ?c0 ?k0 ?a1 ?l1 ?c1 ?k1 ?a2 ?l2 ?c2 ?k2 ?a3 ?l3 ?c3 ?k3 ?a4 ?l4 ?c4 ?k4 ?a5 ?l5 ?c5 ?k5 ?a6 ?l6 ?c6 ?k6 ?a7 ?l7 ?c7 ?k7 ?a8 ?l8 ?c8 ?k8 ?a9 ?l9 ?c9 ?k9 ?a10 ?l10 ?c10 ?k10 ?a11 ?l11 ?c11 ?k11 ?a12 ?l12 ?c12 ?k12 ?a13 ?l13 ?c13 ?k13 ?a14 ?l14 ?c14 ?k14 ?a15 ?l15 ?c15 ?k15 ?a16 ?l16 ?c16 ?k16 ?a17 ?l17 ?c17 ?k17 ?a18 ?l18 ?c18 ?k18 ?a19 ?l19 ?c19 ?k19 ?a20 ?l20 ?c20 ?k20 ?a21 ?l21 ?c21 ?k21 ?a22 ?l22 ?c22 ?k22 ?a23 ?l23 ?c23 ?k23 ?a24 ?l24 ?c24 ?k24 ?a25 ?l25 ?c25 ?k25 ?a26 ?l26 ?c26 ?k26 ?a27 ?l27 ?c27 ?k27 ?a28 ?l28 ?c28 ?k28 ?a29 ?l29 ?c29 ?k29 ?a30 ?l30 ?c30 ?k30 ?a31 ?l31 ?c31 ?k31 ?a32 ?l32 ?c32 ?k32 ?a33 ?l33 ?c33 ?k33 ?a34 ?l34 ?c34 ?k34 ?z_len ?z_abs ?z_range ?z_isinstance ?z_int ?z_bool ?z_tuple ?z_list ?z_str ?z_zip ?z_set ?z_all ?z_any ?z_min ?z_max ?z_sum ?z_sorted ?z_enumerate ?z_reversed ?z_dict ?z_ord ?z_divmod ?hcnN ?hcnL ?hcnO ?hcnM
    (case a0 => k_is)
    (case l0 => k_is)
    (case c0 => k_is)
    (case k0 => k_is)
    (case a1 => k_is)
    (case l1 => k_is)
    (case c1 => k_is)
    (case k1 => k_is)
    (case a2 => k_is)
    (case l2 => k_is)
    (case c2 => k_is)
    (case k2 => k_is)
    (case a3 => k_is)
    (case l3 => k_is)
    (case c3 => k_is)
    (case k3 => k_is)
    (case a4 => k_is)
    (case l4 => k_is)
    (case c4 => k_is)
    (case k4 => k_is)
    (case a5 => k_is)
    (case l5 => k_is)
    (case c5 => k_is)
    (case k5 => k_is)
    (case a6 => k_is)
    (case l6 => k_is)
    (case c6 => k_is)
    (case k6 => k_is)
    (case a7 => k_is)
    (case l7 => k_is)
    (case c7 => k_is)
    (case k7 => k_is)
    (case a8 => k_is)
    (case l8 => k_is)
    (case c8 => k_is)
    (case k8 => k_is)
    (case a9 => k_is)
    (case l9 => k_is)
    (case c9 => k_is)
    (case k9 => k_is)
    (case a10 => k_is)
    (case l10 => k_is)
    (case c10 => k_is)
    (case k10 => k_is)
    (case a11 => k_is)
    (case l11 => k_is)
    (case c11 => k_is)
    (case k11 => k_is)
    (case a12 => k_is)
    (case l12 => k_is)
    (case c12 => k_is)
    (case k12 => k_is)
    (case a13 => k_is)
    (case l13 => k_is)
    (case c13 => k_is)
    (case k13 => k_is)
    (case a14 => k_is)
    (case l14 => k_is)
    (case c14 => k_is)
    (case k14 => k_is)
    (case a15 => k_is)
    (case l15 => k_is)
    (case c15 => k_is)
    (case k15 => k_is)
    (case a16 => k_is)
    (case l16 => k_is)
    (case c16 => k_is)
    (case k16 => k_is)
    (case a17 => k_is)
    (case l17 => k_is)
    (case c17 => k_is)
    (case k17 => k_is)
    (case a18 => k_is)
    (case l18 => k_is)
    (case c18 => k_is)
    (case k18 => k_is)
    (case a19 => k_is)
    (case l19 => k_is)
    (case c19 => k_is)
    (case k19 => k_is)
    (case a20 => k_is)
    (case l20 => k_is)
    (case c20 => k_is)
    (case k20 => k_is)
    (case a21 => k_is)
    (case l21 => k_is)
    (case c21 => k_is)
    (case k21 => k_is)
    (case a22 => k_is)
    (case l22 => k_is)
    (case c22 => k_is)
    (case k22 => k_is)
    (case a23 => k_is)
    (case l23 => k_is)
    (case c23 => k_is)
    (case k23 => k_is)
    (case a24 => k_is)
    (case l24 => k_is)
    (case c24 => k_is)
    (case k24 => k_is)
    (case a25 => k_is)
    (case l25 => k_is)
    (case c25 => k_is)
    (case k25 => k_is)
    (case a26 => k_is)
    (case l26 => k_is)
    (case c26 => k_is)
    (case k26 => k_is)
    (case a27 => k_is)
    (case l27 => k_is)
    (case c27 => k_is)
    (case k27 => k_is)
    (case a28 => k_is)
    (case l28 => k_is)
    (case c28 => k_is)
    (case k28 => k_is)
    (case a29 => k_is)
    (case l29 => k_is)
    (case c29 => k_is)
    (case k29 => k_is)
    (case a30 => k_is)
    (case l30 => k_is)
    (case c30 => k_is)
    (case k30 => k_is)
    (case a31 => k_is)
    (case l31 => k_is)
    (case c31 => k_is)
    (case k31 => k_is)
    (case a32 => k_is)
    (case l32 => k_is)
    (case c32 => k_is)
    (case k32 => k_is)
    (case a33 => k_is)
    (case l33 => k_is)
    (case c33 => k_is)
    (case k33 => k_is)
    (case a34 => k_is)
    (case l34 => k_is)
    (case c34 => k_is)
    (case k34 => k_is)
    (case z_len => k_is)
    (case z_abs => k_is)
    (case z_range => k_is)
    (case z_isinstance => k_is)
    (case z_int => k_is)
    (case z_bool => k_is)
    (case z_tuple => k_is)
    (case z_list => k_is)
    (case z_str => k_is)
    (case z_zip => k_is)
    (case z_set => k_is)
    (case z_all => k_is)
    (case z_any => k_is)
    (case z_min => k_is)
    (case z_max => k_is)
    (case z_sum => k_is)
    (case z_sorted => k_is)
    (case z_enumerate => k_is)
    (case z_reversed => k_is)
    (case z_dict => k_is)
    (case z_ord => k_is)
    (case z_divmod => k_is)
    (case hcnN => k_is)
    (case hcnL => k_is)
    (case hcnO => k_is)
    (case hcnM => k_is)
#print axioms PySem.Challenge.cw_vesselhall_k85_tree_weights_holds


